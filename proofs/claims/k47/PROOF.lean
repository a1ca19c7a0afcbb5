import PyProof.Rows.All
import KE.KFromBytes
import KE.KIsAll
import KE.KMinKey
import KE.KSortTup
import KE.KItem
import KE.KLam
import KE.KTryMore
import PySem.Challenge.RW_evenhues_k47_whole_led_on
set_option backward.eqns.nonrecursive false
set_option genSizeOf false
set_option genSizeOfSpec false
set_option bootstrap.genMatcherCode false
set_option Elab.async false
set_option linter.all false
set_option maxRecDepth 100000
noncomputable section
local macro_rules|`(tactic|omega)=>`(tactic|lia)
local macro_rules|`(⋯)=>`(by omega)
set_option maxHeartbeats 4000000
set_option autoImplicit true
set_option relaxedAutoImplicit true
noncomputable section
def byG{G:Prop}(h:∀p:Prop,(G->p)->p):G:=h G id
open And renaming intro->Ai
open Array renaming length_toList->Ax,getD_eq_getD_getElem?->AJ,getElem?_eq_getElem->AN,getElem?_eq_some_iff->A2,toList_append->Bb,getElem?_toList->Bi,perm_iff_toList_perm->CM,size_setIfInBounds->C9,toList_push->De,toList_extract->DN,size_extract->Ea,toList_inj->EI,toList_reverse->EK,getElem?_empty->EL,getElem?_eq_none->FA,mem_toList_iff->F1,replicate->Ga,toList_setIfInBounds->GY,eraseIdxIfInBounds->Ht,getD->Iu
open Bool renaming and_eq_true->ub,false_ne_true->Aj,false_eq_true->As,or_eq_true->Bn,not_eq_true'->BE,eq_iff_iff->BN,false_and->En,or_eq_false_iff->EM,not_true->EY,and_eq_true_iff->Ge,and_false->Gm,eq_false_iff->G9,and_self->IF,and_true->IG
open Classical renaming byContradiction->E4
open Eq renaming trans->E8
open False renaming elim->Dp
open ForInStep renaming yield->C4
open Iff renaming rfl->Dz
open Int renaming le_trans->Be,toNat_natCast->Bx,le_refl->CA,fdiv_eq_ediv_of_nonneg->ET,fmod_eq_emod_of_nonneg->EU,le_of_lt->Fc,natCast_mul->Gd,lt_or_eq_of_le->GJ,emod_lt_of_pos->GN,natCast_ediv->Hz,emod_nonneg->HW,not_lt->Iv
open LawfulBEq renaming eq_of_beq->CG
open LawfulMonad renaming pure_bind->FV,bind_assoc->Iq
open List renaming getElem?_eq_getElem->dS,getD_eq_getElem?_getD->Aa,length_map->Ac,size_toArray->Ae,range->Ag,mem_range->Ah,mem_singleton->Al,getElem?_map->An,mem_cons->Ao,length_cons->Ap,append_assoc->Aq,getElem?_eq_some_iff->Ar,length_append->Aw,lookup_cons->AA,mem_of_getElem?->AD,mem_map->AE,mem_cons_of_mem->AF,map_cons->AG,mem_cons_self->AO,length_range->AQ,replicate->AR,mem_append->AS,getElem?_append_right->AW,mem_append_right->AY,all_eq_true->AZ,getElem?_append_left->A0,append_nil->A5,map_map->A7,take_append_drop->A8,isEmpty_iff->A9,nodup_cons->Bm,filterMap_cons->Bo,mem_append_left->Bp,mem_of_mem_take->Bq,length_take->Bu,getElem_mem->Bv,getElem_of_mem->Bz,drop_eq_getElem_cons->BA,pairwise_iff_getElem->BB,length_singleton->BF,map_congr_left->BG,mem_of_mem_drop->BJ,pairwise_cons->BK,mem_filter->BM,getElem?_take_of_lt->BP,getElem?_set_self->B1,length_drop->B3,take_of_length_le->B4,nodup_range->B5,mem_flatMap->B6,flatMap_cons->Cc,length_nil->Cf,nodup_iff_pairwise_ne->Cm,drop_of_length_le->Cp,length_reverse->Cr,not_mem_nil->Cy,pairwise_map->CF,replicate_succ->CI,getElem?_range->CJ,perm_ext_iff_of_nodup->CO,any_eq_true->CP,filterMap_map->CQ,drop_zero->CT,getElem?_drop->CU,getElem?_eq_none->CV,getElem?_eq_none_iff->CW,extract_eq_drop_take->CY,map_append->Dc,take_sublist->Dd,getElem_drop->Df,getElem_take->Dg,all_cons->Dh,pairwise_singleton->Di,map_eq_flatMap->Dk,cons_append->Dn,idxOf_lt_length_of_mem->Du,getElem?_toArray->Dy,flatten_cons->DI,getElem?_set_ne->DJ,pairwise_append->DM,reverse_reverse->DO,getElem?_of_mem->DQ,drop_drop->DS,ext_getElem->DV,length_pos_iff->DY,any_cons->DZ,mem_filterMap->D2,length_set->D4,nil_append->D6,getElem_idxOf->D9,flatMap_singleton->Eh,nodup_append->El,length_replicate->Eo,map_nil->Er,perm_append_comm->Es,take_take->Et,length_filter_le->EC,getElem_inj->ED,foldl->EF,countP_cons->EH,count_eq_length->EN,zip_cons_cons->Fg,take_succ->Fi,getElem?_cons_succ->Fo,length->Fw,range_succ_eq_map->Fx,pairwise_lt_range->FC,filter_eq_nil_iff->FD,map_reverse->FQ,pairwise_flatMap->F0,take_append_of_le_length->Gf,eq_nil_of_length_eq_zero->Gg,toList_toArray->Gj,map->Gy,Perm->GI,getElem_range->GO,ne_nil_of_mem->GP,take_add->GX,drop_sublist->G8,ext_getElem?->Ha,exists_mem_of_ne_nil->Hj,take_length->Ho,length_filterMap_le->Hr,perm_middle->Hu,isEmpty_nil->Hw,mem_reverse->HA,map_flatMap->HB,getElem_map->HC,getElem?_replicate->HD,length_eq_zero_iff->HF,of_mem_zip->HJ,foldl_cons->HK,forIn_cons->HN,range_succ->HX,forIn_nil->Ih,drop_take->Ij,take_zero->Ik,nodup_nil->Il
open List.Pairwise renaming imp_of_mem->DW,nil->G5
open List.Perm renaming refl->Ez,eq_of_pairwise->Hv
open List.cons renaming injEq->HY
open Nat renaming le_refl->Ad,le_trans->Au,ne_of_lt->Ay,lt_of_lt_of_le->AK,zero_le->AV,lt_succ_of_lt->BD,mul_comm->BR,zero_add->BS,lt_irrefl->BX,lt_of_succ_lt->B9,le_of_eq->Ce,lt_of_le_of_ne->Cj,lt_succ_self->Cz,le_succ->CZ,not_lt_zero->C8,lt_or_ge->Dv,min_eq_left->D7,pos_of_ne_zero->D8,lt_of_le_of_lt->Eb,eq_zero_of_not_pos->Eg,lt_trichotomy->Ej,le_of_lt->Em,sub_self->Eu,lt_iff_add_one_le->EA,le_div_iff_mul_le->EB,min_le_right->EE,le_add_right->EJ,mul_le_mul_right->ES,add_le_add_left->E2,ne_of_gt->E6,add_zero->Fd,succ_pos->Fe,mul_le_mul->Fh,add_sub_cancel_left->Fm,le_of_lt_succ->Fu,one_pos->Fz,succ_le_succ->FO,lt_of_sub_eq_succ->FY,sub_zero->F3,le_add_left->F7,sub_lt->F8,le_antisymm->F9,sub_le->He,mod_lt->Hf,add_comm->Hm,le_of_not_lt->Hn,add_mul->H9,add_le_add->Ii
open Ne renaming symm->Co
open Option renaming none->pn,map_eq_some_iff->AB,bind_eq_some_iff->Fp,getD_some->FL,isNone_iff_eq_none->Hi,getD_none->Hk
open Option.some renaming inj->AL
open Prod renaming ext->E7
open PyProof renaming noPylong_small->Fv
open PyProof.Rows renaming wpS_bind->Ak,wpS_pure->Av,pendingOf->AU,slot_tuple_getitem->Bd,wpS_forRange->BI,callWith_type1->Ci,wpS_modify->CN,get?_update_seq->C6,wpS_mono->C7,listUpdate_at->DF,SortKind->DG,boot_sorted->DX,seqEpoch_at->Ef,failedOf->Fb,boot_list->Fy,tupleItemsOf_->FE,wpS_lift->FN,boot_min->FZ,entry_list_sort->F4,list_sort_plain->F5,entry_tuple_getitem->Gh,kindOf->Gi,slot_list_sort->Gq,args_list_sort->Gr,assignInOrder_cons->GA,args_tuple_getitem->GC,subscriptTail->GU,listItems_at->Hs,boot_tuple->HG,Subscript_->Ip
open PyProof.Rows.SortSt renaming mk'->F6
open PySem renaming wpAny_bind->dm,wpAny_pure->Ab,sizeLine->AI,foldedSetIterable->AM,sizeLine_eq->AX,Spec->A3,starEach->A6,compareOp->Bc,wpAny_holding->Bh,wpAny_newObj_type->Bj,letOwnedTupleGo->Bl,mainGlobals->Bt,SetTable->Bw,wpAny_call_entry->BC,wpAny_loadPart'->BO,sliceBounds->BV,SetTable->BW,wpAny_standAt->BY,wpAny_mono->B0,binaryOp->B2,wpAny_rule->B8,wpAny_setState_of->Ca,wpAny_callSpecial?_slot->Ck,call_meets->Ct,wpAny_askSetting->Cw,wpAny_truthy_bool->CC,compTurn->CD,sysModules->C0,mem_of_lookup->Dj,wpAny_field->Dq,bootBuiltins->Ds,wpAny_pyIter_tuple->Dt,wpAny_passesOwn->Dx,swappedStores->DA,Comprehension->DC,wpAny_newList->DE,assignEach->DK,wpAny_binaryOp_repeat_ref->DL,cellsFrom->DR,wpAny_typeOf->DT,wpAny_Call_Name_kw->D3,typeIs_int->D5,FuncData->Ec,wpAny_of_eq->Ee,wpAny_pyIter_list->Ei,ofAClassStatement->Ek,wpAny_setField->Ew,attributeBase->EW,inplaceOp->E5,wpAny_comprehension_free->E9,wpAny_pyIter_enum->Ft,foldedForSure->FF,noFill_tuple_add->FH,compPost->FK,wpAny_forIn_list->FP,swapsWith->FU,builtinLookup_eq_fast->FX,wpAny_setEntries_of->Gk,NameKind->Gn,newFunctionEnv->Gp,wpAny_newTuple->Gs,wpAny_seqItems->Gv,firstArgMember->Gw,hashByValue->Gz,PassesOwn->GB,compStart->GG,swapsWithSole->GR,seq_tuple_add->GS,comprehension->GV,wpAny_attempt->GZ,wpAny_letOwnedTupleGo_enum->G0,wpAny_sequenceKey->G3,slot_list_getitem->G4,setsByText->Hg,IsTupleKey->Hh,wpAny_getItem_list_slice->Hl,wpAny_pyNext_enum_itemD->HE,wpAny_execs_nil->HI,noteFrame->HP,codeAny_of_tree->HQ,theWindowsPlace->HS,pickOrder->HU,typeLookup_type->HV,isSubtype_type->Im,assignInOrder->Iz,behindInMarks->IA,wpAny_notedAt->ID,setSearchFrom->IE,lastMarks->IJ,slicePick->IK,putSet_of->IL
open PySem.AutoSeq1 renaming idx_int->Hq
open PySem.Builtin.Frozenset renaming addrOf->Hx
open PySem.Builtin.List renaming listTooLong->DU,listExtendWith->GL,listSameRef->Hy
open PySem.Builtin.Range renaming rangeSize->A4
open PySem.Builtin.Slice renaming sliceAdjust->Bg,slicePlaces->B7,sliceApplied->DB,sliceFields->Hc
open PySem.Builtin.SmallTypes renaming nextOf->DP
open PySem.Builtin.Tuple renaming tupleExact->BQ,tupleItemsOf->EV,tupleTooMany->EX,tupleIsExact->GW
open PySem.Calls renaming call_function_entry->E3,Name_function_global->GQ
open PySem.Data renaming fields->HZ
open PySem.Expr renaming Name->GF,Attribute->Ic,Subscript->Ie,ListComp->IB,Constant->IC
open PySem.Expr.Compare renaming elim->G6
open PySem.Expr.Tuple renaming elim->HM
open PySem.F renaming args_tuple_add_2->Cv,entry_tuple_add->CB,slot_tuple_add->CL,slot_int_rmul->C1,slot_tuple_iterator_next->DH,slot_tuple_mul->EG,plainAttrs_list->Fj,args_int_rmul_2->Fq,slot_int_index->FI,entry_int_rmul->FJ,fills_int_mul->F2,args_tuple_iterator_next_1->Gu,args_tuple_mul_2->GH,entry_tuple_iterator_next->GK,entry_tuple_mul->G7
open PySem.Heap renaming get?_push_of_some->xd,lt_size->Am,get?_push_size->Az,size_push->BL,get?_update_ne->BU,get?_update_self->Cd,SameBut->Cu,get?_update_other->Ed,get?_push_ne->Fs
open PySem.Heap.IsSliceOf renaming new->GD
open PySem.Heap.SameBut renaming update->Cq
open PySem.NameKind renaming free->Ba,cell->BH
open PySem.Obj renaming mapSeq->A1,data_mapFields->Ff,isFreed_of_fields->FW,putSet->Gb,cls_mapFields->Hb
open PySem.Paired renaming length->Iy
open PySem.PyData renaming eqv->Cb,depthAll->CH,depth->Dw,int->EO,eqvAll->FG,canLay0->Io
open PySem.SeqAt renaming EqAt->Br
open PySem.Stmt renaming AugAssign->Ig
open PySem.Str renaming ofString->Ep
open PySem.Value renaming none->Af,ref->Bk,int->Dr,bool->D0,type->D1,isInt_shape->G1,str->II
open PySem.Value.type renaming inj->Ey
open PySem.W renaming Frag->AH,nsIn->BZ,kia_one->Cg,fnOf->CK,codeIn->Dl,keepIn->Dm,mg_of->EZ,tabObj->Gx,methodObj->G2,instObj->HH,lookIn->Ia,kitOne->Ib,recOk->Iw
open PySem.Walks renaming list->Ir
open Sum renaming inl->FR,inr->FT
open True renaming intro->By
section
namespace Hd
open PySem
inductive G where
 |a (i:Int)|c (x:Str)|b (ns:List Int)
noncomputable def args(s:Stmt):Arguments:=match s with
 |.FunctionDef _ a _ _ _ _ _ _ _ _=>a
 |_=>{posonlyargs:=[],args:=[],vararg:=none,kwonlyargs:=[],kw_defaults:=[],kwarg:=none,defaults:=[]}
noncomputable def body(s:Stmt):List Stmt:=match s with
 |.FunctionDef _ _ b _ _ _ _ _ _ _=>b
 |_=>[]
noncomputable def scope(s:Stmt):Scope:=match s with
 |.FunctionDef _ _ _ _ _ _ sc _ _ _=>sc
 |_=>{kind:=.function,names:=[],isGenerator:=false,isCoroutine:=false}
noncomputable def posOf(s:Stmt):Pos:=match s with
 |.FunctionDef _ _ _ _ _ _ _ _ _ p=>p
 |_=>⟨0,0,0,0⟩
def U3(x:Str)(s:Stmt):DefRec:=⟨x,args s,body s,scope s,posOf s⟩
noncomputable def Of:List Str:=["len","all","any","tuple","list","sorted","repr","max","min","sum","int","isinstance","divmod","str","bool","dict","set","range","enumerate","zip"]
noncomputable def kO:List Value->Option (List Int)
 |[]=>some []
 |.int i _::r=>(kO r).map (i::·)
 |_=>none
noncomputable def nsH(h:Heap)(x:Str):Option (Option Value):=match h.get? Bt with
 |some o=>BZ [(Bt,o)] Bt x
 |none=>none
noncomputable def QC(f:Ec):Ec:={f with kwdefaults:=.none,doc:=.none,pyModule:=.none,annotations:=none,code:=.none,closureTuple:=.none}
noncomputable def u3(o:Obj):Bool:=(match o.cls with|.none=>true|_=>false)&&(match o.data with|.fields _=>true|_=>false)
def aK(h:Heap)(a:Value)(x:Str):Bool:=match a with
 |.ref c=>(match h.get? c with
  |some o=>!u3 o&&Dl [(c,o)] (.ref c) x
  |none=>false)
 |_=>false
def Wy(h:Heap)(x:Str):Option Ec:=match nsH h x with
 |some (some (.ref f))=>(match h.get? f with
  |some ⟨_,_,.func a,_⟩=>if aK h a.code x then some (QC a) else none
  |_=>none)
 |_=>none
def Vx(p:Str × Stmt):Option Ec:=some (CK p.1 p.1 (args p.2) (body p.2) (scope p.2) .none .none .none .none none .none .none)
def glB(h:Heap)(x:Str):G->Bool
 |.a i=>(match nsH h x with|some (some (.int j _))=>decide (i=j)|_=>false)
 |.c y=>(match nsH h x with|some (some (.str z _))=>decide (y=z)|_=>false)
 |.b ns=>(match nsH h x with
  |some (some (.ref a))=>(match h.get? a with
   |some ⟨.type n,_,.seq us _,_⟩=>decide (n="tuple")&&decide (us.toList.length<=1000)&&decide (kO us.toList=some ns)
   |_=>false)
  |_=>false)
def blB(h:Heap)(x:Str):Bool:=match nsH h x with|some none=>true|_=>false
def Se(D:List (Str × Stmt))(g:List (Str × G))(s:Shared):List (Option Ec) × Bool:=(D.map λp=>Wy s.heap p.1,g.all (λp=>glB s.heap p.1 p.2)&&Of.all λx=>blB s.heap x)
def Rx(D:List (Str × Stmt)):List (Option Ec) × Bool:=(D.map Vx,true)
end Hd
end
section
set_option maxHeartbeats 0
open PySem PySem.W PyProof.Rows
namespace P47
def top(i:Nat):Stmt:=PySem.Challenge.pw_evenhues_k47_whole_led_on.main.body.getD i (.Pass ⟨0,0,0,0⟩)
def D:List (Str × Stmt):=(("is_whole":Str),top 11)::(("are_wholes":Str),top 12)::(("need_whole":Str),top 13)::(("need_length":Str),top 14)::(("most_step":Str),top 16)::(("is_strip":Str),top 19)::(("need_strip":Str),top 20)::(("backward":Str),top 21)::(("is_one_hue":Str),top 23)::(("are_sizes":Str),top 25)::(("need_sizes":Str),top 26)::(("fits":Str),top 27)::(("first_wrong":Str),top 28)::(("first_hue_wrong":Str),top 29)::(("first_row_wrong":Str),top 30)::(("product_of":Str),top 33)::(("need_small_sizes":Str),top 34)::(("may_follow":Str),top 35)::(("grown":Str),top 36)::(("tally":Str),top 37)::(("farthest":Str),top 38)::(("all_strips":Str),top 39)::(("strips_many":Str),top 40)::(("need_fit":Str),top 42)::(("followers":Str),top 43)::(("leaders":Str),top 44)::(("hues_behind":Str),top 45)::(("hues_ahead":Str),top 46)::(("led_on":Str),top 47)::(("led_more":Str),top 48)::(("ends":Str),top 49)::(("shut_ends":Str),top 50)::(("exchanges":Str),top 52)::(("alike_to":Str),top 53)::(("form_of":Str),top 54)::(("are_alike":Str),top 55)::(("alike_many":Str),top 56)::(("kinds":Str),top 57)::(("_law_cell_at":Str),top 59)::(("_law_pen":Str),top 60)::(("_law_draw":Str),top 61)::(("_law_small":Str),top 62)::(("_law_forms_right":Str),top 65)::(("_law_led_right":Str),top 66)::(("law":Str),top 67)::[]
noncomputable def gl:List (Str × Hd.G):=[("MOST_PLACES",.a 40),("LEAST_SIZE",.a 2),("MOST_SIZE",.a 8),("HUES",.b [0,1,2,3]),("MOST_PRODUCT",.a 12)]
def q:Program:={PySem.Challenge.pw_evenhues_k47_whole_led_on with main:={PySem.Challenge.pw_evenhues_k47_whole_led_on.main with body:=[1,2,3,4,5,6,8,9,10,11,12,13,14,16,18,19,20,21,23,25,26,27,28,29,30,32,33,34,35,36,37,38,39,40,42,43,44,45,46,47,48,49,50,52,53,54,55,56,57,59,60,61,62,63,64,65,66,67].map top}}
def dd:DefRec:=Hd.U3 "law" (top 67)
def left:PySem.W.LeftO PySem.Challenge.rw_evenhues_k47_whole_led_on.row.prog q [] (λs=>Iw PySem.Challenge.rw_evenhues_k47_whole_led_on.row.records s) (Hd.Se D gl) (λ_=>Hd.Rx D) 100000:=by
 intro w
 kernel_rfl
def RV:PySem.Challenge.rw_evenhues_k47_whole_led_on.wellSaid=true:=by kernel_rfl
def TY:PySem.W.defOf q PySem.Challenge.rw_evenhues_k47_whole_led_on.row.name=some (dd,[]):=by kernel_rfl
def hp:PySem.Challenge.rw_evenhues_k47_whole_led_on.row.prog.theDef PySem.Challenge.rw_evenhues_k47_whole_led_on.row.name=some (dd.params,dd.body,dd.scope):=by kernel_rfl
def hk:PySem.W.kwWritten? dd.params.kwonlyargs dd.params.kw_defaults=some []:=by kernel_rfl
def hwr:(!PySem.Challenge.rw_evenhues_k47_whole_led_on.row.writes||PySem.Challenge.rw_evenhues_k47_whole_led_on.row.records.isEmpty)=true:=by kernel_rfl
def ok:(PySem.W.chainsOk q&&PySem.W.opensWell PySem.Challenge.rw_evenhues_k47_whole_led_on.row.prog&&(PySem.W.frees PySem.Challenge.rw_evenhues_k47_whole_led_on.row.toRowW&&PySem.Challenge.rw_evenhues_k47_whole_led_on.row.within.isEmpty))=true:=by kernel_rfl
def hdf:dd.params.defaults=[]:=by kernel_rfl
theorem bare:PySem.Challenge.rw_evenhues_k47_whole_led_on.row.prog.bare:=⟨rfl,rfl,rfl,rfl,rfl,by decide +kernel⟩
def hw:PySem.Challenge.rw_evenhues_k47_whole_led_on.row.toRowW.promised:=by w_witness2
end P47
end
section
namespace L2
open PySem PySem.Spec PyProof.Rows
abbrev Key:=Sum Int Str
noncomputable def UP:Key->Value->Bool
 |.inl k,v=>Value.isInt k v
 |.inr x,v=>Value.isStrOf x v
noncomputable def Ot(w:World):Key->Int
 |.inl k=>hashInt k
 |.inr x=>hashStr w x
def yL:∀{k} {v},UP k v=true->(∃i t,k=FR i/\v=Dr i t)\/(∃x t,k=FT x/\v=II x t)
 |.inl i,v,h=>by
  obtain⟨t,e⟩:=G1 (k:=i) (v:=v) h;exact .inl ⟨i,t,rfl,e⟩
 |.inr x,v,h=>by obtain⟨t,e⟩:=Value.isStrOf_shape (x:=x) (v:=v) h;exact .inr ⟨x,t,rfl,e⟩
def SM a b:decide ((FR a:Key)=FR b)=(a == b):=by
 by_cases e:a=b
 . subst e;simp
 . have h:¬(FR a:Key)=FR b:=λq=>e (FR.inj q)
   rw[decide_eq_false h];exact(beq_eq_false_iff_ne.mpr e).symm
def SQ a b:decide ((FT a:Key)=FT b)=decide (a=b):=by
 by_cases e:a=b
 . subst e;simp
 . have h:¬(FT a:Key)=FT b:=λq=>e (FT.inj q)
   rw[decide_eq_false h,decide_eq_false e]
def SN a b:decide ((FR a:Key)=FT b)=false:=decide_eq_false (λq=>nomatch q)
def SO a b:decide ((FT a:Key)=FR b)=false:=decide_eq_false (λq=>nomatch q)
def mj(p:Program)(w:World):PySem.KeyKind p w Key where
 is:=UP
 hash:=Ot w
 inj:=λv a b l f=>by
  rcases yL l with⟨i,t,rfl,rfl⟩|⟨x,t,rfl,rfl⟩
  . rcases yL f with⟨j,u,rfl,e⟩|⟨y,u,rfl,e⟩
    . injection e with e1 _;rw[e1]
    . exact nomatch e
  . rcases yL f with⟨j,u,rfl,e⟩|⟨y,u,rfl,e⟩
    . exact nomatch e
    . injection e with e1 _;rw[e1]
 byValue:=λk v h=>by
  rcases yL h with⟨i,t,rfl,rfl⟩|⟨x,t,rfl,rfl⟩<;>rfl
 pyHash:=λc h=>by
  rcases yL c with⟨i,t,rfl,rfl⟩|⟨x,t,rfl,rfl⟩
  . exact wpAny_pyHash_int h
  . exact wpAny_pyHash_str h
 eqBool:=λg c h=>by
  rcases yL g with⟨i,t,rfl,rfl⟩|⟨x,t,rfl,rfl⟩
  . rcases yL c with⟨j,u,rfl,rfl⟩|⟨y,u,rfl,rfl⟩
    . rw[SM]at h;exact wpAny_eqBool_int h
    . rw[SN]at h;exact Br.int_str i t y u _ _ _ _ h
  . rcases yL c with⟨j,u,rfl,rfl⟩|⟨y,u,rfl,rfl⟩
    . rw[SO]at h;exact Br.str_int x t j u _ _ _ _ h
    . rw[SQ]at h;exact wpAny_eqBool_str h
 «strs»:=λk x t v h=>by
  rcases yL h with⟨i,u,rfl,e⟩|⟨y,u,rfl,e⟩
  . exact nomatch e
  . injection e with e1 _
    subst e1;cases v<;>rfl
inductive V where
 |f|e (b:Bool)|d (i:Int)|g (x:Str)|h (b:Array UInt8)|j (b:UInt64)|c (a:Addr)|k (n:String)
 deriving DecidableEq
def RelV:V->Value->Prop
 |.f,u=>u=Af
 |.e b,u=>u=D0 b
 |.d i,u=>∃t,u=Dr i t
 |.g x,u=>∃t,u=II x t
 |.h b,u=>∃t,u=Value.bytes b t
 |.j b,u=>∃t,u=Value.float b t
 |.c a,u=>u=Bk a
 |.k n,u=>u=D1 n
abbrev Vals:List V->List Value->Prop:=Paired RelV
theorem Vals.length(r:Vals xs us):xs.length=us.length:=Iy r
theorem Vals.get:∀{xs} {us} {i:Nat} {x},Vals xs us->xs[i]?=some x->∃u,us[i]?=some u/\RelV x u
 |_,_,_,_,.nil,e=>by simp at e
 |_,_,0,_,.cons r _,e=>by simp at e;subst e;exact⟨_,rfl,r⟩
 |_,_,i+1,x,.cons _ t,e=>by
  obtain⟨u,w,d⟩:=Vals.get (i:=i) (x:=x) t (by simpa using e)
  exact⟨u,by simpa using w,d⟩
theorem Vals.set(r:RelV x u):∀{xs} {us} i,Vals xs us->Vals (xs.set i x) (us.set i u)
 |_,_,_,.nil=>.nil
 |_,_,0,.cons _ t=>.cons r t
 |_,_,i+1,.cons q t=>.cons q (Vals.set r i t)
theorem Vals.append:∀{xs ys} {us ws},Vals xs us->Vals ys ws->Vals (xs++ys) (us++ws)
 |_,_,_,_,.nil,s=>s
 |_,_,_,_,.cons r t,s=>.cons r (Vals.append t s)
theorem Vals.take:∀{xs} {us} n,Vals xs us->Vals (xs.take n) (us.take n)
 |_,_,0,_=>.nil
 |_,_,_+1,.nil=>.nil
 |_,_,n+1,.cons r t=>.cons r (Vals.take n t)
theorem Vals.drop:∀{xs} {us} n,Vals xs us->Vals (xs.drop n) (us.drop n)
 |_,_,0,r=>r
 |_,_,_+1,.nil=>.nil
 |_,_,n+1,.cons _ t=>Vals.drop n t
def Vals.none_of:∀{xs} {us} {i:Nat},Vals xs us->xs[i]?=none->us[i]?=none:=λ{xs us i} r e=>by have a:=r.length;have h:xs.length<=i:=CW.mp e;exact CW.mpr ⋯
def Up:Option V->Option Value->Prop
 |some v,some u=>RelV v u
 |none,none=>True
 |_,_=>False
def KV{a:Type}:List (a × V)->List (a × Value)->Prop:=Paired λ(p:a × V) (q:a × Value)=>p.1=q.1/\RelV p.2 q.2
noncomputable def kV:Key->V
 |.inl i=>.d i
 |.inr x=>.g x
inductive HO where
 /-- a list -/
 |b (xs:List V)
 /-- a tuple (never changes) -/
 |c (xs:List V)
 /-- a dict whose keys are ints and texts;one whose keys are tuples of ints and texts (the empty one is both) -/
 |j (kvs:List (Key × V))|k (kvs:List (List Key × V))
 /-- a set of ints: its members,its size -/
 |m (S:Int->Bool) (n:Nat)
 /-- an instance of the class at C,its dict at dx,its attributes -/
 |l (C dx:Addr) (fs:List (Str × V))
 /-- the dict of the instance at x -/
 |e (x:Addr)
 /-- the dict of an exception -/
 |r (fs:List (Str × V))
 /-- a bound method,f of x -/
 |p (f x:Addr)
 /-- a range object lo,lo+1,.. below hi -/
 |q (lo hi:Int)
 /-- a thing that is known to the object (the script;a dict while a loop walks it): read,never written while it is so -/
 |g (o:Obj) (u:HO)
 /-- a code object's table -/
 |d (ps:Array Value)
 /-- any other thing,by what is true of its one object (a def of one's own: v9 a S n:=HO.ext λh=>..) -/
 |i (φ:Heap->Prop)
abbrev Hp:=Addr->Option HO
def tx(h:Heap)(a:Addr)(i:Array Value):Prop:=∃o,h.get? a=some o/\o.cls=.type "tuple"/\∃n,o.data=.seq i n/\o.dict=none
def tx.tup{h:Heap}{a:Addr}{i:Array Value}(x:tx h a i):IsTup h a i:=let ⟨o,e,c,n,d,_⟩:=x;⟨o,e,c,n,d⟩
def tx.lt(x:tx h a items):a<h.objs.size:=let ⟨_,e,_⟩:=x;Am e
def tx.new(h:Heap)items:tx (h.push {cls:=.type "tuple",data:=.seq items}) h.objs.size items:=⟨_,Az _ rfl,rfl,_,rfl,rfl⟩
noncomputable def upd(H:Hp)(a:Addr)(o:HO):Hp:=λb=>if b=a then some o else H b
def zc:upd H a o a=some o:=by unfold upd;rw[if_pos rfl]
def zM(h:b≠a):upd H a o b=H b:=by unfold upd;rw[if_neg h]
def zY{H:Hp}(h:H a=some o)(c:H b=none):a≠b:=by intro e;subst e;rw[h]at c;cases c
section
variable (P:Program)(w:World)
def z7(H:Hp)(h:Heap)(a:Addr):HO->Prop
 |.b xs=>xs.length<=AI/\∃(F:List Value) (n:Nat),Vals xs F/\h.get? a=some {cls:=.type "list",data:=.seq F.toArray n}
 |.c xs=>xs.length<=AI/\∃F:List Value,Vals xs F/\tx h a F.toArray
 |.j kvs=>kvs.length<=AI/\(a == C0)=false/\∃y,KV kvs y/\h.DictOf (mj P w) a y
 |.k kvs=>kvs.length<=AI/\(a == C0)=false/\∃xs:List (List Key × Addr × Value),
  Paired (λ(p:List Key × V) (q:List Key × Addr × Value)=>p.1=q.1/\H q.2.1=some (.c (p.1.map kV))/\RelV p.2 q.2.2) kvs xs /\
  ∃o B D,h.get? a=some o/\o.ExactDict/\o.data=.dict B D/\B.toList=xs.map (entryOfKey (tupleKind (mj P w)))/\(xs.map (·.1)).Nodup
 |.m S n=>h.SetOf (intKind P w) a S n
 |.l C dx fs=>H dx=some (.e a)/\fs.length<=1000/\dx≠a/\h.get? a=some (HH C dx) /\
  ∃s,h.Ns1 dx s/\(∀f,Up (fs.lookup f) (s f))/\PySem.Within s (fs.map (·.1))
 |.e _=>∃o,h.get? a=some o
 |.r fs=>∃s,h.Ns1 a s/\∀f,Up (fs.lookup f) (s f)
 |.q lo hi=>∃t u v,h.get? a=some {cls:=.type "range",data:=.fields #[.int lo t,.int hi u,.int 1 v]}
 |.g o u=>h.get? a=some o/\z7 H h a u
 |.d ps=>h.get? a=some {cls:=.none,data:=.fields ps}
 |.p f x=>h.get? a=some (G2 (.ref f) (.ref x))
 |.i φ=>φ h/\(∃o,h.get? a=some o)/\∀A z:Heap,φ A->(∀o,A.get? a=some o->z.get? a=some o)->φ z
def HOk(H:Hp)(h:Heap):Prop:=∀a o,H a=some o->z7 P w H h a o
end
theorem z7.lt(x:z7 P w H h a o):a<h.objs.size:=by
 cases o with
 |b xs=>obtain⟨_,_,_,_,e⟩:=x;exact Am e
 |c xs=>obtain⟨_,_,_,p⟩:=x;exact p.lt
 |j s=>obtain⟨_,_,_,_,o,_,_,e,_⟩:=x;exact Am e
 |k s=>obtain⟨_,_,_,_,o,_,_,e,_⟩:=x;exact Am e
 |m S n=>obtain⟨o,_,_,_,e,_⟩:=x;exact Am e
 |l C z t=>obtain⟨_,_,_,e,_⟩:=x;exact Am e
 |e y=>obtain⟨_,e⟩:=x;exact Am e
 |r t=>obtain⟨_,⟨_,_,_,e,_⟩,_⟩:=x;exact Am e
 |q lo hi=>obtain⟨_,_,_,e⟩:=x;exact Am e
 |g v u=>obtain⟨e,_⟩:=x;exact Am e
 |d ps=>exact Am (show h.get? a=some _ from x)
 |p f y=>exact Am (show h.get? a=some _ from x)
 |i φ=>obtain⟨_,⟨_,e⟩,_⟩:=x;exact Am e
theorem Paired.Qz:∀{l₁} {l₂},Paired F l₁ l₂->(∀a b,F a b->G a b)->Paired G l₁ l₂
 |_,_,.nil,_=>.nil
 |_,_,.cons r t,f=>.cons (f _ _ r) (Paired.Qz t f)
def z7.gJ(x:z7 P w H h a o)(k:∀b u,(b=a\/H b=some (.e a))->h.get? b=some u->h'.get? b=some u)
 (R:∀b,H b=some (.e a)->H' b=some (.e a)) (Q:∀b F,H b=some (.c F)->H' b=some (.c F)):z7 P w H' h' a o:=by
 induction o with
 |b F=>obtain⟨z,D,n,r,e⟩:=x;exact⟨z,D,n,r,k _ _ (.inl rfl) e⟩
 |c F=>obtain⟨z,D,r,s,e,c⟩:=x;exact⟨z,D,r,s,k _ _ (.inl rfl) e,c⟩
 |j I=>obtain⟨z,y,K,r,s,A,B,e,c⟩:=x;exact⟨z,y,K,r,s,A,B,k _ _ (.inl rfl) e,c⟩
 |k I=>
  obtain⟨z,y,F,r,s,A,B,e,c⟩:=x;exact⟨z,y,F,Paired.Qz r λp q z=>⟨z.1,Q _ _ z.2.1,z.2.2⟩,s,A,B,k _ _ (.inl rfl) e,c⟩
 |m S n=>obtain⟨s,A,B,t,e,c⟩:=x;exact⟨s,A,B,t,k _ _ (.inl rfl) e,c⟩
 |l C X T=>
  obtain⟨d,z,L,e,G,⟨E,A,B,V,c⟩,r⟩:=x;exact⟨R _ d,z,L,k _ _ (.inl rfl) e,G,⟨E,A,B,k _ _ (.inr d) V,c⟩,r⟩
 |e y=>obtain⟨s,e⟩:=x;exact⟨s,k _ _ (.inl rfl) e⟩
 |r T=>obtain⟨G,⟨E,A,B,e,c⟩,r⟩:=x;exact⟨G,⟨E,A,B,k _ _ (.inl rfl) e,c⟩,r⟩
 |q lo hi=>obtain⟨t,u,v,e⟩:=x;exact⟨t,u,v,k _ _ (.inl rfl) e⟩
 |g s u N=>obtain⟨e,q⟩:=x;exact⟨k _ _ (.inl rfl) e,N q⟩
 |d ps=>
  have e:h.get? a=some {cls:=.none,data:=.fields ps}:=x;show h'.get? a=some {cls:=.none,data:=.fields ps};exact k a _ (.inl rfl) e
 |p f y=>
  have e:h.get? a=some (G2 (.ref f) (.ref y)):=x;show h'.get? a=some (G2 (.ref f) (.ref y));exact k a _ (.inl rfl) e
 |i φ=>obtain⟨p,⟨o,e⟩,J⟩:=x;exact⟨J _ _ p λo q=>k _ _ (.inl rfl) q,⟨o,k _ _ (.inl rfl) e⟩,J⟩
theorem HOk.lt(x:HOk P w H h)(e:H a=some o):a<h.objs.size:=(x a o e).lt
def HOk.fresh(x:HOk P w H h)(e:h.objs.size<=a):H a=none:=by
 cases q:H a with
 |none=>rfl
 |some u=>exact absurd (AK (x.lt q) e) (BX _)
def HOk.kept(x:HOk P w H h)(k:∀b u,h.get? b=some u->h'.get? b=some u):HOk P w H h':=λa o e=>
 (x a o e).gJ (λb u _ q=>k b u q) (λ_ q=>q) λ_ _ q=>q
def HOk.laid(x:HOk P w H h)(k:∀b u,h.get? b=some u->h'.get? b=some u)(g:h.objs.size<=a)(n:z7 P w (upd H a o) h' a o):HOk P w (upd H a o) h':=λb u e=>by
 have f:=x.fresh g;by_cases hb:b=a
 . subst hb;rw[zc]at e;cases e;exact n
 . rw[zM hb]at e
   exact(x b u e).gJ (λc v _ q=>k c v q) (λc q=>by rw[zM (zY q f)];exact q) λc i q=>by rw[zM (zY q f)];exact q
def Rd(H:Hp)(a:Addr)(u:HO):Prop:=H a=some u\/∃o,H a=some (.g o u)
def Rd.ok(r:Rd H a u)(x:HOk P w H h):z7 P w H h a u:=by
 rcases r with r|⟨o,r⟩
 . exact x a u r
 . obtain⟨_,q⟩:=x a _ r
   exact q
def Mut:Option HO->Prop
 |some (.b _)=>True
 |some (.j _)=>True
 |some (.k _)=>True
 |some (.m _ _)=>True
 |some (.l _ _ _)=>True
 |some (.i _)=>True
 |_=>False
def HOk.write(p:HOk P w H h)(m:Mut (H x))(o:e=x\/H e=some (.e x))(k:∀b u,b≠e->h.get? b=some u->h'.get? b=some u)(j:∃u,h'.get? e=some u)
 (i:z7 P w (upd H x o') h' x o'):HOk P w (upd H x o') h':=λb u q=>by
 have n:∀c y,H c=some (.e y)->c≠x:=λc y r z=>by subst z;rw[r]at m;exact m
 have a:∀c f,H c=some (.c f)->c≠x:=λc f r z=>by subst z;rw[r]at m;exact m
 by_cases hb:b=x
 . subst hb;rw[zc]at q;cases q;exact i
 . rw[zM hb]at q
   by_cases hbe:b=e
   . have l:H b=some (.e x):=by
      rcases o with z|z
      . exact absurd (hbe.trans z) hb
      . rw[hbe];exact z
     rw[q]at l;cases l;obtain⟨v,s⟩:=j;exact⟨v,by rw[hbe];exact s⟩
   . refine(p b u q).gJ (λc v g r=>k c v ?_ r) (λc r=>by rw[zM (n c b r)];exact r) λc f r=>by rw[zM (a c f r)];exact r
     rcases g with rfl|g
     . exact hbe
     . rintro rfl
       rcases o with z|z
       . exact n c b g z
       . rw[g]at z;cases z;exact hb rfl
structure Un(fs ex:List Addr)(H H':Hp)(h h':Heap):Prop where
 d:∀b o,h.get? b=some o->H b=none->b ∉ fs->b ∉ ex->h'.get? b=some o
 i:∀b o,h.get? b=some o->H b=none->b∈fs->b ∉ ex->∃sl,h'.get? b=some {o with slots:=sl}
 c:∀b o,h.get? b=some o->H b=none->b ∉ ex->H' b=none
 f:∀b o,h.get? b=some o->b ∉ ex->∃o',h'.get? b=some o'
 l:∀b xs,H b=some (.c xs)->H' b=some (.c xs)
 g:∀b o u,H b=some (.g o u)->H' b=some (.g o u)
 j:∀b ps,H b=some (.d ps)->∃more,H' b=some (.d (ps++more))
def Un.any(u:Un fs ex H H1 h h1)(q:h.get? b=some ob)(n:H b=none)(a:b ∉ ex):∃e,h1.get? b=some {ob with slots:=e}:=by
 by_cases hb:b∈fs
 . exact u.i b ob q n hb a
 . exact⟨ob.slots,u.d b ob q n hb a⟩
def Un.kept(k:∀b u,h.get? b=some u->h'.get? b=some u):Un fs ex H H h h':=
 ⟨λb o q _ _ _=>k b o q,λb o q _ _ _=>⟨o.slots,k b o q⟩,λ_ _ _ n _=>n,λb o q _=>⟨o,k b o q⟩,λ_ _ q=>q,λ_ _ _ q=>q,λ_ p q=>⟨#[],by rw[q];simp⟩⟩
def Un.refl:Un fs ex H H h h:=Un.kept λ_ _ q=>q
def Un.laid(k:∀b u,h.get? b=some u->h'.get? b=some u)(p:h.objs.size<=a)(m:H a=none):Un fs ex H (upd H a o) h h' where
 d:=λb u q _ _ _=>k b u q
 i:=λb u q _ _ _=>⟨u.slots,k b u q⟩
 c:=λb u q n _=>by rw[zM (Ay (AK (Am q) p))];exact n
 f:=λb u q _=>⟨u,k b u q⟩
 l:=λb x q=>by rw[zM (zY q m)];exact q
 g:=λb u x q=>by rw[zM (zY q m)];exact q
 j:=λb r q=>⟨#[],by rw[zM (zY q m),q];simp⟩
def Un.write(m:Mut (H x))(l:e=x\/H e=some (.e x))(k:∀b u,b≠e->h.get? b=some u->h'.get? b=some u)(c:∃u,h'.get? e=some u):Un fs ex H (upd H x o) h h':=by
 have f:∀b,H b=none->b≠x:=λb n z=>by subst z;rw[n]at m;exact m
 have g:∀b,H b=none->b≠e:=λb n z=>by
  subst z;rcases l with r|r
  . exact f b n r
  . rw[n]at r;cases r
 have a:∀b u,H b=some u->¬Mut (some u)->b≠x:=λb u q j z=>by subst z;rw[q]at m;exact j m
 refine⟨λb u q n _ _=>k b u (g b n) q,λb u q n _ _=>⟨u.slots,k b u (g b n) q⟩,λb u q n _=>by rw[zM (f b n)];exact n,λb u q _=>?_,
  λb i q=>by rw[zM (a b _ q λz=>z)];exact q,λb u i q=>by rw[zM (a b _ q λz=>z)];exact q,λb p q=>⟨#[],by rw[zM (a b _ q λz=>z),q];simp⟩⟩
 by_cases hbe:b=e
 . subst hbe;exact c
 . exact⟨u,k b u hbe q⟩
noncomputable def trk(h:Heap)(H:Hp):List Addr:=(Ag h.objs.size).filter λa=>(H a).isSome
def mT(h:Heap)(H:Hp):Heap:=PySem.W.hideAll h (trk h H)
def dO h H:(mT h H).objs.size=h.objs.size:=PySem.W.hideAll_size _ _
def ZA(e:h.get? b=some o)(n:H b=none):(mT h H).get? b=some o:=
 PySem.W.hideAll_get _ e λa=>by have q:(H b).isSome=true:=(BM.mp a).2;rw[n]at q;simp at q
def Wz(e:(mT h H).get? b=some o):h.get? b=some o/\H b=none:=by
 have a:h.get? b=some o:=PySem.W.of_hideAll (trk h H) e;refine⟨a,?_⟩;cases q:H b with
 |none=>rfl
 |some x=>
  have c:b∈trk h H:=BM.mpr ⟨Ah.mpr (Am a),by simp[q]⟩
  have z:(mT h H).get? b=none:=PySem.W.hideAll_none (trk h H) c;rw[z]at e;cases e
structure Mod(K:AH)(mg:Str->Option Value)(base:Heap):Prop where
 c:K.In base
 a:base.Ns Bt mg
 d:∃mb,base.Ns builtinsNs mb/\∀x:Str,x≠"__name__"->mb x=Ds x
 b:base.NoLimit
structure Cx where
 f:Program
 w:World
 K:AH
 d:Str->Option Value
 i:Heap
 A:Around
 N:List Str
 l:Shared
 r:Hp
 a:Env
 k:List Env
 j:List Env
 n:List Addr
 m:Str->Bool
 g:Bool
 q:List (Addr × Obj)
 h:Value->Shared->Prop
noncomputable def frs(l:List Env):List Addr:=l.filterMap (·.frame)
abbrev Cx.fs(X:Cx):List Addr:=frs X.k
def Vis(s:Scope)(x:Str):Prop:=s.names.lookup x=some .local\/s.names.lookup x=some .cell\/s.names.lookup x=some .free
def Loc(s:Scope)(x:Str):Prop:=s.names.lookup x=some .local\/s.names.lookup x=some .cell
def Look(e:Env)(h:Heap)(m:Str->Option Value)(x:Str)(u:Value):Prop:=
 (e.kindOf x=some .local/\m x=some u)\/((e.kindOf x=some .cell\/e.kindOf x=some .free)/\∃c,e.cells.lookup x=some c/\h.IsCell c (some u))
structure Cx.Ok(X:Cx):Prop where
 u:Mod X.K X.d X.i
 d:X.a.scope.kind=.function
 s:X.a.globals=Bt
 G:X.a.builtins=builtinsNs
 l:X.l.heap.objs.size<=X.a.locals
 L:∀x y c,X.a.cells.lookup x=some c->X.a.cells.lookup y=some c->x=y
 J:∀x,(X.a.kindOf x=some .cell\/X.a.kindOf x=some .free)->∃c,X.a.cells.lookup x=some c
 D:∀x c,X.m x=true->X.a.cells.lookup x=some c->X.l.heap.objs.size<=c
 g:X.g=true->X.A.handled=none
 m:X.A.frames=some X.j
 M:X.j=X.k\/(X.j=X.a::X.k/\X.a.frame=some X.a.locals)
 H:∀b∈X.n,b≠X.a.locals/\∀x c,X.a.cells.lookup x=some c->c≠b
 O:∀b o,X.i.get? b=some o->X.l.heap.get? b=some o/\X.r b=none
 B:X.i.objs.size<=X.l.heap.objs.size
 w:∀b o,X.i.get? b=some o->b ∉ X.n
 r:∀b∈X.n,b ∉ X.fs
 P:X.l.heap.FunFrames X.i X.k
 I:∀b∈X.fs,X.r b=none
structure Inv(X:Cx)(pins:List (Addr × Obj))(σ:List (Option V))(H:Hp)(s:Shared):Prop where
 y:X.Ok
 R:s.os=X.l.os
 C:AllBare s.gens
 B:Un X.fs X.n X.r H X.l.heap s.heap
 M:∃m,s.heap.Ns X.a.locals m/\∀(i:Nat) (x:Str) (v:V),X.N[i]?=some x->σ[i]?=some (some v)->Vis X.a.scope x->∃u,RelV v u/\Look X.a s.heap m x u
 F:∀x c,X.a.cells.lookup x=some c->∃v,s.heap.IsCell c v
 G:H X.a.locals=none
 J:∀x c,X.a.cells.lookup x=some c->H c=none
 O:∀p∈X.q++pins,s.heap.get? p.1=some p.2/\H p.1=none/\p.1≠X.a.locals/\p.1 ∉ X.fs/\∀v,p.2.data≠.cell v
 j:HOk X.f X.w H s.heap
 P:σ.length=X.N.length
def Cx.Ok.Ow{X:Cx}(a:X.Ok)(e:X.i.get? b=some o):b ∉ X.fs:=λh=>by have:=(a.P.mem h).1;rw[e]at this;cases this
def Inv.bs(I:Inv X pins σ H s):∀b o,X.i.get? b=some o->s.heap.get? b=some o/\H b=none:=λb o e=>
 ⟨I.B.d b o (I.y.O b o e).1 (I.y.O b o e).2 (I.y.Ow e) (I.y.w b o e),I.B.c b o (I.y.O b o e).1 (I.y.O b o e).2 (I.y.w b o e)⟩
def Inv.bk(I:Inv X pins σ H s):∀b o,X.i.get? b=some o->s.heap.get? b=some o:=λb o e=>(I.bs b o e).1
def Inv.mod(I:Inv X pins σ H s):Mod X.K X.d X.i:=I.y.u
def Inv.kIn(I:Inv X pins σ H s):X.K.In s.heap:=I.y.u.c.keeps I.bk
theorem Inv.lt(I:Inv X pins σ H s):X.a.locals<s.heap.objs.size:=let ⟨_,h,_⟩:=I.M;h.lt
def Inv.sz(I:Inv X pins σ H s):X.l.heap.objs.size<=s.heap.objs.size:=Au I.y.l (Em I.lt)
def Inv.Ox(I:Inv X pins σ H s)(h:s.heap.objs.size<=a):a ∉ X.fs:=λc=>by obtain⟨_,o,b,_⟩:=I.y.P.mem c;exact absurd (AK (Am b) (Au I.sz h)) (BX _)
def Inv.cne(I:Inv X pins σ H s):∀x c,X.a.cells.lookup x=some c->c≠X.a.locals:=λx c e z=>by obtain⟨v,o,f,g⟩:=I.F x c e;obtain⟨m,⟨i,j,k,h,b,_⟩,_⟩:=I.M;rw[z,h]at f;cases f;rw[b]at g;cases g
def Inv.qy(I:Inv X pins σ H s):s.heap.FunFrames X.i X.k:=by
 have f:∀(l:List Env),(∀b∈frs l,b∈X.fs)->X.l.heap.FunFrames X.i l->s.heap.FunFrames X.i l:=by
  intro l;induction l with
  |nil=>intro _ _;trivial
  |cons x r j=>
   intro g q;obtain⟨t,⟨L,o,h,p,n,v⟩,m⟩:=q;have c:L∈X.fs:=g L (by unfold frs;rw[Bo,h];exact AO)
   obtain⟨d,e⟩:=I.B.i L o n (I.y.I L c) c λz=>I.y.r L z c;exact⟨t,⟨L,_,h,p,e,v⟩,j (λb a=>g b (by unfold frs;rw[Bo,h];exact AF _ a)) m⟩
 exact f X.k (λ_ a=>a) I.y.P
def Inv.stack(I:Inv X pins σ H s):s.heap.FunFrames X.i X.j:=by
 rcases I.y.M with e|⟨e,a⟩
 . rw[e];exact I.qy
 . rw[e]
   obtain⟨m,h,_⟩:=I.M;refine .cons (by rw[I.y.d];decide) a h ?_ I.qy
   exact Heap.get?_none_of_le (Au I.y.B I.y.l)
def Inv.gK(I:Inv X pins σ H s):∀b∈frs X.j,b∈X.a.locals::X.fs:=λb h=>by
 rcases I.y.M with e|⟨e,c⟩
 . rw[e]at h;exact AF _ h
 . rw[e]at h
   unfold frs at h;rw[Bo,c]at h;exact h
def Inv.eO(I:Inv X pins σ H s):∀b∈frs X.j,H b=none:=λb h=>by
 rcases Ao.mp (I.gK b h) with e|h
 . rw[e];exact I.G
 . obtain⟨_,o,a,_⟩:=I.y.P.mem h
   exact I.B.c b o a (I.y.I b h) λz=>I.y.r b z h
def Inv.step{ch:List Addr}(I:Inv X pins σ H s)
 (D:∀b∈ch,(b∈X.n\/X.l.heap.objs.size<=b)/\b≠X.a.locals/\(∀x c,X.a.cells.lookup x=some c->c≠b)/\∀p∈X.q++pins,p.1≠b)
 (C:∀b o,b≠X.a.locals->b ∉ X.fs->b ∉ ch->s.heap.get? b=some o->H b=none->h'.get? b=some o)
 (Q:∀b o,b≠X.a.locals->b∈X.fs->b ∉ ch->s.heap.get? b=some o->H b=none->∃sl,h'.get? b=some {o with slots:=sl}) (t:∀b o,b ∉ ch->s.heap.get? b=some o->H b=none->H' b=none)
 (T:∀b o,b ∉ ch->s.heap.get? b=some o->∃U,h'.get? b=some U)
 (qA:∀b N,H b=some (.c N)->H' b=some (.c N)) (frzs:∀b o u,H b=some (.g o u)->H' b=some (.g o u)) (S:∀b ps,H b=some (.d ps)->∃Y,H' b=some (.d (ps++Y)))
 (ns:∀m,s.heap.Ns X.a.locals m->h'.Ns X.a.locals m) (hok:HOk X.f X.w H' h') (hg:AllBare g') :
 Inv X pins σ H' {s with heap:=h',gens:=g',drawn:=d',toks:=t'}:=by
 have W:∀b o,X.l.heap.get? b=some o->b≠X.a.locals:=λb o e=>Ay (AK (Am e) I.y.l);have K:∀b o,X.l.heap.get? b=some o->b ∉ X.n->b ∉ ch:=λb o e h V=>by
  rcases (D b V).1 with z|z
  . exact h z
  . exact absurd (AK (Am e) z) (BX _)
 have E:∀x c,X.a.cells.lookup x=some c->∀v,s.heap.IsCell c v->h'.IsCell c v:=λx c e v ⟨o,Z,hd⟩=>by
  have A:c ∉ ch:=λz=>(D c z).2.2.1 x c e rfl;by_cases hc:c∈X.fs
  . obtain⟨sl,q⟩:=Q c o (I.cne x c e) hc A Z (I.J x c e)
    exact⟨_,q,hd⟩
  . exact⟨o,C c o (I.cne x c e) hc A Z (I.J x c e),hd⟩
 refine⟨I.y,I.R,hg,⟨λb o e n V h=>?_,λb o e n V h=>?_,λb o e n h=>?_,λb o e h=>?_,λb N e=>qA b N (I.B.l b N e),λb o N e=>frzs b o N (I.B.g b o N e),λb ps e=>?_⟩,?_,λx c e=>?_,?_,λx c e=>?_,λp hp=>?_,hok,I.P⟩
 . exact C b o (W b o e) V (K b o e h) (I.B.d b o e n V h) (I.B.c b o e n h)
 . obtain⟨sl,L⟩:=I.B.i b o e n V h
   obtain⟨sl',e2⟩:=Q b _ (W b o e) V (K b o e h) L (I.B.c b o e n h);exact⟨sl',e2⟩
 . obtain⟨U,L⟩:=I.B.f b o e h
   exact t b U (K b o e h) L (I.B.c b o e n h)
 . obtain⟨U,L⟩:=I.B.f b o e h
   exact T b U (K b o e h) L
 . obtain⟨m1,L⟩:=I.B.j b ps e
   obtain⟨m2,e2⟩:=S b _ L;exact⟨m1++m2,by rw[e2,Array.append_assoc]⟩
 . obtain⟨m,hn,hl⟩:=I.M
   refine⟨m,ns m hn,λi x v L e2 e3=>?_⟩;obtain⟨u,r,l⟩:=hl i x v L e2 e3;refine⟨u,r,?_⟩;rcases l with l|⟨k,c,e,z⟩
   . exact .inl l
   . exact .inr ⟨k,c,e,E x c e _ z⟩
 . obtain⟨v,z⟩:=I.F x c e
   exact⟨v,E x c e v z⟩
 . obtain⟨m,⟨o,_,_,Z,_⟩,_⟩:=I.M
   exact t _ o (λz=>(D _ z).2.1 rfl) Z I.G
 . obtain⟨v,o,Z,hd⟩:=I.F x c e
   exact t c o (λz=>(D c z).2.2.1 x c e rfl) Z (I.J x c e)
 . obtain⟨e,n,ne,nf,d⟩:=I.O p hp
   have A:p.1 ∉ ch:=λz=>(D p.1 z).2.2.2 p hp rfl;exact⟨C p.1 p.2 ne nf A e n,t p.1 p.2 A e n,ne,nf,d⟩
def Inv.un(I:Inv X pins σ H s)(u:Un X.fs [] H H' s.heap h')(a:HOk X.f X.w H' h'):Inv X pins σ H' {s with heap:=h',toks:=t'}:=by
 obtain⟨m,⟨o,E,J,t,r⟩,_⟩:=id I.M;obtain⟨A,y⟩:=u.any t I.G (by simp)
 exact I.step (g':=s.gens) (d':=s.drawn) (ch:=[]) (λ_ z=>nomatch z) (λb o _ k _ e n=>u.d b o e n k (by simp)) (λb o _ k _ e n=>u.i b o e n k (by simp)) (λb o _ e n=>u.c b o e n (by simp)) (λb o _ e=>u.f b o e (by simp)) u.l u.g u.j (λD x=>by obtain⟨B,p,q,h,v⟩:=x;rw[t]at h;cases h;exact⟨_,p,q,y,v⟩) a I.C
def Inv.call(I:Inv X pins σ H s)(u:Un (frs X.j) ch H H' s.heap h')(t:HOk X.f X.w H' h')(E:AllBare g')
 (k:∀b∈ch,(b∈X.n\/X.l.heap.objs.size<=b)/\b≠X.a.locals/\(∀x c,X.a.cells.lookup x=some c->c≠b)/\∀p∈X.q++pins,p.1≠b) :
 Inv X pins σ H' {s with heap:=h',gens:=g',drawn:=d',toks:=t'}:=by
 obtain⟨m,⟨o,P,Q,B,r⟩,_⟩:=id I.M;obtain⟨K,v⟩:=u.any B I.G λz=>(k _ z).2.1 rfl;exact I.step (ch:=ch) k (λb o v J h e n=>u.d b o e n (λz=>(Ao.mp (I.gK b z)).elim v J) h) (λb o _ _ h e n=>u.any e n h) (λb o h e n=>u.c b o e n h) (λb o h e=>u.f b o e h) u.l u.g u.j (λN D=>by obtain⟨L,y,A,i,C⟩:=D;rw[B]at i;cases i;exact⟨_,y,A,v,C⟩) t E
def Inv.turned(I:Inv X pins σ H s)(k:∀b o,b≠it->s.heap.get? b=some o->h'.get? b=some o)(t:H it=none)(g:it≠X.a.locals)
 (B:it∈X.n\/X.l.heap.objs.size<=it) (A:∀x c,X.a.cells.lookup x=some c->c≠it) (w:∀p∈X.q++pins,p.1≠it):Inv X pins σ H {s with heap:=h',toks:=t'}:=by
 have f:∀b u,H b=some u->b≠it:=λb u e z=>by rw[z,t]at e;cases e
 refine I.step (g':=s.gens) (d':=s.drawn) (ch:=[it]) (λb d=>?_) (λb o _ _ h e _=>k b o (λz=>h (by simp[z])) e) (λb o _ _ h e _=>⟨o.slots,k b o (λz=>h (by simp[z])) e⟩) (λ_ _ _ _ n=>n)
  (λb o h e=>⟨o,k b o (λz=>h (by simp[z])) e⟩) (λ_ _ e=>e) (λ_ _ _ e=>e) (λb G e=>⟨#[],by rw[e];simp⟩) (λm y=>?_) (λb u e=>?_) I.C
 . have e:b=it:=by simpa using d
   subst e;exact⟨B,g,A,w⟩
 . obtain⟨o,D,E,i,r⟩:=y
   exact⟨o,D,E,k _ o (Co g) i,r⟩
 . refine(I.j b u e).gJ (λc v h q=>k c v ?_ q) (λ_ q=>q) λ_ _ q=>q
   rcases h with z|z
   . rw[z];exact f b u e
   . exact f c _ z
def Inv.tok(I:Inv X pins σ H s)t:Inv X pins σ H {s with toks:=t}:=I.un (h':=s.heap) (t':=t) Un.refl I.j
theorem Inv.kept(I:Inv X pins σ H s)(k:∀b u,s.heap.get? b=some u->h'.get? b=some u):Inv X pins σ H {s with heap:=h',toks:=t'}:=I.un (Un.kept k) (I.j.kept k)
theorem Inv.laid(I:Inv X pins σ H s)(k:∀b u,s.heap.get? b=some u->h'.get? b=some u)(h:s.heap.objs.size<=a)(n:z7 X.f X.w (upd H a o) h' a o) :
 Inv X pins σ (upd H a o) {s with heap:=h',toks:=t'}:=I.un (Un.laid k h (I.j.fresh h)) (I.j.laid k h n)
theorem Inv.write(I:Inv X pins σ H s)(m:Mut (H x))(a:e=x\/H e=some (.e x))(k:∀b u,b≠e->s.heap.get? b=some u->h'.get? b=some u)(h:∃u,h'.get? e=some u)
 (n:z7 X.f X.w (upd H x o) h' x o):Inv X pins σ (upd H x o) {s with heap:=h',toks:=t'}:=I.un (Un.write m a k h) (I.j.write m a k h n)
def Inv.eE{b:List (Addr × Obj)}(I:Inv X pins σ H s)(h:∀p∈b,s.heap.get? p.1=some p.2/\H p.1=none/\p.1≠X.a.locals/\p.1 ∉ X.fs/\∀v,p.2.data≠.cell v):Inv X b σ H s:=
 ⟨I.y,I.R,I.C,I.B,I.M,I.F,I.G,I.J,λp c=>(AS.mp c).elim (λz=>I.O p (Bp _ z)) (h p),I.j,I.P⟩
def km{N:List Str}(h:N.Nodup){i j:Nat}(a:N[i]?=some x)(b:N[j]?=some x):i=j:=by obtain⟨g,c⟩:=Ar.mp a;obtain⟨f,e⟩:=Ar.mp b;exact(ED h).mp (c.trans e.symm)
def nZ{Q:Unit->Shared->Prop}(I:Inv X pins σ H s)(hN:X.N.Nodup)(hi:X.N[i]?=some x)(Z:Loc X.a.scope x)(r:RelV v u)
 (h:∀s',Inv X pins (σ.set i (some v)) H s'->(∃a,Cu a s.heap s'.heap/\(a=X.a.locals\/X.a.cells.lookup x=some a))->Q () s') (hf:X.m x=true\/X.a.scope.names.lookup x=some .local:=by first|exact .inl rfl|exact .inr rfl|assumption):wpAny M A (storeName X.a x u) Q E s:=by
 obtain⟨m,hn,hl⟩:=id I.M;have hcls:(X.a.scope.kind == .class||(X.a.scope.kind == .module&&X.a.locals != X.a.globals))=false:=by rw[I.y.d];rfl
 have W:i<σ.length:=by rw[I.P];exact(Ar.mp hi).1
 have cne:=I.cne;have K:∀{a:Addr} {h':Heap},(∃o,s.heap.get? a=some o/\H a=none)->Cu a s.heap h'->HOk X.f X.w H h':=λ{a h'} ha t b ob e=>by
  obtain⟨_,_,S⟩:=ha;refine(I.j b ob e).gJ (λc w' V q=>(t.2 c ?_).trans q) (λ_ q=>q) λ_ _ q=>q;rintro rfl;rcases V with rfl|V
  . rw[S]at e;cases e
  . rw[S]at V;cases V
 rcases Z with hk|hk
 . refine wpAny_storeName_local hk hn (λh' hn' t=>?_) hcls
   obtain⟨oL,_,_,hoL,_⟩:=id hn;refine h _ ⟨I.y,I.R,I.C,⟨λb o e n hb Z=>?_,λb o e n hb Z=>?_,I.B.c,λb o e Z=>?_,I.B.l,I.B.g,I.B.j⟩,⟨_,hn',λj y v' T U e3=>?_⟩,λy c e=>?_,I.G,I.J,λp hp=>?_,K ⟨oL,hoL,I.G⟩ t,by simpa using I.P⟩ ⟨_,t,.inl rfl⟩
   . exact(t.2 b (Ay (AK (Am e) I.y.l))).trans (I.B.d b o e n hb Z)
   . obtain⟨sl,T⟩:=I.B.i b o e n hb Z
     exact⟨sl,(t.2 b (Ay (AK (Am e) I.y.l))).trans T⟩
   . obtain⟨o',T⟩:=I.B.f b o e Z
     exact⟨o',(t.2 b (Ay (AK (Am e) I.y.l))).trans T⟩
   . by_cases hj:j=i
     . subst hj
       rw[hi]at T;cases T;rw[B1 W]at U;cases U;exact⟨u,r,.inl ⟨hk,by simp⟩⟩
     . rw[DJ (Co hj)]at U
       obtain⟨u',r',q⟩:=hl j y v' T U e3;refine⟨u',r',?_⟩;rcases q with⟨k,e⟩|⟨k,c,e,z⟩
       . refine .inl ⟨k,?_⟩
         have:y≠x:=λe=>hj (km hN T (e▸hi));simp[this,e]
       . exact .inr ⟨k,c,e,z.sameBut t (cne y c e)⟩
   . obtain⟨w',z⟩:=I.F y c e
     exact⟨w',z.sameBut t (cne y c e)⟩
   . obtain⟨e,n,ne,nf,d⟩:=I.O p hp
     exact⟨(t.2 p.1 ne).trans e,n,ne,nf,d⟩
 . have Y:X.m x=true:=by
    rcases hf with z|z
    . exact z
    . rw[z]at hk;cases hk
   obtain⟨c,V⟩:=I.y.J x (.inl hk);obtain⟨w',z⟩:=I.F x c V;refine wpAny_storeName_cell I.y.d hk V z (λh' hc' t=>?_);obtain⟨oc,hoc,hocd⟩:=id z;refine h {s with heap:=h'} ⟨I.y,I.R,I.C,⟨λb o e n hb Z=>?_,λb o e n hb Z=>?_,I.B.c,λb o e Z=>?_,I.B.l,I.B.g,I.B.j⟩,⟨m,hn.sameBut t (Co (cne x c V)),λj y v' T U e3=>?_⟩,λy c' e=>?_,I.G,I.J,λp hp=>?_,K ⟨oc,hoc,I.J x c V⟩ t,by simpa using I.P⟩ ⟨c,t,.inr V⟩
   . exact(t.2 b (Ay (AK (Am e) (I.y.D x c Y V)))).trans (I.B.d b o e n hb Z)
   . obtain⟨sl,T⟩:=I.B.i b o e n hb Z
     exact⟨sl,(t.2 b (Ay (AK (Am e) (I.y.D x c Y V)))).trans T⟩
   . obtain⟨o',T⟩:=I.B.f b o e Z
     exact⟨o',(t.2 b (Ay (AK (Am e) (I.y.D x c Y V)))).trans T⟩
   . by_cases hj:j=i
     . subst hj
       rw[hi]at T;cases T;rw[B1 W]at U;cases U;exact⟨u,r,.inr ⟨.inl hk,c,V,hc'⟩⟩
     . rw[DJ (Co hj)]at U
       obtain⟨u',r',q⟩:=hl j y v' T U e3;refine⟨u',r',?_⟩;rcases q with q|⟨k,c',e,z'⟩
       . exact .inl q
       . refine .inr ⟨k,c',e,z'.sameBut t ?_⟩
         rintro rfl;exact hj (km hN T (I.y.L _ _ _ e V▸hi))
   . by_cases hcc:c'=c
     . subst hcc;exact⟨_,hc'⟩
     . obtain⟨w2,z2⟩:=I.F y c' e
       exact⟨w2,z2.sameBut t hcc⟩
   . obtain⟨e,n,ne,nf,d⟩:=I.O p hp
     refine⟨(t.2 p.1 ?_).trans e,n,ne,nf,d⟩;intro q;rw[q,hoc]at e;have q':oc=p.2:=AL e;exact d w' (by rw[<-q'];exact hocd)
def uW{Q:Unit->Shared->Prop}(I:Inv X pins σ H s)(g:X.N.Nodup)(c:X.N[i]?=some x)(b:Loc X.a.scope x)(r:RelV v u)
 (h:∀d,Inv X pins (σ.set i (some v)) H d->Q () d) (f:X.m x=true\/X.a.scope.names.lookup x=some .local:=by first|exact .inl rfl|exact .inr rfl|assumption):wpAny M A (storeName X.a x u) Q E s:=
 nZ I g c b r (λd B _=>h d B) f
def Inv.UB(I:Inv X pins σ H s)(k:s'.os=s.os)(u:Un (frs X.j) ch H H' s.heap s'.heap)(h:HOk X.f X.w H' s'.heap)(m:AllBare s'.gens)
 (g:∀b∈ch,(b∈X.n\/X.l.heap.objs.size<=b)/\b≠X.a.locals/\(∀x c,X.a.cells.lookup x=some c->c≠b)/\∀p∈X.q++pins,p.1≠b):Inv X pins σ H' s':=by
 obtain⟨r,i,d,t,o⟩:=s';have e:o=s.os:=k;subst e;exact I.call (g':=i) (t':=t) (d':=d) u h m g
abbrev XK:=Value->Option Addr->Hp->Prop
abbrev St:=List (Option V)
abbrev VK:=V->Hp->Prop
abbrev TE:=St->Hp->VK->Prop
abbrev TT:=St->Hp->(Bool->Hp->Prop)->Prop
abbrev TA:=St->Hp->(List V->Hp->Prop)->Prop
structure Ends where
 a:St->Hp->Prop
 d:VK
 b:St->Hp->Prop:=λ_ _=>False
 c:St->Hp->Prop:=λ_ _=>False
abbrev TS:=Ends->St->Hp->Prop
def EP(X:Cx)(p:List (Addr × Obj))(a:St)(Q:VK)(u:Value)(s:Shared):Prop:=∃v H,Inv X p a H s/\RelV v u/\Q v H
def TP(X:Cx)(p:List (Addr × Obj))(a:St)(Q:Bool->Hp->Prop)(b:Bool)(s:Shared):Prop:=∃H,Inv X p a H s/\Q b H
def AP(X:Cx)(p:List (Addr × Obj))(a:St)(Q:List V->Hp->Prop)(u:List Value)(s:Shared):Prop:=∃v H,Inv X p a H s/\Vals v u/\Q v H
def SP(X:Cx)(p:List (Addr × Obj))(D:Ends)(f:Flow)(s:Shared):Prop:=
 match f with
 |.next=>∃g H,Inv X p g H s/\D.a g H
 |.brk=>∃g H,Inv X p g H s/\D.b g H
 |.cont=>∃g H,Inv X p g H s/\D.c g H
 |.ret u=>∃v g H,Inv X p g H s/\RelV v u/\D.d v H
def PE(X:Cx)(e:Expr)(t:TE):Prop:=
 ∀(p:List (Addr × Obj)) (s:Shared) (σ:St) (H:Hp) (Q:VK),Inv X p σ H s->t σ H Q->wpAny (model X.f X.w) X.A (eval e X.a) (EP X p σ Q) X.h s
def PT(X:Cx)(e:Expr)(t:TT):Prop:=
 ∀(p:List (Addr × Obj)) (s:Shared) (σ:St) (H:Hp) (Q:Bool->Hp->Prop),Inv X p σ H s->t σ H Q->wpAny (model X.f X.w) X.A (isTrue e X.a (eval e X.a)) (TP X p σ Q) X.h s
def PW(X:Cx)(e:Expr)(t:TT):Prop:=
 ∀(b:Sem Value) (p:List (Addr × Obj)) (s:Shared) (σ:St) (H:Hp) (Q:Bool->Hp->Prop),Inv X p σ H s->t σ H Q->wpAny (model X.f X.w) X.A (isTrue e X.a b) (TP X p σ Q) X.h s
def PW.pt(h:PW X e t):PT X e t:=h _
def PA(X:Cx)(e:List Expr)(t:TA):Prop:=
 ∀(b:Pos) (p:List (Addr × Obj)) (s:Shared) (σ:St) (H:Hp) (Q:List V->Hp->Prop),Inv X p σ H s->t σ H Q->wpAny (model X.f X.w) X.A (spliced (backTo b (A6 e X.a))) (AP X p σ Q) X.h s
def PS(X:Cx)(b:Stmt)(t:TS):Prop:=
 ∀(p:List (Addr × Obj)) (s:Shared) (σ:St) (H:Hp) (D:Ends),Inv X p σ H s->t D σ H->wpAny (model X.f X.w) X.A (exec b X.a) (SP X p D) X.h s
def PSs(X:Cx)(b:List Stmt)(t:TS):Prop:=
 ∀(p:List (Addr × Obj)) (s:Shared) (σ:St) (H:Hp) (D:Ends),Inv X p σ H s->t D σ H->wpAny (model X.f X.w) X.A (execs b X.a) (SP X p D) X.h s
def thn(h:wpAny M A t Q E s)(b:∀a s,Q a s->Q' a s):wpAny M A t Q' E s:=B0 h b λ_ _ x=>x
section
variable {X:Cx}
def bin(l:PE X a ta)(k:PE X b tb){R:V->V->Hp->Prop}(I:Inv X pins σ H s)(h:ta σ H λx O=>tb σ O λy F=>R x y F)
  {Q} {f:Value->Value->Sem α}
 (j:∀v u M x y F,Inv X pins σ F M->RelV x v->RelV y u->R x y F->wpAny (model X.f X.w) X.A (f v u) Q X.h M) :
 wpAny (model X.f X.w) X.A (eval a X.a) (λv e=>wpAny (model X.f X.w) X.A (eval b X.a) (λu d=>wpAny (model X.f X.w) X.A (f v u) Q X.h d) X.h e) X.h s:=by
 refine thn (l pins s σ H _ I h) λv c z=>?_;obtain⟨x,O,C,g,i⟩:=z;refine thn (k pins c σ O _ C i) λu M z=>?_;obtain⟨y,F,B,r,q⟩:=z;exact j v u M x y F B g r q
def NN(i:Nat):TE:=λa H Q=>∃v,a[i]?=some (some v)/\Q v H
def tC(v:V):TE:=λ_ H Q=>Q v H
def RK(A:X.N[i]?=some x)(q:Vis X.a.scope x)(j:(x == ("__debug__":Str))=false:=by decide)(k:(x == ("__classdict__":Str))=false:=by decide):PE X (.Name x pos) (NN i):=by
 intro p s o H Q I h;obtain⟨v,e,h⟩:=h;obtain⟨m,t,w⟩:=I.M;obtain⟨u,r,l⟩:=w i x v A e q;have g:EP X p o Q u s:=⟨v,H,I,r,h⟩;rcases l with⟨f,z⟩|⟨f,c,n,b⟩
 . exact wpAny_Name (wpAny_loadName_local I.y.d f t z g) j
 . rcases f with f|f
   . exact wpAny_Name (wpAny_loadName_cell I.y.d f n b g) j
   . exact wpAny_Name (wpAny_loadName_free I.y.d f n b g k) j
def RC{i j pos}:PE X (.Constant (.int i) j pos) (tC (.d i)):=λ_ _ _ H _ I h=>wpAny_Constant_int ⟨.d i,H,I.tok _,⟨_,rfl⟩,h⟩
def Pc{b j pos}:PE X (.Constant (.bool b) j pos) (tC (.e b)):=λ_ _ _ H _ I h=>Constant_bool ⟨.e b,H,I,rfl,h⟩
def RF{j pos}:PE X (.Constant .none j pos) (tC .f):=λ_ _ _ H _ I h=>Constant_none ⟨.f,H,I,rfl,h⟩
def RI{x j pos}:PE X (.Constant (.str x) j pos) (tC (.g x)):=λ_ _ _ H _ I h=>Calls.Constant_str ⟨.g x,H,I.tok _,⟨_,rfl⟩,h⟩
def Gl(X:Cx)(x:Str):Prop:=X.a.kindOf x=some .globalImplicit
def mZ(I:Inv X pins σ H s)(c:Gl X x)(b:X.d x=some u)(h:Q u s)
 (g:(x == ("__debug__":Str))=false:=by decide):wpAny (model X.f X.w) X.A (eval (.Name x pos) X.a) Q E s:=
 GQ I.y.d c (Calls.loadGlobal_global (by rw[I.y.s];exact I.mod.a.keeps I.bk) b h) g
def uH(I:Inv X pins σ H s)(i:Gl X x)(g:X.d x=none)(b:Ds x=some u)(h:Q u s)
 (c:x≠"__name__":=by decide) (j:(x == ("__debug__":Str))=false:=by decide):wpAny (model X.f X.w) X.A (eval (.Name x pos) X.a) Q E s:=by
 obtain⟨m,l,k⟩:=I.mod.d;exact GQ I.y.d i (Calls.loadGlobal_builtin (by rw[I.y.s];exact I.mod.a.keeps I.bk) g (by rw[I.y.G];exact l.keeps I.bk) ((k x c).trans b) h) j
def VM(b:Gl X x)(a:X.d x=some u)(r:RelV v u)(c:(x == ("__debug__":Str))=false:=by decide):PE X (.Name x pos) (tC v):=
 λ_ _ _ H _ I h=>mZ I b a ⟨v,H,I,r,h⟩ c
def VI(f:Gl X x)(c:X.d x=none)(a:Ds x=some u)(r:RelV v u)(b:x≠"__name__":=by decide)(g:(x == ("__debug__":Str))=false:=by decide):PE X (.Name x pos) (tC v):=
 λ_ _ _ H _ I h=>uH I f c a ⟨v,H,I,r,h⟩ b g
variable {a b:Expr}{ta tb:TE}{pos:Pos}
variable {tA tB':TT}{rest:List Expr}
def NI(t:TT):TT:=λa H Q=>t a H λc A=>Q (!c) A
def RQ(f:PT X a tA):PT X (.UnaryOp .Not a pos) (NI tA):=by intro p s b H Q I h;exact isTrue_not (f p s b H (λc A=>Q (!c) A) I h)
def OE(ta tb:TE):TE:=λa H Q=>ta a H λx A=>∃c,x=.e c/\if c=true then tb a A Q else Q (.e false) A
def OH(ta:TE):TE:=λa H Q=>ta a H λx A=>∃c,x=.e c/\Q (.e (!c)) A
def iz{op}(h:PE X a t):PE X (.BoolOp op [a] pos) t:=λp s b H Q I c=>BoolOp_one (h p s b H Q I c)
def RB(j:PE X a ta)(i:PE X (.BoolOp .And (b::rest) pos) tb):PE X (.BoolOp .And (a::b::rest) pos) (OE ta tb):=by
 intro p s f H Q I h;refine BoolOp_and (thn (j p s f H _ I h) λv g z=>?_);obtain⟨x,B,A,r,q⟩:=z;obtain⟨c,rfl,q⟩:=q;cases r;refine CC ?_;cases c with
 |true=>exact i p g f B Q A q
 |false=>exact⟨.e false,B,A,rfl,q⟩
def RG(f:PE X a ta):PE X (.UnaryOp .Not a pos) (OH ta):=by intro p s b H Q I h;refine UnaryOp_ (thn (f p s b H _ I h) λv g z=>?_);obtain⟨x,B,A,r,q⟩:=z;obtain⟨c,rfl,q⟩:=q;cases r;exact not_of (CC ⟨.e (!c),B,A,rfl,q⟩)
def tIf(t:TT)(ta tb:TE):TE:=λa H Q=>t a H λc A=>if c=true then ta a A Q else tb a A Q
def YE(i:PT X c tA)(k:PE X a ta)(j:PE X b tb):PE X (.IfExp c a b pos) (tIf tA ta tb):=by
 intro p s f H Q I h;refine wpAny_IfExp (thn (i p s f H _ I h) λd g z=>?_);obtain⟨B,A,q⟩:=z;cases d with
 |true=>exact k p g f B Q A q
 |false=>exact j p g f B Q A q
end
def SqL(K:AH)(H:Hp)(a:Addr)(x:List V):Prop:=
 Rd H a (.b x) \/
  ∃(o:Obj) (i:Array Value) (n:Nat),K.lookup a=some o/\o.cls=.type "list"/\o.dict=none/\o.data=.seq i n/\i.size<=AI/\Vals x i.toList
def SqT(K:AH)(H:Hp)(a:Addr)(x:List V):Prop:=
 Rd H a (.c x) \/
  ∃(o:Obj) (i:Array Value) (n:Nat),K.lookup a=some o/\o.cls=.type "tuple"/\o.data=.seq i n/\i.size<=AI/\Vals x i.toList
noncomputable def Oe:Value->Option V
 |.none=>some .f
 |.bool b=>some (.e b)
 |.int i _=>some (.d i)
 |.str x _=>some (.g x)
 |.bytes b _=>some (.h b)
 |.float b _=>some (.j b)
 |.ref a=>some (.c a)
 |.type n=>some (.k n)
 |_=>none
def RelV.abs(r:RelV x u):Oe u=some x:=by
 cases x with
 |f=>cases r;rfl
 |e _=>cases r;rfl
 |d _=>obtain⟨t,rfl⟩:=r;rfl
 |g _=>obtain⟨t,rfl⟩:=r;rfl
 |h _=>obtain⟨t,rfl⟩:=r;rfl
 |j _=>obtain⟨t,rfl⟩:=r;rfl
 |c _=>cases r;rfl
 |k _=>cases r;rfl
def RelV.inj(r:RelV x u)(q:RelV y u):x=y:=AL (r.abs.symm.trans q.abs)
theorem Vals.inj:∀{xs ys} {us},Vals xs us->Vals ys us->xs=ys
 |_,_,_,.nil,.nil=>rfl
 |_,_,_,.cons r t,.cons r' t'=>by rw[r.inj r',Vals.inj t t']
def SqL.of{K}(h:H a=some (.b xs)):SqL K H a xs:=.inl (.inl h)
def SqT.of{K}(h:H a=some (.c xs)):SqT K H a xs:=.inl (.inl h)
def Inv.list(I:Inv X pins σ H s)(h:SqL X.K H a xs):∃d:List Value,Vals xs d/\PlainL s.heap a d.toArray/\xs.length<=AI:=by
 rcases h with h|⟨o,d,n,c,g,f,b,i,r⟩
 . obtain⟨z,d,n,r,e⟩:=h.ok I.j
   exact⟨d,r,⟨_,n,e,rfl,rfl,rfl⟩,z⟩
 . refine⟨d.toList,r,⟨o,n,I.kIn a o c,g,f,by simpa using b⟩,?_⟩
   have e:=r.length;simp only[Ax]at e;omega
def Inv.tuple(I:Inv X pins σ H s)(h:SqT X.K H a xs):∃d:List Value,Vals xs d/\IsTup s.heap a d.toArray/\xs.length<=AI:=by
 rcases h with h|⟨o,d,n,c,f,b,g,r⟩
 . obtain⟨z,d,r,p⟩:=h.ok I.j
   exact⟨d,r,p.tup,z⟩
 . refine⟨d.toList,r,⟨o,I.kIn a o c,f,n,by simpa using b⟩,?_⟩
   have e:=r.length;simp only[Ax]at e;omega
def Inv.kY(I:Inv X pins σ H s)(h:SqL X.K H a xs)(j:SqL X.K H a ys):xs=ys:=by
 obtain⟨b,r,⟨o,n,e,_,_,d⟩,_⟩:=I.list h;obtain⟨i,g,⟨k,l,c,_,_,f⟩,_⟩:=I.list j;rw[e]at c;cases c;rw[d]at f;injection f with d1 _
 have:b=i:=by simpa using congrArg Array.toList d1
 subst this;exact r.inj g
def Inv.nh(I:Inv X pins σ H s)(h:SqT X.K H a xs)(j:SqT X.K H a ys):xs=ys:=by
 obtain⟨b,r,⟨o,e,_,n,d⟩,_⟩:=I.tuple h;obtain⟨i,g,⟨k,c,_,l,f⟩,_⟩:=I.tuple j;rw[e]at c;cases c;rw[d]at f;injection f with d1 _
 have:b=i:=by simpa using congrArg Array.toList d1
 subst this;exact r.inj g
noncomputable abbrev Cx.oZ(X:Cx)(E:Value->Shared->Prop):Cx:={X with h:=E}
abbrev Cx.nox(X:Cx):Cx:=X.oZ λ_ _=>False
theorem Cx.Ok.oZ{X:Cx}(o:X.Ok)E:(X.oZ E).Ok:=
 ⟨o.u,o.d,o.s,o.G,o.l,o.L,o.J,o.D,o.g,o.m,o.M,o.H,o.O,o.B,o.w,o.r,o.P,o.I⟩
def Cx.Ok.uZ{X:Cx}(o:(X.oZ E).Ok):X.Ok:=
 ⟨o.u,o.d,o.s,o.G,o.l,o.L,o.J,o.D,o.g,o.m,o.M,o.H,o.O,o.B,o.w,o.r,o.P,o.I⟩
theorem Inv.oZ(I:Inv X pins σ H s)E:Inv (X.oZ E) pins σ H s:=⟨I.y.oZ E,I.R,I.C,I.B,I.M,I.F,I.G,I.J,I.O,I.j,I.P⟩
theorem Inv.uZ(I:Inv (X.oZ E) pins σ H s):Inv X pins σ H s:=⟨I.y.uZ,I.R,I.C,I.B,I.M,I.F,I.G,I.J,I.O,I.j,I.P⟩
theorem SP.uZ(h:SP (X.oZ E) pins D f s'):SP X pins D f s':=by
 cases f with
 |next=>obtain⟨a,H,I,q⟩:=h;exact⟨a,H,I.uZ,q⟩
 |brk=>obtain⟨a,H,I,q⟩:=h;exact⟨a,H,I.uZ,q⟩
 |cont=>obtain⟨a,H,I,q⟩:=h;exact⟨a,H,I.uZ,q⟩
 |ret u=>obtain⟨v,a,H,I,r,q⟩:=h;exact⟨v,a,H,I.uZ,r,q⟩
theorem PSs.nox{st}(h:PSs X.nox st t):PSs X st t:=λp s a H D I b=>
 B0 (h p s a H D (I.oZ _) b) (λ_ _ q=>q.uZ) λ_ _ z=>Dp z
section
variable {X:Cx}{st:Stmt}{rest:List Stmt}{t u:TS}{e:Expr}{te:TE}{pos:Pos}
def OG:TS:=λD b H=>D.a b H
def NL(t u:TS):TS:=λD b H=>t {D with a:=u D} b H
def VV:PSs X [] OG:=λ_ _ a H _ I h=>HI ⟨a,H,I,h⟩
def YU(j:PS X st t)(i:PSs X rest u):PSs X (st::rest) (NL t u):=by
 intro p s c H D I h;refine wpAny_execs_cons (thn (j p s c H {D with a:=u D} I h) λf g q=>?_)
 cases f with
 |next=>
  obtain⟨b,B,A,q⟩:=q;exact i p g b B D A q
 |ret v=>exact q
 |brk=>exact q
 |cont=>exact q
def Inv.quiet(I:Inv X pins σ H s):interactive X.a=false:=by simp[interactive,I.y.d]
def OF(te:TE):TS:=λD b H=>te b H λ_ A=>D.a b A
def VU(f:PE X e te)(c:FU e none pos.line X.a=pure false:=by rfl):PS X (.Expr e pos) (OF te):=by intro p s b H D I h;exact wpAny_Expr_any (thn (f p s b H _ I h) λv g ⟨x,H1,I1,r1,q1⟩=>⟨b,H1,I1,q1⟩) I.quiet c
def NK(te:TE):TS:=λD a H=>te a H D.d
def RP(b:PE X e te):PS X (.Return (some e) pos) (NK te):=by intro p s a H D I h;exact wpAny_Return_some (thn (b p s a H _ I h) λv c ⟨x,H1,I1,r1,q1⟩=>⟨x,a,H1,I1,r1,q1⟩)
def NG(c:TT)(t u:TS):TS:=λD a H=>c a H λb A=>if b=true then t D a A else u D a A
def Pk(i:PT X c tc)(k:PSs X a t)(j:PSs X b u):PS X (.If c a b pos) (NG tc t u):=by
 intro p s f H D I h;refine wpAny_If (thn (i p s f H _ I h) λd g z=>?_);obtain⟨B,A,q⟩:=z;cases d with
 |true=>exact k p g f B D A q
 |false=>exact j p g f B D A q
end
abbrev TG:=V->St->Hp->(St->Hp->Prop)->Prop
abbrev TGs:=List V->St->Hp->(St->Hp->Prop)->Prop
def PG(X:Cx)(b:Expr)(t:TG):Prop:=
 ∀(p:List (Addr × Obj)) (s:Shared) (σ:St) (H:Hp) (v:V) (u:Value) (Q:St->Hp->Prop),Inv X p σ H s->RelV v u->t v σ H Q ->
  wpAny (model X.f X.w) X.A (assign b X.a u) (λ_ g=>∃c B,Inv X p c B g/\Q c B) X.h s
def PGs(X:Cx)(c:List Expr)(t:TGs):Prop:=
 ∀(p:List (Addr × Obj)) (s:Shared) (σ:St) (H:Hp) (vs:List V) (us:List Value) (Q:St->Hp->Prop),Inv X p σ H s->Vals vs us->t vs σ H Q ->
  wpAny (model X.f X.w) X.A (Iz ((DK c X.a).map (·.2)) us) (λ_ g=>∃b B,Inv X p b B g/\Q b B) X.h s
abbrev Ur:=V->V->V->Hp->(Hp->Prop)->Prop
def QA(X:Cx)(t:Ur):Prop:=
 ∀(p:List (Addr × Obj)) (s:Shared) (σ:St) (H:Hp) (o i v:V) (a b u:Value) (Q:Hp->Prop),Inv X p σ H s->RelV o a->RelV i b->RelV v u->t o i v H Q ->
  wpAny (model X.f X.w) X.A (setItem a b u) (λ_ c=>∃B,Inv X p σ B c/\Q B) X.h s
abbrev TIp:=V->V->Hp->VK->Prop
def PIp(X:Cx)(o:Operator)(t:TIp):Prop:=
 ∀(p:List (Addr × Obj)) (s:Shared) (σ:St) (H:Hp) (x y:V) (v u:Value) (Q:VK),Inv X p σ H s->RelV x v->RelV y u->t x y H Q ->
  wpAny (model X.f X.w) X.A (E5 o v u) (EP X p σ Q) X.h s
section
variable {X:Cx}{pos:Pos}
def uF(i:Nat):TG:=λv a H Q=>Q (a.set i (some v)) H
def VN(g:X.N.Nodup)(c:X.N[i]?=some x)(b:Loc X.a.scope x)(f:X.m x=true\/X.a.scope.names.lookup x=some .local:=by first|exact .inl rfl|exact .inr rfl|assumption):PG X (.Name x pos) (uF i):=by intro p s j H v u Q I r h;exact wpAny_assign_Name (uW I g c b r (λk A=>⟨_,H,A,h⟩) f)
def QS:TGs:=λv a H Q=>v=[]/\Q a H
def UI(t:TG)(u:TGs):TGs:=λc b H Q=>∃v r,c=v::r/\t v b H λa A=>u r a A Q
def VO:PGs X [] QS:=by intro p s a H v u Q I r h;obtain⟨e,h⟩:=h;subst e;cases r;exact assignInOrder_nil ⟨a,H,I,h⟩
def YI{e:Expr}{b:List Expr}{t:TG}{u:TGs}(l:PG X e t)(k:PGs X b u)
 (j:(DK (e::b) X.a).map (·.2)=assign e X.a::(DK b X.a).map (·.2):=by rfl):PGs X (e::b) (UI t u):=by
 intro p s f H n x Q I r h;obtain⟨v,o,m,h⟩:=h;subst m;cases r with
 |cons r i=>
  rw[j];refine GA (thn (l p s f H _ _ _ I r h) λ_ g z=>?_);obtain⟨c,B,A,q⟩:=z;exact k p g c B _ _ Q A i q
def QU(K:AH)(n:Nat)(t:TGs):TG:=λv b H Q=>∃a x,v=.c a/\SqT K H a x/\x.length=n/\t x b H Q
def m8(A:X.g=true)(h:PGs X es t)
 (d:(DK es X.a).length=n:=by rfl) (f:(DK es X.a).findIdx? (·.1)=none:=by rfl):PG X (.Tuple es k pos) (QU X.K n t):=by
 intro p s i H v u Q I r c;obtain⟨a,x,C,z,w,c⟩:=c;subst C;cases r;obtain⟨l,j,q,E⟩:=I.tuple z;refine assign_Tuple_tuple (I.y.g A) q (by simp[d,<-w,j.length]) f λB m=>?_
 have D:Inv X p i H {s with heap:=B}:=I.kept (t':=s.toks) λb o e=>m b o (Ay (Am e)) e
 exact h p _ i H x _ Q D (by simpa using j) c
def QT(b c:TE)(t:Ur):TG:=λv a H Q=>b a H λo C=>c a C λi B=>t o i v B λA=>Q a A
def RL(n:PE X o to)(w:PE X i ti)(m:QA X t)
 (A:∀v,assign (.Subscript o i pos) X.a v=(do
  let d <-holding [v] (eval o X.a);let e <-holding [v,d] (eval i X.a)
  standAt pos
  holding [v,d,e] (setItem d e v)
  release [v,d,e] []):=by intro _;rfl):PG X (.Subscript o i pos) (QT to ti t):=by
 intro p s b H v u Q I r h;rw[A];refine dm (Bh (thn (n p s b H _ I h) λd f z=>?_));obtain⟨x,J,D,j,l⟩:=z;refine dm (Bh (thn (w p f b J _ D l) λe c z=>?_));obtain⟨y,G,C,g,k⟩:=z;refine dm (BY (dm (Bh (thn (m p c b G x y v d e u _ C j g r k) λ_ K z=>?_))));obtain⟨E,B,q⟩:=z;exact wpAny_release ⟨b,E,B,q⟩
def oX(t:TE)(g:TG):TS:=λD b H=>t b H λx A=>g x b A D.a
def hU(l:PE X e te)(k:PG X tg g)(j:GR [tg] e pos.line X.a=pure false:=by rfl)(i:DA [tg] e X.a=pure none:=by rfl)
 (m:(DK [tg] X.a).map (·.2)=[assign tg X.a]:=by rfl):PS X (.Assign [tg] e pos) (oX te g):=by
 intro p s b H D I h;refine wpAny_Assign_stores (thn (l p s b H _ I h) λv c z=>?_) j i;obtain⟨x,B,A,r,f⟩:=z;rw[m];exact thn (k p c b B x v _ A r f) λ_ n q=>q
def hV(l:X.N.Nodup)(g:X.N[i]?=some x)(c:Loc X.a.scope x)(k:PE X e te)(f:FU e (some (.Name x pos')) pos.line X.a=pure false:=by rfl)(j:X.m x=true\/X.a.scope.names.lookup x=some .local:=by first|exact .inl rfl|exact .inr rfl|assumption) :
 PS X (.Assign [.Name x pos'] e pos) (oX te (uF i)):=by
 intro p s b H D I h;refine wpAny_Assign_Name (thn (k p s b H _ I h) λv o z=>?_) f;obtain⟨y,C,B,r,q⟩:=z;exact uW B l g c r (λn A=>⟨_,C,A,q⟩) j
def OJ(i j:Nat)(t:TA):TS:=λD b H=>t b H λc A=>∃v w,c=[v,w]/\D.a ((b.set i (some v)).set j (some w)) A
def RO{kt k2 pt2}(S:X.g=true)(E:X.N.Nodup)(O:X.N[i]?=some x)(M:X.N[j]?=some y)(z:i≠j)
 (C:X.a.scope.names.lookup x=some .local) (B:X.a.scope.names.lookup y=some .local) (U:PA X [a,b] ta)
 (Z:DA [.Tuple [.Name x px,.Name y py] kt pt] (.Tuple [a,b] k2 pt2) X.a=pure (some [x,y]))
 (F:GR [.Tuple [.Name x px,.Name y py] kt pt] (.Tuple [a,b] k2 pt2) pos.line X.a=pure false:=by rfl) :
 PS X (.Assign [.Tuple [.Name x px,.Name y py] kt pt] (.Tuple [a,b] k2 pt2) pos) (OJ i j ta):=by
 intro k s d H D I h;rw[exec_Assign_arm];refine dm (BY ?_);rw[F];refine dm (Ab ?_);rw[if_neg (by decide)]
 refine dm (Tuple_ (thn (U _ k s d H _ I h) λP m L=>?_));obtain⟨vs,K,I1,R,n⟩:=L;obtain⟨v,w,W,n⟩:=n;subst W;obtain⟨l,u,rfl,Q,r⟩:∃l u,P=[l,u]/\RelV v l/\RelV w u:=by
  cases R with
  |cons p q=>
   cases q with
   |cons V T=>
    cases T;exact⟨_,_,rfl,p,V⟩
 refine Bj ?_ (by show 2<=AI;decide)
 have I2:Inv X k d K {m with heap:=m.heap.push {cls:=.type "tuple",data:=.seq [l,u].toArray}}:=I1.kept (t':=m.toks) λb o e=>xd _ e
 rw[Z];refine dm (Ab ?_);show wpAny (model X.f X.w) X.A (do rule "assign.swapped-stores";let c <-unpackItems (.ref m.heap.objs.size) 2 none;Iz [λv=>bindName X.a y v,λv=>bindName X.a x v] c.reverse;pure Flow.next) _ _ _
 refine dm (B8 (dm (unpackItems_tuple (items:=#[l,u]) (I.y.g S) (IsTup.new m.heap _) λG t=>?_)));have I3:=I2.kept (h':=G) (t':=m.toks) λb o e=>t b o (Ay (Am e)) e;show wpAny _ _ (Iz [λv=>bindName X.a y v,λv=>bindName X.a x v] [u,l] >>= λ_=>pure Flow.next) _ _ _;refine dm (GA (wpAny_bindName (uW I3 E M (.inl B) r (λs2 Y=>?_) (.inr B))));refine GA (wpAny_bindName (uW Y E O (.inl C) Q (λs3 J=>assignInOrder_nil (Ab ?_)) (.inr C)));rw[List.set_comm _ _ (Co z)]at J;exact⟨_,K,J,n⟩
def NC(i:Nat)(c:TE)(t:TIp):TS:=λD b H=>∃x,b[i]?=some (some x)/\c b H λy B=>t x y B λz A=>D.a (b.set i (some z)) A
def YR(S:X.N.Nodup)(C:X.N[i]?=some x)(t:Loc X.a.scope x)(F:PE X e te)(Q:PIp X op ti)(Z:X.m x=true\/X.a.scope.names.lookup x=some .local:=by first|exact .inl rfl|exact .inr rfl|assumption) :
 PS X (.AugAssign (.Name x pos') op e pos) (NC i te ti):=by
 intro p s B H D I h;obtain⟨v,U,h⟩:=h;obtain⟨m,R,V⟩:=I.M;have q:Vis X.a.scope x:=by rcases t with k|k;exact .inl k;exact .inr (.inl k)
 obtain⟨u,r,l⟩:=V i x v C U q;refine wpAny_AugAssign_Name ?_;have E:wpAny (model X.f X.w) X.A (eval e X.a) (λw n=>wpAny (model X.f X.w) X.A (E5 op u w) (λr j=>wpAny (model X.f X.w) X.A (storeName X.a x r) (λ_=>SP X p D .next) X.h j) X.h n) X.h s:=by refine thn (F p s B H _ I h) λw G o=>?_;obtain⟨y,H1,I1,K,P⟩:=o;refine thn (Q p G B H1 v y u w _ I1 r K P) λz s2 o=>?_;obtain⟨zv,H2,Y,J,L⟩:=o;exact uW Y S C t J (λs3 W=>⟨_,H2,W,L⟩) Z
 rcases l with⟨b,T⟩|⟨b,c,O,g⟩
 . exact wpAny_loadName_local I.y.d b R T E
 . rcases b with b|b
   . exact wpAny_loadName_cell I.y.d b O g E
   . rcases t with k|k
     . have:X.a.scope.names.lookup x=some .free:=b
       rw[k]at this;cases this
     . have:X.a.scope.names.lookup x=some .free:=b
       rw[k]at this;cases this
end
section
variable {X:Cx}{pos:Pos}
def XH(c:TT)(t:TS):TS:=λD f H=>∃W:Nat->St->Hp->Prop,(∃m,W m f H)/\∀m f H,W m f H ->
 c f H λb A=>if b=true then ∃N:St->Hp->Prop,(∀g B,N g B->∃h,h<m/\W h g B)/\t {D with a:=N,c:=N,b:=D.a} f A else D.a f A
def YT(x:GB (model X.f X.w) X.A X.a X.h)(T:PT X c tc)(V:PSs X body tb):PS X (.While c body [] pos) (XH tc tb):=by
 intro p s z H D I h;obtain⟨W,⟨R,u⟩,t⟩:=h;refine wpAny_While (codeAny_whileLoop (λn Q=>∃j K,Inv X p j K Q/\W n j K) ?_ R ⟨z,H,I,u⟩);rintro n P ⟨i,J,Z,e⟩;refine Dx x (thn (T p P i J _ Z (t n i J e)) λb L d=>?_);obtain⟨G,E,k⟩:=d;cases b with
 |true=>
  obtain⟨N,y,k⟩:=k;rw[if_pos rfl];refine Dx x (thn (V p L i G _ E k) λf F q=>?_);cases f with
  |next=>
   obtain⟨g,B,C,m⟩:=q;obtain⟨o,r,l⟩:=y g B m;exact⟨o,r,g,B,C,l⟩
  |cont=>
   obtain⟨g,B,C,m⟩:=q;obtain⟨o,r,l⟩:=y g B m;exact⟨o,r,g,B,C,l⟩
  |brk=>exact q
  |ret v=>exact q
 |false=>
  rw[if_neg Aj];exact HI ⟨i,G,E,k⟩
end
structure It where
 c:Nat->Hp->Prop
 b:Nat->Hp->V->Hp->Prop
 a:Nat->Hp->Prop
def wI(X:Cx)(f:List (Addr × Obj))(H:Hp)(b:Addr):Prop:=
 H b=none/\b≠X.a.locals/\b ∉ X.fs/\(b∈X.n\/X.l.heap.objs.size<=b)/\(∀x c,X.a.cells.lookup x=some c->c≠b)/\∀p∈X.q++f,p.1≠b
def Inv.WA(I:Inv X pins σ H s)(h:s.heap.objs.size<=b)(f:H' b=none):wI X pins H' b:=by
 refine⟨f,E6 (AK I.lt h),I.Ox h,.inr (Au I.sz h),λx c e z=>?_,λp a z=>?_⟩
 . obtain⟨v,q⟩:=I.F x c e
   exact absurd (AK q.lt (by rw[z];exact h)) (BX _)
 . exact absurd (AK (Am (I.O p a).1) (by rw[z];exact h)) (BX _)
structure Turn(P:Program)(w:World)(K:AH)(tg:Expr)(J:It)(fp:List Addr)(it:Addr)(tn:Nat->Heap->Prop):Prop where
 g:it∈fp
 c:∀i h,tn i h->∀b∈fp,∃o,h.get? b=some o/\∀v,o.data≠.cell v
 a:∀i h h',tn i h->(∀b∈fp,∀o,h.get? b=some o->h'.get? b=some o)->tn i h'
 f:∀(X:Cx),X.f=P->X.w=w->X.K=K->X.g=true->∀(i:Nat) (pins:List (Addr × Obj)) (s:Shared) (σ:St) (H:Hp) (E:Value->Shared->Prop),Inv X pins σ H s->(∀b∈fp,wI X pins H b)->tn i s.heap->J.c i H ->
  wpAny (model P w) X.A (pyNext (.ref it)) (λr s1=>∃u,r=some u /\
   wpAny (model P w) X.A (Bl tg (.ref it) u) (λ_ s2=>∃x H',Inv X pins σ H' s2/\RelV x u/\J.b i H x H'/\tn (i+1) s2.heap/\∀b∈fp,H' b=none) E s1) E s
 e:∀(X:Cx),X.f=P->X.w=w->X.K=K->X.g=true->∀(i:Nat) (pins:List (Addr × Obj)) (s:Shared) (σ:St) (H:Hp) (E:Value->Shared->Prop),Inv X pins σ H s->(∀b∈fp,wI X pins H b)->tn i s.heap->J.a i H ->
  wpAny (model P w) X.A (pyNext (.ref it)) (λr s1=>r=none/\Inv X pins σ H s1) E s
 d:∀(A:Around) (i:Nat) (s:Shared) (Q:Value->Shared->Prop) (E:Value->Shared->Prop),tn i s.heap->Q (.ref it) s->wpAny (model P w) A (pyIter (.ref it)) Q E s
abbrev TI:=St->Hp->(It->Hp->Prop)->Prop
def PIE(X:Cx)(p:List (Addr × Obj))(c:St)(t:Expr)(R:It->Hp->Prop)(i:Value)(s:Shared):Prop:=
 ∃(it:Addr) (a:List Addr) (tn:Nat->Heap->Prop) (J:It) (H':Hp),i=.ref it/\Inv X p c H' s/\Turn X.f X.w X.K t J a it tn/\tn 0 s.heap/\(∀b∈a,wI X p H' b)/\R J H'
def PI(X:Cx)(t i:Expr)(b:TI):Prop:=
 ∀(p:List (Addr × Obj)) (s:Shared) (σ:St) (H:Hp) (R:It->Hp->Prop),Inv X p σ H s->b σ H R ->
  wpAny (model X.f X.w) X.A (eval i X.a) (λv c=>wpAny (model X.f X.w) X.A (pyIter v) (PIE X p σ t R) X.h c) X.h s
def az(b:s.heap.get? it=some o)(g:o.cls=.type n)(f:o.data=.fields vs)
 (c:["enumerate","zip","dict_itemiterator","dict_reverseitemiterator","odict_iterator","itertools.zip_longest","itertools.pairwise"].contains n=false) (a:Q () s):wpAny M A (Bl tg (.ref it) u) Q E s:=by
 unfold Bl;cases tg<;>first
  |exact Ab a
  |(cases u<;>first
   |exact Ab a
   |(refine dm (wpAny_load b ?_)
     rw[g,f];show wpAny M A (if (["enumerate","zip","dict_itemiterator","dict_reverseitemiterator","odict_iterator","itertools.zip_longest","itertools.pairwise"].contains n&&vs[0]? == some (rawInt _))=true then _ else _) Q E s
     rw[if_neg (by intro h;rw[c,En]at h;cases h)]
     exact Ab a))
noncomputable def Itl(K:AH)(a:Addr):It:=
 ⟨λi H=>∃b x,SqL K H a b/\b[i]?=some x,λi H x A=>A=H/\∀b,SqL K H a b->b[i]?=some x,λi H=>∃b,SqL K H a b/\b.length<=i⟩
noncomputable def Itt(K:AH)(a:Addr):It:=
 ⟨λi H=>∃b x,SqT K H a b/\b[i]?=some x,λi H x A=>A=H/\∀b,SqT K H a b->b[i]?=some x,λi H=>∃b,SqT K H a b/\b.length<=i⟩
noncomputable def Itr(l:Int)(n:Nat):It:=⟨λi _=>i<n,λi H x A=>A=H/\x=.d (l+i),λi _=>n<=i⟩
def bY{K}a it:Turn P w K tg (Itl K a) [it] it (λi h=>h.IsListIter it a i) where
 g:=by simp
 c:=λi h j b m=>by
  have e:b=it:=by simpa using m
  subst e;obtain⟨o,e,c,d⟩:=j;exact⟨o,e,λv z=>by rw[d]at z;cases z⟩
 a:=λi h t j k=>j.at λo e=>k it (by simp) o e
 f:=by
  intro X J D L F i l s Z H E I r j G;subst J D L;obtain⟨M,x,q,C⟩:=G;obtain⟨B,A,p,U⟩:=I.list q;obtain⟨u,Y,S⟩:=A.get C;obtain⟨V,T,f2,R,Q,N⟩:=r it (by simp)
  refine wpAny_pyNext_list_item j p.isList (x:=u) (by simpa using Y) λt n O=>?_
  have I1:Inv X l Z H {s with heap:=t}:=I.turned (t':=s.toks) (λb o m e=>(O.2 b m).trans e) V T R Q N
  obtain⟨o,e,c,d⟩:=id n;exact⟨u,rfl,az (s:={s with heap:=t}) e c d (by decide) ⟨x,H,I1,S,⟨rfl,λys W=>by rw[I.kY W q];exact C⟩,n,λb m=>(r b m).1⟩⟩
 e:=by
  intro X J D L F i l s Z H E I r j G;subst J D L;obtain⟨M,q,C⟩:=G;obtain⟨B,A,p,U⟩:=I.list q;obtain⟨V,T,f2,R,Q,N⟩:=r it (by simp)
  have hl:=A.length;exact wpAny_pyNext_list_end (I.y.g F) j p.isList (by simp;omega) λt eb=>⟨rfl,I.turned (t':=s.toks) (λb o m e=>eb b o m e) V T R Q N⟩
 d:=λ_ _ _ _ _ j h=>wpAny_pyIter_listiter j h
def gU{K}a it:Turn P w K tg (Itt K a) [it] it (λi h=>h.IsTupleIter it a i) where
 g:=by simp
 c:=λi h l b q=>by
  have e:b=it:=by simpa using q
  subst e;refine byG λr j=>?_;obtain⟨o,e,c,d⟩:=l;refine j ?_;exact⟨o,e,λv z=>by rw[d]at z;cases z⟩
 a:=λi h C l k=>l.at λo e=>k it (by simp) o e
 f:=by
  intro X N J Q O i m s M H E I B l L;subst N J Q;refine byG λr j=>?_;obtain⟨S,x,A,G⟩:=L;refine j ?_;refine byG λr j=>?_;obtain⟨n,D,p,Y⟩:=I.tuple A;refine j ?_;obtain⟨u,hu,W⟩:=D.get G;refine byG λr j=>?_;obtain⟨F,Z,f2,V,T,R⟩:=B it (by simp)
  refine j ?_;refine wpAny_pyNext_tuple_item l (show s.heap.IsTuple a n.toArray from p) (x:=u) (by simpa using hu) λC t U=>?_
  have I1:Inv X m M H {s with heap:=C}:=I.turned (t':=s.toks) (λb o q e=>(U.2 b q).trans e) F Z V T R
  refine byG λr j=>?_;obtain⟨o,e,c,d⟩:=id t;refine j ?_;exact⟨u,rfl,az (s:={s with heap:=C}) e c d (by decide) ⟨x,H,I1,W,⟨rfl,λys hy=>by rw[I.nh hy A];exact G⟩,t,λb q=>(B b q).1⟩⟩
 e:=by
  intro X N J Q O i m s M H E I B l L;subst N J Q;obtain⟨S,A,G⟩:=L;refine byG λr j=>?_;obtain⟨n,D,p,Y⟩:=I.tuple A;refine j ?_;refine byG λr j=>?_;obtain⟨F,Z,f2,V,T,R⟩:=B it (by simp)
  refine j ?_;have hl:=D.length;exact wpAny_pyNext_tuple_end (I.y.g O) l (show s.heap.IsTuple a n.toArray from p) (by simp;omega) λC eb=>⟨rfl,I.turned (t':=s.toks) (λb o q e=>eb b o q e) F Z V T R⟩
 d:=λ_ _ _ _ _ l h=>wpAny_pyIter_tupleiter l h
def gT{K}it lo n:Turn P w K tg (Itr lo n) [it] it (λi h=>IsRangeIter h it (lo+(i:Nat)*1) ((n:Int)-(i:Nat)) 1) where
 g:=by simp
 c:=λi h j b l=>by
  have e:b=it:=by simpa using l
  subst e;exact⟨_,j,λv z=>by have V:HZ _=Data.cell v:=z;cases V⟩
 a:=λi h x j k=>k it (by simp) _ j
 f:=by
  intro X C u D B i p s R H E I r j A;subst C u D;refine byG λZ m=>?_;obtain⟨Q,N,O,L,J,G⟩:=r it (by simp)
  refine m ?_;have W:=Walks.range (prog:=X.f) (w:=X.w) (I.y.g B) it lo 1 n;refine W.item i s _ _ A j λv x T M q F=>?_;obtain⟨t,rfl⟩:=M;have U:Inv X p R H {s with heap:=x,toks:=T}:=I.turned (λb o l e=>F b o (by simpa using l) e) Q N L J G
  refine⟨_,rfl,az (s:={s with heap:=x,toks:=T}) (n:="range_iterator") q rfl rfl (by decide) ⟨.d (lo+i),H,U,⟨t,?_⟩,⟨rfl,rfl⟩,q,λb l=>(r b l).1⟩⟩
  rw[Int.mul_one]
 e:=by
  intro X C u D B i p s R H E I r j A;subst C u D;refine byG λZ m=>?_;obtain⟨Q,N,O,L,J,G⟩:=r it (by simp)
  refine m ?_;exact wpAny_pyNext_range_end (I.y.g B) j (by have:n<=i:=A;omega) λx S=>⟨rfl,I.turned (t':=s.toks) (λb o l e=>S b o l e) Q N L J G⟩
 d:=λ_ _ _ _ _ j h=>wpAny_pyIter_rangeiter j h
section
variable {X:Cx}{tg:Expr}
def QZ(K:AH)(t:TE):TI:=λb H R=>t b H λx A=>∃a,x=.c a/\(∃f,SqL K A a f)/\R (Itl K a) A
def Om(K:AH)(t:TE):TI:=λb H R=>t b H λx A=>∃a,x=.c a/\(∃f,SqT K A a f)/\R (Itt K a) A
def eC(n:PE X l tl):PI X tg l (QZ X.K tl):=by
 intro c s g H R I h;refine thn (n c s g H _ I h) λv f z=>?_;obtain⟨x,B,A,r,i⟩:=z;obtain⟨a,e,⟨y,m⟩,q⟩:=i;subst e;cases r;obtain⟨k,d,p,u⟩:=A.list m;refine Ei p.isList ?_;refine⟨f.heap.objs.size,[f.heap.objs.size],_,_,B,rfl,A.kept (t':=f.toks) λb o e=>xd _ e,bY a _,⟨_,Az _ rfl,rfl,rfl⟩,λb t=>?_,q⟩;have e:b=f.heap.objs.size:=by simpa using t
 subst e;exact A.WA (Ad _) (A.j.fresh (Ad _))
def YJ(n:PE X l tl):PI X tg l (Om X.K tl):=by
 intro f s g H R I h;refine thn (n f s g H _ I h) λv c z=>?_;obtain⟨x,B,A,r,k⟩:=z;obtain⟨a,e,⟨y,m⟩,q⟩:=k;subst e;cases r;obtain⟨i,d,p,u⟩:=A.tuple m;refine Dt (show c.heap.IsTuple a i.toArray from p) ?_;refine⟨c.heap.objs.size,[c.heap.objs.size],_,_,B,rfl,A.kept (t':=c.toks) λb o e=>xd _ e,gU a _,⟨_,Az _ rfl,rfl,rfl⟩,λb t=>?_,q⟩;have e:b=c.heap.objs.size:=by simpa using t
 subst e;exact A.WA (Ad _) (A.j.fresh (Ad _))
def jN{lo hi}(I:Inv X pins σ H s)(i:-(2 ^ 62)<=lo)(g:lo<2 ^ 62)(c:-(2 ^ 62)<=hi)(a:hi<2 ^ 62)
 (q:R (Itr lo (hi-lo).toNat) H):wpAny (model X.f X.w) X.A (pyIter (.ref s.heap.objs.size)) (PIE X pins σ tg R) E {s with heap:=s.heap.push {cls:=.type "range",data:=.fields #[.int lo t,.int hi u,.int 1 v]},toks:=tk}:=by
 refine wpAny_pyIter_range (IsRange.new ..) (small_one i g c a) ?_;have B:Inv X pins σ H {s with heap:=s.heap.push {cls:=.type "range",data:=.fields #[.int lo t,.int hi u,.int 1 v]},toks:=tk}:=I.kept λb o e=>xd _ e
 refine⟨(s.heap.push {cls:=.type "range",data:=.fields #[.int lo t,.int hi u,.int 1 v]}).objs.size,[(s.heap.push {cls:=.type "range",data:=.fields #[.int lo t,.int hi u,.int 1 v]}).objs.size],_,_,H,rfl,
  B.kept (t':=tk) λb o e=>xd _ e,gT _ lo (hi-lo).toNat,?_,λb h=>?_,q⟩
 . have l:lo+((0:Nat):Int)*1=lo:=by simp
   have k:(((hi-lo).toNat:Nat):Int)-((0:Nat):Int)=A4 lo hi 1:=by rw[rangeSize_one];split<;>omega
   show IsRangeIter _ _ (lo+((0:Nat):Int)*1) ((((hi-lo).toNat:Nat):Int)-((0:Nat):Int)) 1;rw[l,k];exact Az _ rfl
 . have e:b=(s.heap.push {cls:=.type "range",data:=.fields #[.int lo t,.int hi u,.int 1 v]}).objs.size:=by simpa using h
   subst e;exact B.WA (Ad _) (B.j.fresh (Ad _))
def Qa(t:TA):TI:=λa H R=>t a H λv A=>∃j:Int,v=[.d j]∧-(2 ^ 62)<=j/\j<2 ^ 62/\R (Itr 0 j.toNat) A
def Qb(t:TA):TI:=λa H R=>t a H λv A=>∃i j:Int,v=[.d i,.d j]/\(-(2 ^ 62)<=i/\i<2 ^ 62∧-(2 ^ 62)<=j/\j<2 ^ 62)/\R (Itr i (j-i).toNat) A
def cu(n:Gl X "range")(m:X.d "range"=none)(o:PA X [a] ta)(l:A6 [a] X.a=[(false,eval a X.a)]:=by rfl):PI X tg (.Call (.Name "range" p) [a] [] pos) (Qa ta):=by
 intro b s f H R I h;refine Call_ (uH I n m boot_range (Ci (thn (o pos b s f H _ I h) λu x z=>?_) l rfl));obtain⟨v,B,A,i,c⟩:=z;obtain⟨j,e,c,k,q⟩:=c;subst e;cases i with
 |cons r g=>
  cases g;obtain⟨t,rfl⟩:=r;exact call_range_1 (jN A ⋯ ⋯ c k (by simpa using q))
def cw(z:Gl X "range")(y:X.d "range"=none)(u:PA X [a,b] ta)(x:A6 [a,b] X.a=[(false,eval a X.a),(false,eval b X.a)]:=by rfl)(f:A6 [b] X.a=[(false,eval b X.a)]:=by rfl) :
 PI X tg (.Call (.Name "range" p) [a,b] [] pos) (Qb ta):=by
 intro c s l H R I h;refine Call_ (uH I z y boot_range (Ci (thn (u pos c s l H _ I h) λw B ⟨vs,H1,I1,r1,k⟩=>?_) (by rw[x,f]) (by rw[f];rfl)))
 obtain⟨i,j,e,⟨k,v,o,n⟩,q⟩:=k;subst e;cases r1 with
 |cons r g=>
  cases g with
  |cons m g=>
   cases g;obtain⟨t,rfl⟩:=r;obtain⟨A,rfl⟩:=m;exact call_range_2 (jN I1 k v o n q)
def NF(w:TI)(g:TG)(t:TS):TS:=λD f H=>w f H λJ C=>∃W:Nat->Nat->St->Hp->Prop,(∃m,W 0 m f C)/\∀i m f H,W i m f H ->
 (J.a i H/\D.a f H)\/(J.c i H/\∃N:St->Hp->Prop,(∀h A,N h A->∃k,k<m/\W (i+1) k h A)/\∀x A,J.b i H x A->g x f A λj B=>t {D with a:=N,c:=N,b:=D.a} j B)
noncomputable def rO(f:List Addr)(h:Heap):List (Addr × Obj):=f.filterMap λb=>(h.get? b).map λo=>(b,o)
def xM(a:b∈fp)(e:h.get? b=some o):(b,o)∈rO fp h:=D2.mpr ⟨b,a,by rw[e];rfl⟩
def d9(a:p∈rO fp h):p.1∈fp/\h.get? p.1=some p.2:=by
 obtain⟨b,c,e⟩:=D2.mp a;cases q:h.get? b with
 |none=>rw[q]at e;cases e
 |some o=>
  rw[q]at e;have f:(b,o)=p:=AL e;subst f;exact⟨c,q⟩
def Inv.pinned(I:Inv X pins σ H s)(g:∀b∈fp,wI X pins H b)(f:∀b∈fp,∃o,s.heap.get? b=some o/\∀v,o.data≠.cell v):Inv X (pins++rO fp s.heap) σ H s:=
 I.eE λp c=>(AS.mp c).elim (λz=>I.O p (AY _ z)) λz=>by obtain⟨h,e⟩:=d9 z;obtain⟨k,j,i,_⟩:=g p.1 h;obtain⟨o,a,d⟩:=f p.1 h;rw[e]at a;cases a;exact⟨e,k,j,i,d⟩
def Inv.uY(I:Inv X (pins++pl) σ H s):Inv X pins σ H s:=I.eE λp h=>I.O p (AY _ (Bp _ h))
def RN(F:GB (model X.f X.w) X.A X.a X.h)(hc:X.g=true)(hi:PI X tg iter wi)(hg:PG X tg g)(t:PSs X body tb)
 (hs:∀x,AM iter X.a x=pure x:=by intro _;rfl):PS X (.For tg iter body [] pos) (NF wi g tb):=by
 intro p s σ H D I h;refine wpAny_For (thn (hi p s σ H _ I h) λv s1 h1=>thn h1 λitv s2 h2=>?_) hs;refine byG λpi y=>?_;obtain⟨it,S,tn,J,H2,e,I2,T,st2,f2,W,⟨m0,w0⟩,P⟩:=h2;refine y ?_;subst e
 have q:∀{E:Hp},(∀b∈S,E b=none)->∀b∈S,wI X p E b:=λhn b t=>⟨hn b t,(f2 b t).2⟩;refine codeAny_forLoop_any (λn s'=>∃i l E,Inv X p l E s'/\tn i s'.heap/\(∀b∈S,E b=none)/\W i n l E) ?_ m0 ⟨0,σ,H2,I2,st2,λb t=>(f2 b t).1,w0⟩;rintro n s3 ⟨i,k,U,I3,V,M,w3⟩;rcases P i n k U w3 with⟨Q,qn⟩|⟨go,N,hN,R⟩
 . refine Dx F (thn (T.e X rfl rfl rfl hc i p s3 k U X.h I3 (q M) V Q) λr s4 K=>?_)
   obtain⟨hr,I4⟩:=K;subst hr;exact HI ⟨k,U,I4,qn⟩
 . refine Dx F (thn (T.f X rfl rfl rfl hc i p s3 k U X.h I3 (q M) V go) λr s4 K=>?_)
   obtain⟨u,hr,h4⟩:=K;subst hr;refine Dx F (thn h4 λ_ s5 K=>?_);refine byG λpi y=>?_;obtain⟨x,H5,I5,r5,y5,L,fr5⟩:=K;refine y ?_;have I5':=I5.pinned (q fr5) (T.c _ _ L);refine Dx F (thn (hg _ s5 k H5 x u _ I5' r5 (R x H5 y5)) λ_ s6 K=>?_);refine byG λpi y=>?_;obtain⟨Y,H6,I6,q6⟩:=K;refine y ?_;refine Dx F (thn (t _ s6 Y H6 _ I6 q6) λf s7 G=>?_);have z:∀{j:St} {C:Hp},Inv X (p++rO S s5.heap) j C s7->N j C->∃m,m<n/\∃i l E,Inv X p l E s7/\tn i s7.heap/\(∀b∈S,E b=none)/\W i m l E:=λ{j C} B Z=>by obtain⟨m',hm,w7⟩:=hN j C Z;refine⟨m',hm,i+1,j,C,B.uY,T.a _ _ _ L λb t o e=>(B.O (b,o) (AY _ (AY _ (xM t e)))).1,λb t=>?_,w7⟩;obtain⟨o,e,d⟩:=T.c _ _ L b t;exact(B.O (b,o) (AY _ (AY _ (xM t e)))).2.1
   cases f with
   |next=>obtain⟨j,C,B,Z⟩:=G;exact z B Z
   |cont=>obtain⟨j,C,B,Z⟩:=G;exact z B Z
   |brk=>obtain⟨j,C,B,G⟩:=G;exact⟨j,C,B.uY,G⟩
   |ret v=>obtain⟨x7,j,C,B,r7,G⟩:=G;exact⟨x7,j,C,B.uY,r7,G⟩
end
abbrev R2:=V->V->Hp->VK->Prop
def OpR(X:Cx)(f:Value->Value->Sem Value)(r:R2):Prop:=
 ∀(p:List (Addr × Obj)) (s:Shared) (σ:St) (H:Hp) (x y:V) (v u:Value) (Q:VK),Inv X p σ H s->RelV x v->RelV y u->r x y H Q ->
  wpAny (model X.f X.w) X.A (f v u) (EP X p σ Q) X.h s
def UnR(X:Cx)(f:Value->Sem Value)(r:V->Hp->VK->Prop):Prop:=
 ∀(p:List (Addr × Obj)) (s:Shared) (σ:St) (H:Hp) (x:V) (v:Value) (Q:VK),Inv X p σ H s->RelV x v->r x H Q ->
  wpAny (model X.f X.w) X.A (f v) (EP X p σ Q) X.h s
def yJ(X:Cx)(f:Value)(r:List V->Hp->VK->Prop):Prop:=
 ∀(p:List (Addr × Obj)) (s:Shared) (σ:St) (H:Hp) (xs:List V) (us:List Value) (Q:VK),Inv X p σ H s->Vals xs us->r xs H Q ->
  wpAny (model X.f X.w) X.A (call f us) (EP X p σ Q) X.h s
def Oa(X:Cx)(r:V->Hp->(Bool->Hp->Prop)->Prop):Prop:=
 ∀(p:List (Addr × Obj)) (s:Shared) (σ:St) (H:Hp) (x:V) (v:Value) (Q:Bool->Hp->Prop),Inv X p σ H s->RelV x v->r x H Q ->
  wpAny (model X.f X.w) X.A (truthy v) (TP X p σ Q) X.h s
def tOp(r:R2)(b t:TE):TE:=λa H Q=>b a H λx B=>t a B λy A=>r x y A Q
def tUn(r:V->Hp->VK->Prop)(t:TE):TE:=λa H Q=>t a H λx A=>r x A Q
def rI(C:Int->Int->Prop)(g:Int->Int->V):R2:=λx y H Q=>∃i j,x=.d i/\y=.d j/\C i j/\Q (g i j) H
def rI0(g:Int->Int->V):R2:=λx y H Q=>∃i j,x=.d i/\y=.d j/\Q (g i j) H
def rU(g:Int->V):V->Hp->VK->Prop:=λx H Q=>∃i,x=.d i/\Q (g i) H
section
variable {X:Cx}{a b c:Expr}{ta tb tc:TE}{pos:Pos}
def Ux(l:PE X a ta)(k:PE X b tb){R:V->V->Hp->Prop}(I:Inv X pins σ H s)
 (h:ta σ H λx O=>tb σ O λy F=>R x y F)  {f:Value->Value->Sem Value}
 (j:∀v u M x y F,Inv X pins σ F M->RelV x v->RelV y u->R x y F->wpAny (model X.f X.w) X.A (f v u) Q X.h M) :
 wpAny (model X.f X.w) X.A (eval a X.a) (λv e=>wpAny (model X.f X.w) X.A (eval b X.a) (λu d=>wpAny (model X.f X.w) X.A (f v u) Q X.h d) X.h e) X.h s:=by
 refine thn (l pins s σ H _ I h) λv c z=>?_;obtain⟨x,O,C,g,i⟩:=z;refine thn (k pins c σ O _ C i) λu M z=>?_;obtain⟨y,F,B,r,q⟩:=z;exact j v u M x y F B g r q
def Pf(j:OpR X (B2 op) r)(l:PE X a ta)(k:PE X b tb):PE X (.BinOp a op b pos) (tOp r ta tb):=by intro p s c H Q I h;exact wpAny_BinOp (Ux l k I h λv u f x y B A i g q=>j p f c B x y v u Q A i g q)
def Ph(f:UnR X (unaryOp op) r)(g:PE X a ta):PE X (.UnaryOp op a pos) (tUn r ta):=by intro p s b H Q I h;exact UnaryOp_ (thn (g p s b H _ I h) λv c ⟨x,H1,I1,r1,q1⟩=>f p c b H1 x v Q I1 r1 q1)
def opI{f:Value->Value->Sem Value}{C:Int->Int->Prop}{g:Int->Int->Int}
 (r:∀i j t u (s:Shared) (Q:Value->Shared->Prop) E,C i j->Q (.int (g i j) s.toks) {s with toks:=s.toks+1}->wpAny (model X.f X.w) X.A (f (.int i t) (.int j u)) Q E s) :
 OpR X f (rI C λi j=>.d (g i j)):=by
 intro p s l H x y v u Q I c b h;obtain⟨i,j,rfl,rfl,k,q⟩:=h;obtain⟨t,rfl⟩:=c;obtain⟨a,rfl⟩:=b;exact r i j t a s _ _ k ⟨.d (g i j),H,I.tok _,⟨_,rfl⟩,q⟩
def W3{f:Value->Value->Sem Value}{g:Int->Int->Int}
 (r:∀i j t u (s:Shared) (Q:Value->Shared->Prop) E,Q (.int (g i j) s.toks) {s with toks:=s.toks+1}->wpAny (model X.f X.w) X.A (f (.int i t) (.int j u)) Q E s) :
 OpR X f (rI0 λi j=>.d (g i j)):=by
 intro p s k H x y v u Q I c b h;obtain⟨i,j,rfl,rfl,q⟩:=h;obtain⟨t,rfl⟩:=c;obtain⟨a,rfl⟩:=b;exact r i j t a s _ _ ⟨.d (g i j),H,I.tok _,⟨_,rfl⟩,q⟩
def W2{f:Value->Value->Sem Value}{g:Int->Int->Bool}
 (r:∀i j t u s (Q:Value->Shared->Prop) E,Q (.bool (g i j)) s->wpAny (model X.f X.w) X.A (f (.int i t) (.int j u)) Q E s) :
 OpR X f (rI0 λi j=>.e (g i j)):=by
 intro p s k H x y v u Q I c b h;obtain⟨i,j,rfl,rfl,q⟩:=h;obtain⟨t,rfl⟩:=c;obtain⟨a,rfl⟩:=b;exact r i j t a s _ _ ⟨.e (g i j),H,I,rfl,q⟩
def Uj(i j:Int):Prop:=0<j/\j<1073741824
def OW(i j:Int):Prop:=0<=j/\j<=1000000/\i.natAbs<2 ^ 64
def Xd(i j:Int):Prop:=(-(2 ^ 64)<i/\i<2 ^ 64)\/(-(2 ^ 64)<j/\j<2 ^ 64)
def Xd.ok(h:Xd i j):IntMulOk i j:=by
 rcases h with⟨b,a⟩|⟨b,a⟩
 . exact .of_left (intBits_le_64 b a)
 . exact .of_right (intBits_le_64 b a)
def Si:OpR X (B2 .Add) (rI0 λi j=>.d (i+j)):=W3 λ_ _ _ _ _ _ _ q=>add_int q
def Su:OpR X (B2 .Sub) (rI0 λi j=>.d (i-j)):=W3 λ_ _ _ _ _ _ _ q=>sub_int q
def Sq:OpR X (B2 .Mult) (rI Xd λi j=>.d (i*j)):=opI λ_ _ _ _ _ _ _ h q=>mul_int q h.ok
def W5:OpR X (B2 .FloorDiv) (rI Uj λi j=>.d (i/j)):=opI λi j _ _ _ _ _ h q=>by have b:(0:Int)<j:=h.1;have a:j<1073741824:=h.2;exact floordiv_int ⋯ (by rw[ET i ⋯];exact q) (.inl (Fv ⋯))
def So:OpR X (B2 .Mod) (rI (λ_ j=>0<j) λi j=>.d (i%j)):=opI λi j _ _ _ _ _ h q=>by have a:(0:Int)<j:=h;exact mod_int' ⋯ (by rw[EU i ⋯];exact q)
def Sr:OpR X (B2 .Pow) (rI OW λi j=>.d (i ^ j.toNat)):=opI λ_ _ _ _ _ _ _ h q=>pow_int_small h.1 h.2.1 h.2.2 q
def WK:OpR X (E5 .Add) (rI0 λi j=>.d (i+j)):=W3 λ_ _ _ _ _ _ _ q=>iadd_int q
def WN:OpR X (E5 .Sub) (rI0 λi j=>.d (i-j)):=W3 λ_ _ _ _ _ _ _ q=>isub_int q
def WM:OpR X (E5 .Mult) (rI Xd λi j=>.d (i*j)):=opI λ_ _ _ _ _ _ _ h q=>imul_int q h.ok
def ZD:OpR X (E5 .FloorDiv) (rI Uj λi j=>.d (i/j)):=opI λi j _ _ _ _ _ h q=>by have b:(0:Int)<j:=h.1;have a:j<1073741824:=h.2;exact ifloordiv_int ⋯ (by rw[ET i ⋯];exact q) (.inl (Fv ⋯))
def WL:OpR X (E5 .Mod) (rI (λ_ j=>0<j) λi j=>.d (i%j)):=opI λi j _ _ _ _ _ h q=>by have a:(0:Int)<j:=h;exact imod_int ⋯ (by rw[EU i ⋯];exact q)
def unI{f:Value->Sem Value}{g:Int->Int}
 (r:∀i t (s:Shared) (Q:Value->Shared->Prop) E,Q (.int (g i) s.toks) {s with toks:=s.toks+1}->wpAny (model X.f X.w) X.A (f (.int i t)) Q E s) :
 UnR X f (rU λi=>.d (g i)):=by
 intro p s b H x v Q I a h;obtain⟨i,rfl,q⟩:=h;obtain⟨t,rfl⟩:=a;exact r i t s _ _ ⟨.d (g i),H,I.tok _,⟨_,rfl⟩,q⟩
def Rw:UnR X (unaryOp .USub) (rU λi=>.d (-i)):=unI λ_ _ _ _ _ q=>neg_int q
end
noncomputable def P8:V->V->Bool
 |.f,.f=>true|.f,.d _=>true|.d _,.f=>true|.f,.e _=>true|.e _,.f=>true|.f,.g _=>true|.g _,.f=>true
 |.d _,.d _=>true|.e _,.e _=>true|.g _,.g _=>true|.h _,.h _=>true
 |.d _,.g _=>true|.g _,.d _=>true|.e _,.g _=>true|.g _,.e _=>true
 |_,_=>false
def rEq:R2:=λx y H Q=>P8 x y=true/\Q (.e (decide (x=y))) H
def rNe:R2:=λx y H Q=>P8 x y=true/\Q (.e (!decide (x=y))) H
def fG:decide (V.d i=V.d j)=(i == j):=by rw[BN];simp
def aN:decide (V.e i=V.e j)=(i == j):=by rw[BN];simp
def fH:decide (V.g i=V.g j)=(i == j):=by rw[BN];simp
def fF:decide (V.h i=V.h j)=(i.toList == j.toList):=by rw[BN];cases i;cases j;simp
section
variable {X:Cx}{a b c:Expr}{ta tb tc:TE}{pos:Pos}
def zf(I:Inv X pins σ H s)(q:Q (.e k) H)(e:k=k'):EP X pins σ Q (.bool k') s:=by subst e;exact⟨.e k,H,I,rfl,q⟩
def Q6:OpR X (Bc .Eq) rEq:=by
 intro p s k H x y v u Q I c r h;obtain⟨b,q⟩:=h;cases x with
 |f=>
  cases c;cases y with
  |f=>cases r;exact PySem.EqNone.eq_none_none (zf I q (by simp))
  |e j=>cases r;exact PySem.EqNone.eq_none_bool (zf I q (by simp))
  |d j=>obtain⟨a,rfl⟩:=r;exact PySem.EqNone.eq_none_int (zf I q (by simp))
  |g j=>obtain⟨a,rfl⟩:=r;exact PySem.EqNone.eq_none_str (zf I q (by simp))
  |_=>exact absurd (show false=true from b) Aj
 |e i=>
  cases c;cases y with
  |f=>cases r;exact PySem.EqNone.eq_bool_none (zf I q (by simp))
  |e j=>cases r;exact eq_bool (zf I q aN)
  |g j=>obtain⟨a,rfl⟩:=r;exact PySem.EqMixed.eq_bool_str (zf I q (by simp))
  |_=>exact absurd (show false=true from b) Aj
 |d i=>
  obtain⟨t,rfl⟩:=c;cases y with
  |f=>cases r;exact PySem.EqNone.eq_int_none (zf I q (by simp))
  |d j=>obtain⟨a,rfl⟩:=r;exact eq_int (zf I q fG)
  |g j=>obtain⟨a,rfl⟩:=r;exact PySem.EqMixed.eq_int_str (zf I q (by simp))
  |_=>exact absurd (show false=true from b) Aj
 |g i=>
  obtain⟨t,rfl⟩:=c;cases y with
  |f=>cases r;exact PySem.EqNone.eq_str_none (zf I q (by simp))
  |e j=>cases r;exact PySem.EqMixed.eq_str_bool (zf I q (by simp))
  |d j=>obtain⟨a,rfl⟩:=r;exact PySem.EqMixed.eq_str_int (zf I q (by simp))
  |g j=>obtain⟨a,rfl⟩:=r;exact eq_str (zf I q fH)
  |_=>exact absurd (show false=true from b) Aj
 |h i=>
  obtain⟨t,rfl⟩:=c;cases y with
  |h j=>obtain⟨a,rfl⟩:=r;exact PySem.W.eq_bytes (zf I q fF)
  |_=>exact absurd (show false=true from b) Aj
 |_=>cases y<;>exact absurd (show false=true from b) Aj
def PD:OpR X (Bc .NotEq) rNe:=by
 intro p s k H x y v u Q I c r h;obtain⟨b,q⟩:=h;cases x with
 |f=>
  cases c;cases y with
  |f=>cases r;exact PySem.EqNone.ne_none_none (zf I q (by simp))
  |e j=>cases r;exact PySem.EqNone.ne_none_bool (zf I q (by simp))
  |d j=>obtain⟨a,rfl⟩:=r;exact PySem.EqNone.ne_none_int (zf I q (by simp))
  |g j=>obtain⟨a,rfl⟩:=r;exact PySem.EqNone.ne_none_str (zf I q (by simp))
  |_=>exact absurd (show false=true from b) Aj
 |e i=>
  cases c;cases y with
  |f=>cases r;exact PySem.EqNone.ne_bool_none (zf I q (by simp))
  |e j=>cases r;exact ne_bool (zf I q (congrArg not aN))
  |g j=>obtain⟨a,rfl⟩:=r;exact PySem.EqMixed.ne_bool_str (zf I q (by simp))
  |_=>exact absurd (show false=true from b) Aj
 |d i=>
  obtain⟨t,rfl⟩:=c;cases y with
  |f=>cases r;exact PySem.EqNone.ne_int_none (zf I q (by simp))
  |d j=>obtain⟨a,rfl⟩:=r;exact ne_int (zf I q (congrArg not fG))
  |g j=>obtain⟨a,rfl⟩:=r;exact PySem.EqMixed.ne_int_str (zf I q (by simp))
  |_=>exact absurd (show false=true from b) Aj
 |g i=>
  obtain⟨t,rfl⟩:=c;cases y with
  |f=>cases r;exact PySem.EqNone.ne_str_none (zf I q (by simp))
  |e j=>cases r;exact PySem.EqMixed.ne_str_bool (zf I q (by simp))
  |d j=>obtain⟨a,rfl⟩:=r;exact PySem.EqMixed.ne_str_int (zf I q (by simp))
  |g j=>obtain⟨a,rfl⟩:=r;exact ne_str (zf I q (congrArg not fH))
  |_=>exact absurd (show false=true from b) Aj
 |h i=>
  obtain⟨t,rfl⟩:=c;cases y with
  |h j=>obtain⟨a,rfl⟩:=r;exact PySem.W.ne_bytes (zf I q (congrArg not fF))
  |_=>exact absurd (show false=true from b) Aj
 |_=>cases y<;>exact absurd (show false=true from b) Aj
def PC:OpR X (Bc .Lt) (rI0 λi j=>.e (decide (i<j))):=W2 λ_ _ _ _ _ _ _ q=>lt_int q
def Q9:OpR X (Bc .LtE) (rI0 λi j=>.e (decide (i<=j))):=W2 λ_ _ _ _ _ _ _ q=>le_int q
def Q8:OpR X (Bc .Gt) (rI0 λi j=>.e (decide (j<i))):=W2 λ_ _ _ _ _ _ _ q=>gt_int q
def Q7:OpR X (Bc .GtE) (rI0 λi j=>.e (decide (j<=i))):=W2 λ_ _ _ _ _ _ _ q=>ge_int q
def Sn:OpR X (Bc .Is) (λx y H Q=>y=.f/\Q (.e (decide (x=.f))) H):=by
 intro p s b H x y v u Q I r a h;obtain⟨rfl,q⟩:=h;cases a;refine is_none_gen (zf I q ?_);cases x<;>first
  |(cases r;rfl)
  |(obtain⟨t,rfl⟩:=r;rfl)
def W6:OpR X (Bc .IsNot) (λx y H Q=>y=.f/\Q (.e (!decide (x=.f))) H):=by
 intro p s b H x y v u Q I r a h;obtain⟨rfl,q⟩:=h;cases a;refine isnot_none_gen (zf I q ?_);cases x<;>first
  |(cases r;rfl)
  |(obtain⟨t,rfl⟩:=r;rfl)
def VL(j:OpR X (Bc op) r)(m:PE X a ta)(l:PE X b tb)(k:IA op b=false):PE X (.Compare a [op] [b] pos) (tOp r ta tb):=by intro p s c H Q I h;exact wpAny_Compare1 (Ux m l I h λv u f x y B A i g q=>j p f c B x y v u Q A i g q) k
def Uc(t:TE):TT:=λa H Q=>t a H λx A=>∃k,x=.e k/\Q k A
def VW(j:OpR X (Bc op) r)(n:PE X a ta)(m:PE X b tb)(l:IA op b=false):PT X (.Compare a [op] [b] pos) (Uc (tOp r ta tb)):=by
 intro p s f H Q I h;refine wpAny_isTrue_Compare1 (thn (n p s f H _ I h) λv i ⟨x,H1,I1,r1,q1⟩=>thn (m p i f H1 _ I1 q1) λu g ⟨y,H2,I2,r2,q2⟩=>
  thn (j p g f H2 x y v u _ I2 r1 r2 q2) λc o ⟨z,H3,I3,r3,k,e,q3⟩=>?_) l
 subst e;cases r3;exact CC ⟨H3,I3,q3⟩
def XG(r b:R2)(ta tb tc:TE):TE:=λa H Q=>ta a H λx D=>tb a D λy C=>r x y C λz A=>∃k,z=.e k /\
 (if k=true then tc a A λw B=>b y w B Q else Q (.e false) A)
def YB(n:OpR X (Bc op) r)(g:OpR X (Bc op') r')(A:PE X a ta)(t:PE X b tb)(q:PE X c tc)
 (o:IJ [op,op'] [b,c]=false:=by with_unfolding_all rfl):PE X (.Compare a [op,op'] [b,c] pos) (XG r r' ta tb tc):=by
 intro p s f H Q I h;refine Compare_chain (thn (A p s f H _ I h) λv m ⟨x,H1,I1,r1,q1⟩=>chain_link (thn (t p m f H1 _ I1 q1) λu l ⟨y,H2,I2,r2,q2⟩=>
  thn (n p l f H2 x y v u _ I2 r1 r2 q2) λd j ⟨z,H3,I3,r3,k,e,q3⟩=>?_)) o
 subst e;cases r3;refine CC ?_;cases k with
 |false=>exact ite_ff ⟨.e false,H3,I3,rfl,q3⟩
 |true=>exact ite_tt (chain_last (thn (q p j f H3 _ I3 q3) λw i ⟨z',H4,I4,r4,q4⟩=>g p i f H4 y z' u w Q I4 r2 r4 q4))
def YV(A:OpR X (Bc op) r)(g:OpR X (Bc op') r')(E:PE X a ta)(D:PE X b tb)(C:PE X c tc)
 (B:IJ [op,op'] [b,c]=false:=by with_unfolding_all rfl):PT X (.Compare a [op,op'] [b,c] pos) (Uc (XG r r' ta tb tc)):=by
 intro p s f H Q I h;refine isTrue_chain (thn (E p s f H _ I h) λv n ⟨x,H1,I1,r1,q1⟩=>test_link (thn (D p n f H1 _ I1 q1) λu m ⟨y,H2,I2,r2,q2⟩=>
  thn (A p m f H2 x y v u _ I2 r1 r2 q2) λd l ⟨z,H3,I3,r3,k,e,q3⟩=>?_)) B
 subst e;cases r3;refine CC ?_;cases k with
 |false=>
  obtain⟨T,J,t⟩:=q3;cases J;exact ite_ff ⟨H3,I3,t⟩
 |true=>
  refine ite_tt (test_last (thn (C p l f H3 _ I3 q3) λw j ⟨z',H4,I4,r4,q4⟩=>thn (g p j f H4 y z' u w _ I4 r2 r4 q4) λV P i=>?_));obtain⟨N,L,K,o,R,G,q⟩:=i;subst G;cases o;exact CC ⟨L,K,q⟩
def Xf(K:AH)(x:V)(H:Hp)(k:Bool):Prop:=
 match x with
 |.f=>k=false
 |.e b=>k=b
 |.d i=>k=(i != 0)
 |.g y=>y.length<=AI/\k=((y.length:Int) != 0)
 |.h y=>y.size<=AI/\k=((y.size:Int) != 0)
 |.c p=>(∃a,SqL K H p a/\k=!a.isEmpty)\/(∃a,SqT K H p a/\k=!a.isEmpty)\/∃l,H p=some (.j l)/\k=!l.isEmpty
 |_=>False
def iK(r:KV kvs vs):(!vs.isEmpty)=!kvs.isEmpty:=by
 cases r<;>rfl
def pD(r:Vals xs its):(!its.toArray.isEmpty)=!xs.isEmpty:=by
 cases r<;>simp
def tU:(AI:Nat)<2 ^ 63:=by rw[AX];decide
def XQ:Oa X (λx H Q=>∃k,Xf X.K x H k/\Q k H):=by
 intro D s L H x v Q I z h;obtain⟨k,e,q⟩:=h;have R:=tU;have N:AI=16777216:=AX;cases x with
 |f=>
  cases z;have a:k=false:=e;subst a;exact truthy_none ⟨H,I,q⟩
 |e b=>
  cases z;have a:k=b:=e;subst a;exact CC ⟨H,I,q⟩
 |d i=>
  obtain⟨t,rfl⟩:=z;have a:k=(i != 0):=e;subst a;exact PySem.P.truthy_int ⟨H,I,q⟩
 |g y=>
  obtain⟨t,rfl⟩:=z;obtain⟨G,a⟩:y.length<=AI/\k=((y.length:Int) != 0):=e;subst a;exact PySem.P.truthy_str ⋯ ⟨H,I.tok _,q⟩
 |h y=>
  obtain⟨t,rfl⟩:=z;obtain⟨G,a⟩:y.size<=AI/\k=((y.size:Int) != 0):=e;subst a;exact PySem.W.truthy_bytes ⋯ ⟨H,I.tok _,q⟩
 |c p=>
  cases z;have a:(∃o,SqL X.K H p o/\k=!o.isEmpty)\/(∃o,SqT X.K H p o/\k=!o.isEmpty)\/∃l,H p=some (.j l)/\k=!l.isEmpty:=e;rcases a with⟨o,u,a⟩|⟨o,u,a⟩|⟨l,u,a⟩
  . subst a
    obtain⟨C,r,B,E⟩:=I.list u;have n:=r.length;exact wpAny_truthy_list B.isList (by simp only[Ae];omega) ⟨H,I.tok _,by rw[pD r];exact q⟩
  . subst a
    obtain⟨C,r,B,E⟩:=I.tuple u;have n:=r.length;exact truthy_tuple B (by simp only[Ae];omega) ⟨H,I.tok _,by rw[pD r];exact q⟩
  . subst a
    obtain⟨E,J,A,r,m⟩:l.length<=AI/\(p == C0)=false/\∃A,KV l A/\s.heap.DictOf (mj X.f X.w) p A:=I.j p _ u;have n:l.length=A.length:=Iy r;exact wpAny_truthy_dict J m ⋯ ⟨H,I.tok _,by rw[iK r];exact q⟩
 |_=>exact(show False from e).elim
def YW(f:PE X a ta)(c:∀w,isTrue a X.a w=(do let v <-w;standAt a.pos;holding [v] (truthy v))) :
 PT X a (λd H Q=>ta d H λx F=>∃k,Xf X.K x F k/\Q k F):=by
 intro p s d H Q I h;exact isTrue_plain (thn (f p s d H _ I h) λv b ⟨x,H1,I1,r1,q1⟩=>XQ p b d H1 x v Q I1 r1 q1) (c _)
def ik:OpR X (B2 .Add) (λx y H Q=>∃i j,x=.g i/\y=.g j/\i.length+j.length<=AI/\Q (.g (i++j)) H):=by intro p s f H x y v u Q I b r h;obtain⟨i,j,rfl,rfl,c,q⟩:=h;obtain⟨t,rfl⟩:=b;obtain⟨a,rfl⟩:=r;exact add_str (λa k=>⟨.g (i++j),H,I.tok _,⟨_,rfl⟩,q⟩) c
def vals1(r:Vals [x] us):∃u,us=[u]/\RelV x u:=by
 cases r with
 |cons b a=>cases a;exact⟨_,rfl,b⟩
def vals2(r:Vals [x,y] us):∃u w,us=[u,w]/\RelV x u/\RelV y w:=by
 cases r with
 |cons f c=>
  cases c with
  |cons b a=>cases a;exact⟨_,_,rfl,f,b⟩
def eg(a:X.g=true):yJ X (.builtin "max") (λe H Q=>∃i j,e=[.d i,.d j]/\Q (.d (if j > i then j else i)) H):=by
 intro p s b H e c Q I r h;obtain⟨i,j,rfl,q⟩:=h;obtain⟨u,w,rfl,⟨t,rfl⟩,⟨l,rfl⟩⟩:=vals2 r;refine max_two_ints (I.y.g a) λm f k=>⟨_,H,I.kept k,?_,q⟩;by_cases hj:j > i
 . rw[if_pos hj,if_pos hj];exact⟨_,rfl⟩
 . rw[if_neg hj,if_neg hj];exact⟨_,rfl⟩
def dA(a:X.g=true):yJ X (.builtin "min") (λe H Q=>∃i j,e=[.d i,.d j]/\Q (.d (if j<i then j else i)) H):=by
 intro p s b H e c Q I r h;obtain⟨i,j,rfl,q⟩:=h;obtain⟨u,w,rfl,⟨t,rfl⟩,⟨l,rfl⟩⟩:=vals2 r;refine min_two_ints (I.y.g a) λm f k=>⟨_,H,I.kept k,?_,q⟩;by_cases hj:j<i
 . rw[if_pos hj,if_pos hj];exact⟨_,rfl⟩
 . rw[if_neg hj,if_neg hj];exact⟨_,rfl⟩
def ou:yJ X (.type "int") (λw H Q=>(∃i,w=[.d i]/\Q (.d i) H)\/∃k,w=[.e k]/\Q (.d (if k then 1 else 0)) H):=by
 intro p s b H w c Q I r h;rcases h with⟨i,rfl,q⟩|⟨k,rfl,q⟩
 . obtain⟨u,rfl,t,rfl⟩:=vals1 r
   exact call_int_int ⟨.d i,H,I,⟨_,rfl⟩,q⟩
 . obtain⟨u,rfl,a⟩:=vals1 r
   cases a;exact call_int_bool ⟨.d (if k then 1 else 0),H,I.tok _,⟨_,rfl⟩,q⟩
def uB:yJ X (.builtin "divmod") (λw H Q=>∃i j,w=[.d i,.d j]/\Uj i j/\∀p,H p=none->Q (.c p) (upd H p (.c [.d (i/j),.d (i%j)]))):=by
 intro a s g H w l Q I r h;obtain⟨i,j,rfl,⟨v,n⟩,q⟩:=h;obtain⟨u,k,rfl,⟨t,rfl⟩,⟨m,rfl⟩⟩:=vals2 r;refine divmod_int ⋯ ?_ (.inl (Fv ⋯))
 rw[ET i ⋯,EU i ⋯]
 have f:H s.heap.objs.size=none:=I.j.fresh (Ad _);refine⟨.c s.heap.objs.size,_,?_,rfl,q _ f⟩;refine I.laid (λb o e=>xd _ e) (Ad _) ⟨by simp only[Ap,Cf];rw[AX];decide,[.int (i/j) s.toks,.int (i%j) (s.toks+1)],.cons ⟨_,rfl⟩ (.cons ⟨_,rfl⟩ .nil),?_⟩
 exact⟨_,Az s.heap rfl,rfl,0,rfl,rfl⟩
end
structure Uo(h:Heap)(x dx C:Addr)(mA:Str->Option Value):Prop where
 a:h.get? x=some (HH C dx)
 ns:h.Ns1 dx mA
 ne:dx≠x
def dk{h:Heap}(n:h.Ns1 dx mA):∃u,h.get? dx=some u/\∀d,Ia d u=some (mA d):=by
 obtain⟨o,c,m,g,k,j,_,i⟩:=n;refine⟨o,g,λd=>?_⟩;have e:=i d;unfold nsFind findBy at e;rw[<-Array.find?_toList]at e;unfold Ia;rw[k];dsimp only;split
 . rename_i y q
   rw[q]at e;exact congrArg some e
 . rename_i q
   rw[q]at e;have a:c.toList.any (·.refKey)=false:=by rw[List.any_eq_false];intro y f;obtain⟨z,t,b⟩:=j y (F1.mp f);simp[DictEntry.refKey,b]
   have l:¬c.toList.any (·.refKey)=true:=by rw[a];exact Aj
   rw[if_neg l];exact congrArg some e
def Uo.look(I:Uo h x dx C mA):∃e,PySem.W.InstAt h x (HH C dx) C (some e)/\∀d,Ia d e=some (mA d):=
 let ⟨e,b,c⟩:=dk I.ns
 ⟨e,⟨I.a,rfl,rfl,b⟩,c⟩
def qJ(b:HOk P w H h)(e:H a=some (.l C dx fs)):∃u,Uo h a dx C u/\(∀f,Up (fs.lookup f) (u f))/\PySem.Within u (fs.map (·.1))/\fs.length<=1000/\H dx=some (.e a):=by obtain⟨d,z,c,o,u,n,r,q⟩:=(show z7 P w H h a (.l C dx fs) from b a _ e);exact⟨u,⟨o,n,c⟩,r,q,z,d⟩
structure Cls(K:AH)(C:Addr):Prop where
 pg:PySem.W.plainGet K C Str.empty=true
 hd:PySem.W.hasDictIn K C=true
 po:PySem.W.plainOver K C=true
 sa:PySem.W.findIn K (.ref C) "__setattr__"=some (some (.builtin "object.__setattr__"))
def Cls.get{K}(c:Cls K C)f:PySem.W.plainGet K C f=true:=c.pg
section
variable {X:Cx}{pins:List (Addr × Obj)}{σ:St}{H:Hp}{s:Shared}{A:Around}{E:Value->Shared->Prop}{Q:Value->Shared->Prop}{c:Value}{b:Bool}
inductive t6(K:AH)(H:Hp):V->Value->Prop where
 |d:t6 K H .f (.type "NoneType")
 |bl (x:Bool):t6 K H (.e x) (.type "bool")
 |c (i:Int):t6 K H (.d i) (.type "int")
 |f (x:Str):t6 K H (.g x) (.type "str")
 |h (x:UInt64):t6 K H (.j x) (.type "float")
 |b {a:Addr} {xs:List V} (e:H a=some (.b xs)):t6 K H (.c a) (.type "list")
 |j {a:Addr} {o:Obj} {xs:List V} (e:H a=some (.g o (.b xs))):t6 K H (.c a) (.type "list")
 |g {a:Addr} {xs:List V} (e:H a=some (.c xs)):t6 K H (.c a) (.type "tuple")
 |dK {a:Addr} {kvs:List (Key × V)} (e:H a=some (.j kvs)):t6 K H (.c a) (.type "dict")
 |dT {a:Addr} {kvs:List (List Key × V)} (e:H a=some (.k kvs)):t6 K H (.c a) (.type "dict")
 |k {a C dx:Addr} {fs:List (Str × V)} (e:H a=some (.l C dx fs)) (cl:Cls K C) (ha:PySem.W.findIn K (.ref C) "__class__"=some (some (.builtin "object.__class__")))
  (hn:PySem.W.specialIn K (.builtin "object.__class__") "__get__"=some (some (.builtin "getset_descriptor.__get__"))) (htk:PySem.W.takesIn K (.builtin "object.__class__")=some true)
  (hm:PySem.W.mroIn K C (.type "object")=some true):t6 K H (.c a) (.ref C)
def dW(I:Inv X pins σ H s)(r:RelV x u)(L:t6 X.K H x t)(e:Ib X.K t c=some b)(h:∀F,Q (.bool b) {s with toks:=F}) :
 wpAny (model X.f X.w) A (call (.builtin "isinstance") [u,c]) Q E s:=by
 cases L with
 |d=>cases (show u=Af from r);exact Cg PySem.W.kitx_none I.kIn By e (λz=>nomatch z) h
 |bl y=>cases (show u=D0 y from r);exact Cg PySem.W.kitx_bool I.kIn By e (λz=>nomatch z) h
 |c i=>obtain⟨t,q⟩:=(show ∃t,u=Dr i t from r);cases q;exact Cg PySem.W.kitx_int I.kIn By e (λz=>nomatch z) h
 |f y=>obtain⟨t,q⟩:=(show ∃t,u=II y t from r);cases q;exact Cg PySem.W.kitx_str I.kIn By e (λz=>nomatch z) h
 |h y=>obtain⟨t,q⟩:=(show ∃t,u=Value.float y t from r);cases q;exact Cg PySem.W.kitx_float I.kIn By e (λz=>nomatch z) h
 |@b a xs l=>
  cases (show u=Bk a from r);obtain⟨_,_,n,_,m⟩:=(show z7 X.f X.w H s.heap a (.b xs) from I.j a _ l);exact Cg PySem.W.kitx_list I.kIn ⟨_,m,rfl⟩ e (λz=>nomatch z) h
 |@j a N xs l=>
  cases (show u=Bk a from r);obtain⟨_,_,_,n,_,m⟩:=(show z7 X.f X.w H s.heap a (.g N (.b xs)) from I.j a _ l);exact Cg PySem.W.kitx_list I.kIn ⟨_,m,rfl⟩ e (λz=>nomatch z) h
 |@g a xs l=>
  cases (show u=Bk a from r);obtain⟨_,_,_,p⟩:=(show z7 X.f X.w H s.heap a (.c xs) from I.j a _ l);obtain⟨o,m,B,_⟩:=p;exact Cg PySem.W.kitx_tuple I.kIn ⟨o,m,B⟩ e (λz=>nomatch z) h
 |@dK a v l=>
  cases (show u=Bk a from r);obtain⟨_,_,M,_,p⟩:=(show z7 X.f X.w H s.heap a (.j v) from I.j a _ l);obtain⟨o,V,Z,m,B,_⟩:=p;exact Cg PySem.W.kitx_dict I.kIn ⟨o,m,B.1⟩ e (λz=>nomatch z) h
 |@dT a v l=>
  cases (show u=Bk a from r);obtain⟨_,_,xs,_,o,V,Z,m,B,_⟩:=(show z7 X.f X.w H s.heap a (.k v) from I.j a _ l);exact Cg PySem.W.kitx_dict I.kIn ⟨o,m,B.1⟩ e (λz=>nomatch z) h
 |@k a C dx Y l G T P D R=>
  cases (show u=Bk a from r);obtain⟨U,O,_⟩:=qJ I.j l;obtain⟨S,J,_⟩:=O.look;exact Cg (PySem.W.kitx_own (G.get _) G.hd T P D R) I.kIn J e (λz=>nomatch z) h
end
structure xD(k:Nat)(A:Around):Prop where
 hd:A.handled=none
 dp:A.depth+3*k+5<recursionLimit
 a:A.units+16*k+200<cLine
 gd:A.guards=some []
theorem xD.deeper(r:xD (k+1) A)env:xD k (A.deeper env):=
 ⟨r.hd,by have:=r.dp;show A.depth+1+3*k+5<_;omega,by have:=r.a;show A.units+3+16*k+200<_;omega,r.gd⟩
theorem xD.depth(r:xD k A):A.depth<recursionLimit:=by have:=r.dp;omega
def bU:TA:=λ_ H Q=>Q [] H
def nc(c:TE)(t:TA):TA:=λa H Q=>c a H λx B=>t a B λb A=>Q (x::b) A
section
variable {X:Cx}{e:Expr}{es:List Expr}{te:TE}{t:TA}{pos:Pos}
def wm:PA X [] bU:=λ_ _ _ _ H Q I h=>Calls.spliced_nil ⟨[],H,I,.nil,h⟩
def VH(i:PE X e te)(g:PA X es t)(f:A6 (e::es) X.a=(false,eval e X.a)::A6 es X.a:=by rfl):PA X (e::es) (nc te t):=by intro pos p s b H Q I h;rw[f];show wpAny _ _ (spliced ((false,eval e X.a)::backTo pos (A6 es X.a))) _ _ s;refine Calls.spliced_cons (thn (i p s b H _ I h) λu c z=>?_);obtain⟨x,B,A,r,q⟩:=z;exact thn (g pos p c b B _ A q) λj k ⟨xs,H2,I2,r2,q2⟩=>⟨x::xs,H2,I2,.cons r r2,q2⟩
def NM(t:TA):TE:=λa H Q=>t a H λx A=>x.length<=AI/\∀p,A p=none->Q (.c p) (upd A p (.c x))
def NH(t:TA):TE:=λa H Q=>t a H λx A=>x.length<=AI/\∀p,A p=none->Q (.c p) (upd A p (.b x))
def RJ{x1}(h:PA X es t):PE X (.Tuple es x1 pos) (NM t):=by
 intro p s f H Q I i;refine wpAny_Tuple_spliced (thn (h pos p s f H _ I i) λg a ⟨xs,H1,I1,r,z,q⟩=>⟨by rw[<-r.length];exact z,?_⟩)
 have k:H1 a.heap.objs.size=none:=I1.j.fresh (Ad _);refine⟨.c a.heap.objs.size,upd H1 a.heap.objs.size (.c xs),I1.laid (t':=a.toks) (λb u e=>xd _ e) (Ad _) ?_,rfl,q _ k⟩;exact⟨z,g,r,⟨_,Az _ rfl,rfl,_,rfl,rfl⟩⟩
def RE(h:PA X es t):PE X (.List es pos) (NH t):=by
 intro p s f H Q I i;refine wpAny_List_spliced (thn (h pos p s f H _ I i) λg a ⟨xs,H1,I1,r,z,q⟩=>⟨by rw[<-r.length];exact z,?_⟩)
 have k:H1 a.heap.objs.size=none:=I1.j.fresh (Ad _);refine⟨.c a.heap.objs.size,upd H1 a.heap.objs.size (.b xs),I1.laid (t':=a.toks) (λb u e=>xd _ e) (Ad _) ?_,rfl,q _ k⟩;exact⟨z,g,0,r,Az _ rfl⟩
end
abbrev Sp:=List V->Hp->VK->XK->Prop
abbrev CXT:=List Env->Hp->Shared->XK->Value->Shared->Prop
structure Xe(P:Program)(w:World)(K:AH)(mg:Str->Option Value)(base:Heap)(A:Around)(outer:List Env)(s:Shared)(H:Hp):Prop where
 a:A.frames=some outer
 d:Mod K mg base
 f:∀b o,base.get? b=some o->s.heap.get? b=some o/\H b=none
 g:base.objs.size<=s.heap.objs.size
 qy:s.heap.FunFrames base outer
 h:∀b∈frs outer,H b=none
 c:HOk P w H s.heap
 e:AllBare s.gens
def CE(o:List Env)(P:Program)(w:World)(H:Hp)(s:Shared)(Q:VK)(u:Value)(a:Shared):Prop:=
 ∃v A,a.os=s.os/\AllBare a.gens/\Un (frs o) [] H A s.heap a.heap/\HOk P w A a.heap/\RelV v u/\Q v A
def CR(C:CXT)(o:List Env)(P:Program)(w:World)(H:Hp)(s:Shared)(Q:VK)(E:XK)(r:Result)(a:Shared):Prop:=
 match r with
 |.ok (.ret u)=>CE o P w H s Q u a
 |.ok _=>False
 |.error e=>C o H s E e a
structure qV(P:Program)(w:World)(K:AH)(mg:Str->Option Value)(base:Heap)(CX:CXT)(k:Nat)(f:Addr)(fd:Ec)(ps:List Str)(sp:Sp):Prop where
 b:∀vs H Q E,sp vs H Q E->vs.length=ps.length
 a:∀(A:Around) (outer:List Env) (s:Shared) (H:Hp) (args:Args) (us:List Value) (vs:List V) (Q:VK) (E:XK),xD k A->Xe P w K mg base A outer s H->BindsTo s fd args (ps.zip us)->Vals vs us->sp vs H Q E ->
  codeAny (model P w) A (.call (.ref f) args) (CR CX outer P w H s Q E) s
def qV.imp{K}(F:qV P w K mg base CX k f fd ps sp)
 (h:∀d H Q E,sp' d H Q E->sp d H Q E):qV P w K mg base CX k f fd ps sp':=
 ⟨λd H Q E q=>F.b d H Q E (h _ _ _ _ q),λA o s H c u d Q E j l m g i=>F.a A o s H c u d Q E j l m g (h _ _ _ _ i)⟩
def Inv.Ol(I:Inv X pins σ H s):Xe X.f X.w X.K X.d X.i X.A X.j s H:=
 ⟨I.y.m,I.y.u,I.bs,Au I.y.B I.sz,I.stack,I.eO,I.j,I.C⟩
def Inv.after(I:Inv X pins σ H s)(h:CE X.j X.f X.w H s Q u s'):EP X pins σ Q u s':=by obtain⟨v,A,k,a,i,c,r,q⟩:=h;obtain⟨l,g,d,t,o⟩:=s';obtain rfl:o=s.os:=k;exact⟨v,A,I.call (h':=l) (g':=g) (d':=d) (t':=t) (ch:=[]) i c a (λb z=>absurd z (by simp)),r,q⟩
def Ua(s:Sp)(d:List V)(E:XK)(t:TA):TE:=λa H Q=>t a H λv A=>s (v++d) A Q E
def Binds(K:AH)(f:Ec)(p:List Str)(d:List Value):Prop:=
 ∀(s:Shared) (us:List Value),K.In s.heap->(us++d).length=p.length->BindsTo s f ⟨us,[]⟩ (p.zip (us++d))
def Binds.all{K}(h:∀u:List Value,u.length=ps.length->bindArgs fd ⟨u,[]⟩=pure (ps.zip u)):Binds K fd ps []:=λs u _ a=>by rw[A5]at a ⊢;exact .of_eq (h u a)
def Passes(C:CXT)(X:Cx)(E:XK):Prop:=∀(p:List (Addr × Obj)) (σ:St) (H:Hp) (s:Shared) (e:Value) (s':Shared),Inv X p σ H s->C X.j H s E e s'->X.h e s'
def Ym(F:qV X.f X.w X.K X.d X.i CX k f fd ps sp)(n:xD k X.A)(q:Binds X.K fd ps ds)(p:Vals dvs ds)(m:Passes CX X E)
 (I:Inv X pins σ H s) (r:Vals vs us) (h:sp (vs++dvs) H Q E):wpAny (model X.f X.w) X.A (call (.ref f) us) (EP X pins σ Q) X.h s:=by
 have g:Vals (vs++dvs) (us++ds):=r.append p;have o:(us++ds).length=ps.length:=by rw[<-g.length];exact F.b _ _ _ _ h
 refine wpAny_call (codeAny_mono (F.a X.A X.j s H ⟨us,[]⟩ (us++ds) (vs++dvs) Q E n I.Ol (q s us I.kIn o) g h) λr l c=>?_);cases r with
 |error e=>exact m pins σ H s e l I c
 |ok t=>
  cases t with
  |ret u=>exact I.after c
  |next=>exact Dp c
  |brk=>exact Dp c
  |cont=>exact Dp c
def VJ(F:qV X.f X.w X.K X.d X.i CX k f fd ps sp)(n:xD k X.A)(z:Gl X x)(o:X.d x=some (.ref f))(v:Dm X.K (.ref f)=true)(D:Binds X.K fd ps ds)(C:Vals dvs ds)(m:Passes CX X E)
 (G:PA X (e::es) t) (j:(x == ("__debug__":Str))=false:=by decide) (B:A6 (e::es) X.a=(false,eval e X.a)::A6 es X.a:=by rfl) (g:(backTo pos (A6 es X.a)).any (·.1)=false:=by rfl) :
 PE X (.Call (.Name x p) (e::es) [] pos) (Ua sp dvs E t):=by
 intro b s l H Q I h;refine D3 (mZ I z o ?_ j);refine PySem.W.callWith_K (h₀:=X.i) I.y.u.c v (thn (G pos b s l H _ I h) λJ L ⟨vs,H1,I1,r,q⟩=>⟨I1.kIn,?_⟩) B g;exact Ym F n D C m I1 r q
def YA(F:qV X.f X.w X.K X.d X.i CX k f fd ps sp)(g:xD k X.A)(m:Gl X x)(j:X.d x=some (.ref f))(l:Dm X.K (.ref f)=true)(o:Binds X.K fd ps ds)(n:Vals dvs ds)(c:Passes CX X E)
 (a:(x == ("__debug__":Str))=false:=by decide):PE X (.Call (.Name x p) [] [] pos) (Ua sp dvs E bU):=by
 intro b s q H Q I h;refine D3 (mZ I m j ?_ a);exact PySem.W.callWith_K0 I.kIn l (Ym (us:=[]) F g o n c I .nil h)
structure qB(N P:List Str)(sc:Scope):Prop where
 b:sc.kind=.function
 co:sc.isCoroutine=false
 f:sc.isGenerator=false
 d:N.Nodup
 a:N.take P.length=P
 e:∀x∈P,sc.names.lookup x=some .local\/sc.names.lookup x=some .cell
 c:∀y∈sc.names,y.2≠.free
theorem ot{kindOf}:∀{binds} {m},(∀v,(x,v) ∉ binds)->bindL kindOf binds m x=m x
 |[],_,_=>rfl
 |(n,v)::r,m,h=>by
  unfold bindL;rw[ot λw d=>h w (AF _ d)];split
  . have:x≠n:=by rintro rfl;exact h v AO
    simp[this]
  . rfl
theorem oo{kindOf}:∀{binds} {m},(∀v,(x,v) ∉ binds)->bindC kindOf binds m x=m x
 |[],_,_=>rfl
 |(n,v)::r,m,h=>by
  unfold bindC;rw[oo λw d=>h w (AF _ d)];split
  . rfl
  . have:x≠n:=by rintro rfl;exact h v AO
    simp[this]
theorem oq{kindOf}:∀{P:List Str} {vs} {i:Nat} {m},P.Nodup->P[i]?=some x->vs[i]?=some v->kindOf x=some .local ->
 bindL kindOf (P.zip vs) m x=some v
 |[],_,_,_,_,h,_,_=>by simp at h
 |_::_,[],_,_,_,_,h,_=>by simp at h
 |p::P,w::vs,0,m,nd,h1,h2,hk=>by
  simp at h1 h2;subst h1;subst h2;show bindL kindOf ((p,w)::P.zip vs) m p=_;unfold bindL;rw[ot λv d=>(Bm.mp nd).1 (HJ d).1,if_pos hk];simp
 |p::P,w::vs,i+1,m,nd,h1,h2,hk=>by show bindL kindOf ((p,w)::P.zip vs) m x=_;unfold bindL;exact oq (i:=i) (Bm.mp nd).2 (by simpa using h1) (by simpa using h2) hk
theorem om{kindOf}:∀{P:List Str} {vs} {i:Nat} {m},P.Nodup->P[i]?=some x->vs[i]?=some v->kindOf x≠some .local ->
 bindC kindOf (P.zip vs) m x=some v
 |[],_,_,_,_,h,_,_=>by simp at h
 |_::_,[],_,_,_,_,h,_=>by simp at h
 |p::P,w::vs,0,m,nd,h1,h2,hk=>by
  simp at h1 h2;subst h1;subst h2;show bindC kindOf ((p,w)::P.zip vs) m p=_;unfold bindC;rw[oo λv d=>(Bm.mp nd).1 (HJ d).1,if_neg hk];simp
 |p::P,w::vs,i+1,m,nd,h1,h2,hk=>by show bindC kindOf ((p,w)::P.zip vs) m x=_;unfold bindC;exact om (i:=i) (Bm.mp nd).2 (by simpa using h1) (by simpa using h2) hk
noncomputable def start(N:List Str)(v:List V):St:=v.map some++AR (N.length-v.length) none
noncomputable def dG(C:CXT)(P:Program)(w:World)(K:AH)(y:Str->Option Value)(v:Heap)(N:List Str)(c:Str)(b:Scope)(f:Addr)(t:Value)(A:Around)(o:List Env)(s:Shared)(H:Hp)(E:XK):Cx where
 f:=P
 w:=w
 K:=K
 d:=y
 i:=v
 A:=A.deeper (envOfC c b s.heap.objs.size f t)
 N:=N
 l:=s
 r:=H
 a:=envOfC c b s.heap.objs.size f t
 k:=o
 j:=envOfC c b s.heap.objs.size f t::o
 n:=[]
 g:=true
 m:=λ_=>true
 q:=[]
 h:=λe x=>wpAny (model P w) (A.deeper (envOfC c b s.heap.objs.size f t)) (leaving (envOfC c b s.heap.objs.size f t) e) (λ_ p=>C o H s E e p) (λz p=>C o H s E z p) x
def lh{s:Scope}(h:s.names.lookup x=some .cell):∃c,(DR n s.names []).lookup x=some c:=by have q:=PySem.W.cellsFrom_some s.names n [] (.inl h);exact Option.isSome_iff_exists.mp q
def dR{K}
 (S:qB N ps scope) (Q:A.handled=none) (l:Xe P w K mg base A outer s H) (V:vs.length=ps.length) (r:Vals vs us)
 (x:InCallC s s.heap.objs.size (bindL (envOfC qual scope s.heap.objs.size f cd).kindOf (ps.zip us) λ_=>none) (DR (s.heap.objs.size+1) scope.names []) (bindC (envOfC qual scope s.heap.objs.size f cd).kindOf (ps.zip us) λ_=>none) s1) :
 Inv (dG CX P w K mg base N qual scope f cd A outer s H E) [] (start N vs) H s1:=by
 have L:ps.length<=N.length:=by have:=congrArg Fw S.a;rw[Bu]at this;omega
 obtain⟨D,T,rfl,I⟩:=x.done;have m:∀b:Addr,b ∉ (dG CX P w K mg base N qual scope f cd A outer s H E).n:=λb z=>absurd (show b∈([]:List Addr) from z) (by simp)
 refine⟨⟨l.d,S.b,rfl,rfl,Ad _,λy z c D j=>?_,λy o=>?_,λy c _ h=>?_,λ_=>Q,Around.frames_deeper l.a,.inr ⟨rfl,rfl⟩,λb z=>absurd z (m b),l.f,l.g,λb _ _=>m b,λb z=>absurd z (m b),l.qy,l.h⟩,
  rfl,l.e,Un.kept I,⟨_,x.toInCall.ns,λi y v D j X=>?_⟩,λy c h=>⟨_,x.cell y c h⟩,l.c.fresh (Ad _),λy c h=>?_,λp B=>absurd (show p∈([]:List (Addr × Obj)) from B) (by simp),l.c.kept I,?_⟩
 . exact name_of_addr x.apart (Dj D) (Dj j)
 . have o:scope.names.lookup y=some .cell\/scope.names.lookup y=some .free:=o
   rcases o with o|o
   . exact lh o
   . exact absurd rfl (S.c _ (Dj o))
 . exact Em (x.above y c (Dj h))
 . have C:i<vs.length:=by
    unfold start at j;by_cases C:i<vs.length
    . exact C
    . rw[AW (by simpa using C)]at j
      rw[HD]at j;split at j<;>cases j
   have R:vs[i]?=some v:=by
    unfold start at j;rw[A0 (by simpa using C),An]at j
    cases e:vs[i]? with
    |none=>rw[e]at j;cases j
    |some a=>rw[e]at j;cases j;rfl
   obtain⟨u,G,J⟩:=r.get R;have B:ps[i]?=some y:=by rw[<-S.a,BP ⋯];exact D
   have t:ps.Nodup:=by rw[<-S.a];exact S.d.sublist (Dd _ _)
   refine⟨u,J,?_⟩;rcases S.e y (AD B) with k|k
   . exact .inl ⟨k,oq t B G k⟩
   . obtain⟨c,e⟩:=lh (n:=s.heap.objs.size+1) k
     refine .inr ⟨.inl k,c,e,?_⟩;have q:=x.cell y c e;rw[om t B G (by show scope.names.lookup y≠_;rw[k];decide)]at q
     exact q
 . exact l.c.fresh (Em (x.above y c (Dj h)))
 . unfold start
   show _=N.length;rw[Aw,Ac,Eo];omega
def QR{K}{dV kV doc pm cdv ct oc}
    (lk:K.lookup f=some ⟨oc,od,.func (CK name qual params body scope dV kV doc pm an cdv ct),osl⟩) (O:Dl K cdv qual=true) (S:qB N ps scope)
 (m:∀M H Q E,sp M H Q E->M.length=ps.length)
 (i:∀A F s H M Q E,xD k (A.deeper (envOfC qual scope s.heap.objs.size f cdv))->sp M H Q E ->
  ∃t,PSs (dG CX P w K mg base N qual scope f cdv A F s H E) body t/\t {a:=λ_ D=>Q .f D,d:=Q} (start N M) H) :
 qV P w K mg base CX (k+1) f (CK name qual params body scope dV kV doc pm an cdv ct) ps sp:=by
 refine⟨m,λA F s H Y us M Q E Z G hb r p=>?_⟩;have hl:=m _ _ _ _ p;have KX:K.In s.heap:=G.d.c.keeps λb o e=>(G.f b o e).1;have X:s.heap.NoLimit:=G.d.b.keeps λb o e=>(G.f b o e).1;have h:∀y∈ps.zip us,scope.names.lookup y.1=some .local\/(scope.names.lookup y.1=some .cell/\((DR (s.heap.objs.size+1) scope.names []).lookup y.1).isSome=true):=λ⟨n,v⟩ hy=>by
  rcases S.e n (HJ hy).1 with q|q
  . exact .inl q
  . exact .inr ⟨q,PySem.W.cellsFrom_some _ _ _ (.inl q)⟩
 refine codeAny_call_function Z.depth (KX _ _ lk) rfl S.co S.f rfl (PySem.W.codeRec_of KX O) (hb _ _ _ _ ?_);refine wpAny_newFunctionEnv_cells S.b h λenv he U x=>?_;subst he;refine⟨X.keeps x.toInCall.keep,codeAny_func ?_⟩;obtain⟨t,ht,hq⟩:=i A F s H M Q E (Z.deeper _) p;have I:Inv (dG CX P w K mg base N qual scope f cdv A F s H E) [] (start N M) H U:=dR S Z.hd G hl r x;refine B0 (ht [] U (start N M) H _ I hq) (λfl L l=>?_) λe L l=>l;have z:∀{g:St} {D:Hp} {v:V} {u:Value},Inv (dG CX P w K mg base N qual scope f cdv A F s H E) [] g D L->RelV v u->Q v D->CE F P w H s Q u L:=
  λ{g D v u} J T q=>⟨v,D,J.R,J.C,J.B,J.j,T,q⟩
 cases fl with
 |ret u=>
  obtain⟨v,g,D,J,T,q⟩:=l;exact z J T q
 |next=>
  obtain⟨g,D,J,q⟩:=l;exact z (v:=V.f) (u:=Af) J rfl q
 |brk=>
  obtain⟨_,_,_,q⟩:=l;exact Dp q
 |cont=>
  obtain⟨_,_,_,q⟩:=l;exact Dp q
section
variable {X:Cx}{x:Str}{p pos:Pos}{e:Expr}{es:List Expr}{t:TA}{id T:String}{r:List V->Hp->VK->Prop}
def tCB(r:List V->Hp->VK->Prop)(t:TA):TE:=λa H Q=>t a H λv A=>r v A Q
def k6(n:yJ X (.builtin id) r)(m:Gl X x)(l:X.d x=none)(j:Ds x=some (.builtin id))(o:PA X (e::es) t)(k:x≠"__name__":=by decide)(f:(x == ("__debug__":Str))=false:=by decide)
 (he:A6 (e::es) X.a=(false,eval e X.a)::A6 es X.a:=by rfl) (c:(backTo pos (A6 es X.a)).any (·.1)=false:=by rfl):PE X (.Call (.Name x p) (e::es) [] pos) (tCB r t):=by
 intro b s g H Q I h;refine D3 (uH I m l j ?_ k f);exact PyProof.Rows.callWith_builtin1 (thn (o pos b s g H _ I h) λu i ⟨vs,H1,I1,r1,q1⟩=>n b i g H1 vs u Q I1 r1 q1) he c
def uk(o:yJ X (.type T) r)(m:Gl X x)(l:X.d x=none)(j:Ds x=some (.type T))(q:PA X (e::es) t)(k:x≠"__name__":=by decide)(f:(x == ("__debug__":Str))=false:=by decide)
 (n:A6 (e::es) X.a=(false,eval e X.a)::A6 es X.a:=by rfl) (c:(backTo pos (A6 es X.a)).any (·.1)=false:=by rfl):PE X (.Call (.Name x p) (e::es) [] pos) (tCB r t):=by
 intro b s g H Q I h;refine D3 (uH I m l j ?_ k f);exact Ci (thn (q pos b s g H _ I h) λu i ⟨vs,H1,I1,r1,q1⟩=>o b i g H1 vs u Q I1 r1 q1) n c
end
end L2
namespace HT
open PySem PyProof.Rows
noncomputable def lexLt:List Int->List Int->Bool
 |[],[]=>false
 |[],_::_=>true
 |_::_,[]=>false
 |x::xs,y::ys=>if x=y then lexLt xs ys else decide (x<y)
def pJ x y xs ys:lexLt (x::xs) (y::ys)=if x=y then lexLt xs ys else decide (x<y):=rfl
def oN:lexLt [] []=false:=rfl
def pL y ys:lexLt [] (y::ys)=true:=rfl
def pK x xs:lexLt (x::xs) []=false:=rfl
def ag A s a t c u:∃e,Br A s (.int a t) (.int c u) e/\(e=true↔a=c):=
 ⟨(a == c),Br.int_int a t c u,by simp⟩
section
variable {prog:Program}{w:World}{A:Around}{E:Value->Shared->Prop}{s:Shared}
def Xq(v:IsTup s.heap t vs.toArray)(x:IsTup s.heap b ws.toArray)(m:vs≠[])
 (z:ws=[]->Q (.ref t) s) (y:ws≠[]->Q (.ref s.heap.objs.size) {s with heap:=s.heap.push {cls:=.type "tuple",data:=.seq (vs++ws).toArray}})
 (i:vs.length+ws.length<=AI):wpAny (model prog w) A (B2 .Add (.ref t) (.ref b)) Q E s:=by
 obtain⟨⟨cls,q,data,k⟩,g,p,n,o⟩:=id v;obtain⟨⟨r,d,j,a⟩,h,f,l,c⟩:=id x;simp only at p o f c;subst p o f c;have e:vs.toArray++ws.toArray=(vs++ws).toArray:=by simp
 by_cases hw:ws=[]
 . exact concat_meets ⟨_,g,rfl⟩ ⟨_,h,rfl⟩ FH GS CL CB (Cv _ _)
    (tuple_addW1 t b vs.toArray ws.toArray n l q d k a (by simpa using m) (by simp[hw])) ⟨g,h,z hw⟩
 . refine concat_meets ⟨_,g,rfl⟩ ⟨_,h,rfl⟩ FH GS CL CB (Cv _ _)
    (tuple_addW2 t b vs.toArray ws.toArray n l q d k a (by simpa using m) (by simpa using hw) (by rw[Ae,Ae];exact i)) ⟨g,h,?_⟩
   rw[e];exact y hw
noncomputable def sIx(n d:Nat):Option Int->Nat
 |none=>d
 |some v=>if v<0 then (v+(n:Int)).toNat else min v.toNat n
def Vh(n d k:Nat):sIx n d (some (k:Int))=min k n:=by
 show (if (k:Int)<0 then ((k:Int)+(n:Int)).toNat else min (k:Int).toNat n)=min k n
 rw[if_neg ⋯,Bx]
def RT n d(h:d<=n)o:sIx n d o<=n:=by
 cases o with
 |none=>exact h
 |some v=>
  show (if v<0 then (v+(n:Int)).toNat else min v.toNat n)<=n
  by_cases hv:v<0
  . rw[if_pos hv];omega
  . rw[if_neg hv];exact EE _ _
def fA v(n d:Nat):(if v<0 then max (v+(n:Int)) 0 else min v (n:Int))=((sIx n d (some v):Nat):Int):=by
 show (if v<0 then max (v+(n:Int)) 0 else min v (n:Int))=(((if v<0 then (v+(n:Int)).toNat else min v.toNat n):Nat):Int)
 by_cases hv:v<0
 . simp only[if_pos hv];omega
 . simp only[if_neg hv];omega
def jz lo hi(n:Nat):Bg lo hi 1 (n:Int)=(((sIx n 0 lo:Nat):Int),((sIx n n hi:Nat):Int)):=by
 have h:¬((1:Int)<0):=by omega
 unfold Bg;simp only[h,if_false];refine E7 ?_ ?_
 . cases lo with
   |none=>rfl
   |some v=>exact fA v n 0
 . cases hi with
   |none=>rfl
   |some v=>exact fA v n n
def i9(i j:Nat):B7 (i:Int) (j:Int) 1=j-i:=by
 unfold B7;have h:(1:Int) > 0:=by omega
 simp only[h,if_true,Int.ediv_one];split<;>omega
def wF(p:IsPart v o)(h:Q o s):wpAny (model prog w) A (Builtin.Slice.slicePartIndex v) Q E s:=by
 cases p with
 |none=>exact slicePart_none h
 |int i t=>exact slicePart_int h
def vL{lo hi}{n:Nat}(f:s.heap.IsSliceOf sl vl vu .none)(c:IsPart vl lo)(p:IsPart vu hi)
 (h:Q (((sIx n 0 lo:Nat):Int),1,sIx n n hi-sIx n 0 lo) s):wpAny (model prog w) A (DB (.ref sl) (pure (n:Int))) Q E s:=by
 obtain⟨o,a,g,b⟩:=id f;unfold DB Hc;refine dm (dm (Dq a b (x:=vl) rfl (dm (Dq a b (x:=vu) rfl (dm (Dq a b (x:=.none) rfl (Ab ?_)))))));refine dm (slicePart_none ?_);show wpAny _ _ (if ((1:Int) == 0)=true then _ else _) _ _ s
 rw[if_neg (by decide)]
 refine dm (wF c (dm (wF p (dm (Ab ?_)))));show wpAny _ _ (match Bg lo hi 1 (n:Int) with|(lo,hi)=>pure (lo,(1:Int),B7 lo hi 1)) _ _ s
 rw[jz lo hi n];show wpAny _ _ (pure (((sIx n 0 lo:Nat):Int),(1:Int),B7 ((sIx n 0 lo:Nat):Int) ((sIx n n hi:Nat):Int) 1)) _ _ s;rw[i9];exact Ab h
def YL(a:Array Value)(i k:Nat):((Ag k).filterMap λ(m:Nat)=>a[((i:Int)+(m:Int)*1).toNat]?).toArray=((a.toList.drop i).take k).toArray:=by
 have e:(λ(m:Nat)=>a[((i:Int)+(m:Int)*1).toNat]?)=λm=>a[i+m]?:=by
  funext m;have:((i:Int)+(m:Int)*1).toNat=i+m:=by omega
  rw[this]
 rw[e];have:=pick_run a i k;rw[CQ]at this;have b:((λx=>a[x]?)∘λx=>i+x)=λm=>a[i+m]?:=rfl;rw[b]at this;rw[this]
def sL{lo hi}(b:IsTup s.heap t items)(j:s.heap.IsSliceOf sl vl vu .none)(k:IsPart vl lo)(p:IsPart vu hi)
 (l:¬(sIx items.size 0 lo=0/\sIx items.size items.size hi=items.size))
 (h:Q (.ref s.heap.objs.size) {s with heap:=s.heap.push {cls:=.type "tuple",data:=.seq ((items.toList.drop (sIx items.size 0 lo)).take (sIx items.size items.size hi-sIx items.size 0 lo)).toArray}})
 (n:items.size<=AI):wpAny (model prog w) A (getItem (.ref t) (.ref sl)) Q E s:=by
 have a:sizeOk (.seq ((items.toList.drop (sIx items.size 0 lo)).take (sIx items.size items.size hi-sIx items.size 0 lo)).toArray):=by show ((items.toList.drop (sIx items.size 0 lo)).take (sIx items.size items.size hi-sIx items.size 0 lo)).toArray.size<=AI;rw[Ae,Bu,B3,Ax];omega
 have y:sIx items.size items.size hi<=items.size:=RT _ _ (Ad _) hi;obtain⟨o,c,g,r⟩:=id j;have i:s.TypeIs (.ref sl) "slice":=⟨o,c,g⟩;unfold getItem
 try with_reducible refine Bh ?_
 first|refine dm (Ab ?_)|skip
 refine dm (G3 b.typeIs (by decide) ?_)
 refine dm (Ck (name:=Ep "__getitem__") b.typeIs Bd
  (BC Bd b.typeIs Gh ?_ (GC _ _)))
 show wpAny _ _ (EV (.ref t) >>= _) _ _ s;refine dm (FE b ?_);refine dm (DT i ?_);rw[if_pos (by decide)]
 refine dm (vL j k p ?_);have f:¬((((sIx items.size 0 lo:Nat):Int) == 0&&(1:Int) == 1&&(sIx items.size items.size hi-sIx items.size 0 lo) == items.size)=true):=by intro q;rw[ub,ub]at q;have x:((sIx items.size 0 lo:Nat):Int)=0:=CG q.1.1;have v:sIx items.size items.size hi-sIx items.size 0 lo=items.size:=CG q.2;exact l ⟨⋯,⋯⟩
 show wpAny _ _ (if (((sIx items.size 0 lo:Nat):Int) == 0&&(1:Int) == 1&&(sIx items.size items.size hi-sIx items.size 0 lo) == items.size)=true then _ else _) _ _ s
 rw[if_neg f,YL]
 first
  |exact dm (m:=BQ _) (Bj (Ab ⟨_,rfl,Ab h⟩) a)
  |exact dm (m:=BQ _) (Bj (dm (Ab (Ab ⟨_,rfl,Ab h⟩))) a)
  |exact dm (dm (m:=BQ _) (Bj (Ab (Ab ⟨_,rfl,Ab h⟩)) a))
  |exact dm (dm (m:=BQ _) (Bj (Ab ⟨_,rfl,Ab h⟩) a))
end
end HT
namespace L2
open PySem PySem.Spec PyProof.Rows
abbrev TO:=St->Hp->(Option Int->Hp->Prop)->Prop
def PO(X:Cx)(e:Option Expr)(t:TO):Prop:=
 ∀(p:List (Addr × Obj)) (s:Shared) (σ:St) (H:Hp) (Q:Option Int->Hp->Prop),Inv X p σ H s->t σ H Q ->
  wpAny (model X.f X.w) X.A (evalPart e X.a) (λu b=>∃o B,Inv X p σ B b/\IsPart u o/\Q o B) X.h s
def Vq:TO:=λ_ H Q=>Q none H
def OK(t:TE):TO:=λa H Q=>t a H λx A=>∃i,x=.d i/\Q (some i) A
def intsAre_of:∀{u},Vals (ns.map V.d) u->IntsAre u ns:=by
 induction ns with
 |nil=>intro u r;rw[Er]at r;cases r;exact .nil
 |cons n ns i=>
  intro u r;rw[AG]at r;cases r with
  |cons b a=>
   obtain⟨t,e⟩:=b;subst e;exact .cons n t (i a)
section
variable {X:Cx}{e:Expr}{te:TE}{lo hi:Option Expr}{tl th:TO}{pos p2:Pos}
def VR:PO X none Vq:=by intro p s a H Q I h;rw[evalPart_none];exact Ab ⟨none,H,I,.none,h⟩
def VS(h:PE X e te):PO X (some e) (OK te):=by intro p s a H Q I c;rw[evalPart_some];refine thn (h p s a H _ I c) λu f z=>?_;obtain⟨x,B,A,r,b⟩:=z;obtain⟨i,rfl,q⟩:=b;obtain⟨t,rfl⟩:=r;exact⟨some i,B,A,.int i t,q⟩
def SlR(X:Cx)(r:V->Option Int->Option Int->Hp->VK->Prop):Prop:=
 ∀(p:List (Addr × Obj)) (s:Shared) (σ:St) (H:Hp) (x:V) (v b a:Value) (lo hi:Option Int) (c:Addr) (Q:VK),Inv X p σ H s->RelV x v->s.heap.IsSliceOf c b a .none->IsPart b lo->IsPart a hi->r x lo hi H Q ->
  ∃T i,typeLookup (.type T) "__getitem__"=pure (some (.builtin i))/\s.TypeIs v T/\wpAny (model X.f X.w) X.A (getItem v (.ref c)) (EP X p σ Q) X.h s
def tSl(r:V->Option Int->Option Int->Hp->VK->Prop)(te:TE)(tl th:TO):TE:=λa H Q=>te a H λx C=>tl a C λl B=>th a B λu A=>r x l u A Q
def YF(C:SlR X r)(G:PE X e te)(D:PO X lo tl)(y:PO X hi th):PE X (.Subscript e (.Slice lo hi none p2) pos) (tSl r te tl th):=by
 intro p s c H Q I h;refine Ip (thn (G p s c H _ I h) λv k z=>?_);obtain⟨x,P,N,m,o⟩:=z;refine wpAny_Slice (thn (D p k c P _ N o) λi j ⟨l,H2,I2,pl,q2⟩=>thn (y p j c H2 _ I2 q2) λg a z=>?_);obtain⟨u,B,L,t,n⟩:=z;rw[evalPart_none];refine Ab ?_;have K:Inv X p c B {a with heap:=a.heap.push {cls:=.type "slice",data:=.fields #[i,g,.none]}}:=L.kept (t':=a.toks) λb R q=>xd _ q
 obtain⟨T,V,J,d,E⟩:=C p {a with heap:=a.heap.push {cls:=.type "slice",data:=.fields #[i,g,.none]}} c B x v i g l u a.heap.objs.size Q K m (GD ..) pl t n
 show wpAny (model X.f X.w) X.A (GU e (.Slice lo hi none p2) v (.ref a.heap.objs.size)) (EP X p c Q) X.h {a with heap:=a.heap.push {cls:=.type "slice",data:=.fields #[i,g,.none]}}
 exact tail_any (ops:=[.ref a.heap.objs.size,v]) d J E (by with_unfolding_all rfl)
def oI(x:List V)(lo hi:Option Int):List V:=(x.drop (HT.sIx x.length 0 lo)).take (HT.sIx x.length x.length hi-HT.sIx x.length 0 lo)
def rZ xs lo hi:(oI xs lo hi).length<=xs.length:=by unfold oI;rw[Bu,B3];omega
def NA(K:AH):V->Option Int->Option Int->Hp->VK->Prop:=λx lo hi H Q=>∃a b,x=.c a/\SqT K H a b /\
 ¬(HT.sIx b.length 0 lo=0/\HT.sIx b.length b.length hi=b.length)/\∀p,H p=none->Q (.c p) (upd H p (.c (oI b lo hi)))
def RX:SlR X (NA X.K):=by
 intro p s e H x v w u lo hi A Q I m d t n h;obtain⟨a,g,rfl,y,z,q⟩:=h;cases m;obtain⟨i,r,l,k⟩:=I.tuple y;have f:i.toArray.size=g.length:=by rw[Ae];exact r.length.symm
 refine⟨"tuple",_,Bd.lookup,l.typeIs,?_⟩;refine HT.sL l d t n (by rw[f];exact z) ?_ (by rw[f];exact k)
 rw[f];refine⟨.c s.heap.objs.size,_,I.laid (t':=s.toks) (o:=.c (oI g lo hi)) (λb B q=>xd _ q) (Ad _) ?_,rfl,q _ (I.j.fresh (Ad _))⟩;exact⟨Au (rZ g lo hi) k,_,(r.drop (HT.sIx g.length 0 lo)).take (HT.sIx g.length g.length hi-HT.sIx g.length 0 lo),tx.new _ _⟩
def Pq(K:AH):R2:=λx y H Q=>∃a b g f,x=.c a/\y=.c b/\SqT K H a g/\SqT K H b f/\g≠[]/\g.length+f.length<=AI /\
 (f=[]->Q (.c a) H)/\(f≠[]->∀p,H p=none->Q (.c p) (upd H p (.c (g++f))))
def Vals.wR(r:Vals xs us):us=[]↔xs=[]:=by
 cases r with
 |nil=>simp
 |cons _ _=>simp
def W4:OpR X (B2 .Add) (Pq X.K):=by
 intro p s E H x y v u Q I n m h;obtain⟨a,b,l,k,rfl,rfl,D,C,B,g,d,t⟩:=h;cases n;cases m;obtain⟨A,f,e,_⟩:=I.tuple D;obtain⟨i,r,p2,_⟩:=I.tuple C;refine HT.Xq e p2 (λz=>B (f.wR.mp z)) (λz=>⟨.c a,H,I,rfl,d (r.wR.mp z)⟩) (λz=>?_) (by rw[<-f.length,<-r.length];exact g)
 refine⟨.c s.heap.objs.size,_,I.laid (t':=s.toks) (o:=.c (l++k)) (λb G q=>xd _ q) (Ad _) ?_,rfl,t (λw=>z (r.wR.mpr w)) _ (I.j.fresh (Ad _))⟩;exact⟨by rw[Aw];exact g,_,f.append r,tx.new _ _⟩
end
noncomputable def ixN(n:Nat)(i:Int):Option Nat:=if 0<=i then (if i<n then some i.toNat else none) else if -(n:Int)<=i then some (i+n).toNat else none
def atI{a:Type}(x:List a)(i:Int):Option a:=(ixN x.length i).bind λj=>x[j]?
def ff(h:ixN n i=some j):seqIndex? i n=some j/\j<n∧-(n:Int)<=i/\i<n:=by
 unfold ixN at h;by_cases h0:0<=i
 . rw[if_pos h0]at h
   by_cases h1:i<n
   . rw[if_pos h1]at h
     have e:i.toNat=j:=AL h;exact⟨by rw[seqIndex_of h0 h1,e],⋯,⋯,h1⟩
   . rw[if_neg h1]at h;cases h
 . rw[if_neg h0]at h
   by_cases h1:-(n:Int)<=i
   . rw[if_pos h1]at h
     have e:(i+n).toNat=j:=AL h;exact⟨by rw[seqIndex_neg ⋯ h1,e],⋯,h1,⋯⟩
   . rw[if_neg h1]at h;cases h
def mD(h:atI xs i=some v):∃j,seqIndex? i xs.length=some j/\xs[j]?=some v/\j<xs.length∧-(xs.length:Int)<=i/\i<xs.length:=by
 unfold atI at h;cases e:ixN xs.length i with
 |none=>rw[e]at h;cases h
 |some j=>
  rw[e]at h;obtain⟨f,c,b,a⟩:=ff e;exact⟨j,f,h,c,b,a⟩
def qC{xs}{j:Nat}{v:α}(h:xs[j]?=some v):atI xs (j:Int)=some v:=by
 have a:j<xs.length:=(Ar.mp h).1;have e:ixN xs.length (j:Int)=some j:=by unfold ixN;rw[if_pos ⋯,if_pos ⋯];simp
 unfold atI;rw[e];exact h
def gn(b:Expr):Prop:=∀o i,subscripted b false o i=operate [o,i] (getItem o i)
def IxR(X:Cx)(r:R2):Prop:=
 ∀(b a:Expr) (p:List (Addr × Obj)) (s:Shared) (σ:St) (H:Hp) (x y:V) (v u:Value) (Q:VK),Inv X p σ H s->RelV x v->RelV y u->r x y H Q ->
  subscripted a false v u=operate [v,u] (getItem v u)->wpAny (model X.f X.w) X.A (GU b a v u) (EP X p σ Q) X.h s
def MtR(X:Cx)(i:String)(r:V->List V->Hp->VK->Prop):Prop:=
 ∀(p:List (Addr × Obj)) (s:Shared) (σ:St) (H:Hp) (x:V) (xs:List V) (v:Value) (us:List Value) (Q:VK),Inv X p σ H s->RelV x v->Vals xs us->r x xs H Q ->
  wpAny (model X.f X.w) X.A (call (.builtin i) (v::us)) (EP X p σ Q) X.h s
section
variable {X:Cx}{a b:Expr}{ta tb:TE}{pos:Pos}
def IxR.or(h:IxR X r)(j:IxR X r'):IxR X (λx y H Q=>r x y H Q\/r' x y H Q):=by
 intro a b p s c H x y v u Q I g f q i;rcases q with q|q
 . exact h a b p s c H x y v u Q I g f q i
 . exact j a b p s c H x y v u Q I g f q i
def Pd(k:IxR X r)(m:PE X a ta)(l:PE X b tb)(j:gn b):PE X (.Subscript a b pos) (tOp r ta tb):=by intro p s c H Q I h;exact Ip (Ux m l I h λv u f x y B A i g q=>k a b p f c B x y v u Q A i g q (j _ _))
def Pr(K:AH):R2:=λx y H Q=>∃p a i v,x=.c p/\y=.d i/\SqL K H p a/\atI a i=some v/\Q v H
def Pu(K:AH):R2:=λx y H Q=>∃p a i v,x=.c p/\y=.d i/\SqT K H p a/\atI a i=some v/\Q v H
def Pt:R2:=λx y H Q=>∃z i c,x=.g z/\y=.d i/\z.length<=AI/\atI z.cps.toList i=some c/\Q (.g ⟨#[c]⟩) H
def WR:IxR X (Pr X.K):=by
 intro c g a s o H x y v u Q I C B h d;obtain⟨p,P,i,z,rfl,rfl,D,G,q⟩:=h;cases C;obtain⟨t,rfl⟩:=B;obtain⟨m,r,l,R⟩:=I.list D;obtain⟨j,b,N,V,L,J⟩:=mD G;obtain⟨w,e,k⟩:=r.get N;have E:=r.length;have T:=tU;have f:EP X a o Q w s:=⟨z,H,I,k,q⟩;by_cases h0:0<=i
 . have n:i.toNat=j:=by rw[seqIndex_of h0 J]at b;exact AL b
   exact item_listR l.isList h0 ⋯ (by rw[n];simpa using e) f d
 . have n:(i+(m.toArray.size:Int)).toNat=j:=by
    rw[seqIndex_neg ⋯ L]at b
    rw[Ae,<-E];exact AL b
   exact subscriptTail_builtinR (x:=w) l.isList.typeIs G4.lookup
    (wpAny_getItem_list_neg (Q:=λr A=>r=w/\EP X a o Q r A) l.isList ⋯ (by rw[Ae]<;>omega) ⋯ (by rw[n];simpa using e) ⟨rfl,f⟩) d
def Td:IxR X (Pu X.K):=by
 intro b c a s k H x y v u Q I o n h e;obtain⟨p,J,i,z,rfl,rfl,A,C,q⟩:=h;cases o;obtain⟨t,rfl⟩:=n;obtain⟨d,r,l,L⟩:=I.tuple A;obtain⟨j,E,D,T,R,P⟩:=mD C;obtain⟨w,G,f⟩:=r.get D;have B:=r.length;have N:=tU;have g:EP X a k Q w s:=⟨z,H,I,f,q⟩;exact subscriptTail_builtinR (x:=w) l.typeIs slot_tuple_getitem.lookup
  (getItem_tuple (j:=j) (Q:=λr m=>r=w/\EP X a k Q r m) l ⋯ ⋯ (by rw[Ae,<-B];exact E) (by simpa using G) ⟨rfl,g⟩) e
def Tc:IxR X Pt:=by
 intro a b p s B H x y v u Q I k r h l;obtain⟨z,i,c,rfl,rfl,D,n,q⟩:=h;obtain⟨t,rfl⟩:=k;obtain⟨C,rfl⟩:=r;obtain⟨j,f,e,G,d,o⟩:=mD n;have m:z.cps.toList.length=z.length:=by simp[Str.length]
 rw[m]at f d o;have E:=tU;exact tail_any (typeIs_str s z t) slot_str_getitem.lookup (getItem_str (c:=c) (by
  have A:decide (i < -(2 ^ 63:Int))=false:=decide_eq_false ⋯
  have w:decide (i ≥ 2 ^ 63)=false:=decide_eq_false ⋯
  rw[A,w,Bool.or_false]) (by rw[f];simpa using e) ⟨.g ⟨#[c]⟩,H,I.tok _,⟨_,rfl⟩,q⟩) l
def rIx(K:AH):R2:=λx y H Q=>Pr K x y H Q\/Pu K x y H Q\/Pt x y H Q
def Tb:IxR X (rIx X.K):=WR.or (Td.or Tc)
def iW(i:List Value)n j u:A1 (·.setIfInBounds j u) {cls:=.type "list",data:=.seq i.toArray n}={cls:=.type "list",data:=.seq (i.set j u).toArray n}:=by simp[A1]
def Inv.lst{a:List (Addr × Obj)}{c:St}{H:Hp}{s:Shared}{p:Addr}{x:List V}(I:Inv X a c H s)(h:H p=some (.b x)) :
 ∃(d:List Value) (n:Nat),Vals x d/\s.heap.get? p=some {cls:=.type "list",data:=.seq d.toArray n}/\x.length<=AI:=by
 obtain⟨z,d,n,r,e⟩:=I.j p _ h;exact⟨d,n,r,e,z⟩
def Inv.SX{a i:List Value}(I:Inv X pins σ H s)(h:H p=some (.b xs))
 (j:s.heap.get? p=some {cls:=.type "list",data:=.seq a.toArray n}) (c:f {cls:=.type "list",data:=.seq a.toArray n}={cls:=.type "list",data:=.seq i.toArray n'}) (r:Vals ys i) (g:ys.length<=AI) t :
 Inv X pins σ (upd H p (.b ys)) {s with heap:=s.heap.update p f,toks:=t}:=by
 have e:(s.heap.update p f).get? p=some {cls:=.type "list",data:=.seq i.toArray n'}:=by rw[Cd f j (by rw[c]<;>rfl),c]
 refine I.write (x:=p) (e:=p) (by rw[h];trivial) (.inl rfl) (λb u k q=>(Ed _ _ (Co k)).trans q) ⟨_,e⟩ ?_
 exact⟨g,i,n',r,e⟩
def UY:V->V->V->Hp->(Hp->Prop)->Prop:=λo i v H Q=>∃p x k j,o=.c p/\i=.d k/\H p=some (.b x)/\ixN x.length k=some j/\Q (upd H p (.b (x.set j v)))
def set_list:QA X UY:=by
 intro a s d H o i v G J u Q I B C w h;obtain⟨p,e,k,j,rfl,rfl,x,E,q⟩:=h;cases B;obtain⟨t,rfl⟩:=C;obtain⟨c,n,r,g,D⟩:=I.lst x;obtain⟨f,L,z,y⟩:=ff E;have l:=r.length;have K:=tU;have A:Inv X a d (upd H p (.b (e.set j v))) {s with heap:=s.heap.update p (A1 (·.setIfInBounds j u))}:=
  I.SX x g (iW c n j u) (r.set w j) (by rw[D4];exact D) s.toks
 by_cases h0:0<=k
 . have m:k.toNat=j:=by rw[seqIndex_of h0 y]at f;exact AL f
   exact PySem.W.ki_setAt g h0 ⋯ (by rw[Ae,<-l];exact y) (by rw[m];exact⟨_,A,q⟩)
 . have m:(k+(c.toArray.size:Int)).toNat=j:=by
    rw[seqIndex_neg ⋯ z]at f
    rw[Ae,<-l];exact AL f
   exact PySem.W.ki_setBack g ⋯ (by rw[Ae,<-l];exact z) ⋯ (by rw[m];exact⟨_,A,q⟩)
def lH lo hi n:(BV lo hi none n).1=((HT.sIx n 0 lo:Nat):Int)/\(BV lo hi none n).2.1=((HT.sIx n n hi:Nat):Int)/\(BV lo hi none n).2.2=1:=by
 refine⟨?_,?_,rfl⟩
 . cases lo with
   |none=>simp[BV,HT.sIx]
   |some i=>
    simp only[BV,HT.sIx,Hk,show (1:Int) > 0 by decide,if_true]
    by_cases h:i<0
    . simp only[h,if_true]<;>omega
    . simp only[h,if_false]<;>omega
 . cases hi with
   |none=>simp[BV,HT.sIx]
   |some i=>
    simp only[BV,HT.sIx,Hk,show (1:Int) > 0 by decide,if_true]
    by_cases h:i<0
    . simp only[h,if_true]<;>omega
    . simp only[h,if_false]<;>omega
def oW(i:List Value)lo hi:IK i.toArray lo hi none=((i.drop (HT.sIx i.length 0 lo)).take (HT.sIx i.length i.length hi-HT.sIx i.length 0 lo)).toArray:=by obtain⟨b,a,h⟩:=lH lo hi i.toArray.size;unfold IK;rw[b,a,h];simp only[sliceRange_one,pick_run,Ae]<;>rfl
def O9(K:AH):V->Option Int->Option Int->Hp->VK->Prop:=λx l h H Q=>∃a f,x=.c a/\SqL K H a f/\∀p,H p=none->Q (.c p) (upd H p (.b (oI f l h)))
def Vj:SlR X (O9 X.K):=by
 intro p s u H x v A w l i B Q I m e t n h;obtain⟨a,f,rfl,d,q⟩:=h;cases m;obtain⟨y,r,k,z⟩:=I.list d;have g:=r.length;refine⟨"list",_,G4.lookup,k.isList.typeIs,?_⟩;refine Hl k.isList e t n .none (by simp) ?_ (by rw[Ae]<;>omega)
 rw[oW,<-g];refine⟨.c s.heap.objs.size,_,I.laid (t':=s.toks) (o:=.b (oI f l i)) (λb C q=>xd _ q) (Ad _) ?_,rfl,q _ (I.j.fresh (Ad _))⟩;exact⟨Au (rZ f l i) z,_,0,(r.drop (HT.sIx f.length 0 l)).take (HT.sIx f.length f.length i-HT.sIx f.length 0 l),Az _ rfl⟩
noncomputable def vB:V->Bool
 |.f=>true
 |.e _=>true
 |.d _=>true
 |.g _=>true
 |_=>false
noncomputable def eqV:V->V->Bool
 |.f,.f=>true
 |.e a,.e b=>a == b
 |.e a,.d b=>(if a then 1 else 0) == b
 |.d a,.e b=>a == (if b then 1 else 0)
 |.d a,.d b=>a == b
 |.g a,.g b=>a == b
 |_,_=>false
def TF(h:RelV y u)(r:RelV x v)(j:vB y=true)(i:vB x=true):Br A s u v (eqV y x):=by
 cases y with
 |f=>
  cases h;cases x with
  |f=>cases r;exact Br.same _
  |e b=>cases r;exact Br.none_bool b
  |d b=>obtain⟨t,rfl⟩:=r;exact Br.none_int b t
  |g b=>obtain⟨t,rfl⟩:=r;exact Br.none_str b t
  |_=>exact absurd (show false=true from i) Aj
 |e a=>
  cases h;cases x with
  |f=>cases r;exact Br.bool_none a
  |e b=>cases r;exact Br.bool_bool a b
  |d b=>obtain⟨t,rfl⟩:=r;exact Br.bool_int a b t
  |g b=>obtain⟨t,rfl⟩:=r;exact Br.bool_str a b t
  |_=>exact absurd (show false=true from i) Aj
 |d a=>
  obtain⟨c,rfl⟩:=h;cases x with
  |f=>cases r;exact Br.int_none a c
  |e b=>cases r;exact Br.int_bool a c b
  |d b=>obtain⟨t,rfl⟩:=r;exact Br.int_int a c b t
  |g b=>obtain⟨t,rfl⟩:=r;exact Br.int_str a c b t
  |_=>exact absurd (show false=true from i) Aj
 |g a=>
  obtain⟨c,rfl⟩:=h;cases x with
  |f=>cases r;exact Br.str_none a c
  |e b=>cases r;exact Br.str_bool a c b
  |d b=>obtain⟨t,rfl⟩:=r;exact Br.str_int a c b t
  |g b=>obtain⟨t,rfl⟩:=r;exact Br.str_str a c b t
  |_=>exact absurd (show false=true from i) Aj
 |_=>exact absurd (show false=true from j) Aj
def eqU(x:V)(u:Value):Bool:=match u with
 |.none=>eqV .f x
 |.bool b=>eqV (.e b) x
 |.int i _=>eqV (.d i) x
 |.str z _=>eqV (.g z) x
 |_=>false
def iG(r:RelV y u)(f:vB y=true):eqU x u=eqV y x:=by
 cases y with
 |f=>cases r;rfl
 |e b=>cases r;rfl
 |d i=>obtain⟨t,rfl⟩:=r;rfl
 |g z=>obtain⟨t,rfl⟩:=r;rfl
 |_=>exact absurd (show false=true from f) Aj
theorem t7:∀{xs} {us},Vals xs us->xs.all vB=true->us.any (eqU x)=xs.any λy=>eqV y x
 |_,_,.nil,_=>rfl
 |y::xs,u::us,.cons r t,f=>by rw[Dh,ub]at f;rw[DZ,DZ,iG r f.1,t7 t f.2]
theorem x6(a:RelV x v)(b:vB x=true):∀{xs} {us},Vals xs us->xs.all vB=true->∀u∈us,Br A s u v (eqU x u)
 |_,_,.nil,_=>λu d=>by cases d
 |y::xs,u::us,.cons r t,f=>λe d=>by
  rw[Dh,ub]at f;rcases Ao.mp d with rfl|d
  . rw[iG r f.1];exact TF r a f.1 b
  . exact x6 a b t f.2 e d
def inV(x:V)(a:List V):Bool:=a.any λy=>eqV y x
def rIn(K:AH)(n:Bool):R2:=λx y H Q=>∃p a,y=.c p/\(SqL K H p a\/SqT K H p a)/\vB x=true/\a.all vB=true/\Q (.e (if n then !inV x a else inV x a)) H
def cW:OpR X (Bc .In) (rIn X.K false):=by
 intro j s n H x y v u Q I g l h;obtain⟨p,o,rfl,a,k,f,q⟩:=h;cases l;rcases a with a|a
 . obtain⟨i,r,b,m⟩:=I.list a
   refine SeqAt.in_listAt (eqU x) b.isList (λw c=>x6 g k r f w (by simpa using c)) ⟨.e _,H,I,rfl,?_⟩
   rw[show i.toArray.any (eqU x)=i.any (eqU x) by simp,t7 r f]
   exact q
 . obtain⟨i,r,b,m⟩:=I.tuple a
   refine SeqAt.in_tupleAt (eqU x) b (λw c=>x6 g k r f w (by simpa using c)) ⟨.e _,H,I,rfl,?_⟩
   rw[show i.toArray.any (eqU x)=i.any (eqU x) by simp,t7 r f]
   exact q
def mz:OpR X (Bc .NotIn) (rIn X.K true):=by
 intro j s n H x y v u Q I g l h;obtain⟨p,o,rfl,a,k,f,q⟩:=h;cases l;rcases a with a|a
 . obtain⟨i,r,b,m⟩:=I.list a
   refine SeqAt.notIn_listAt (eqU x) b.isList (λw c=>x6 g k r f w (by simpa using c)) ⟨.e _,H,I,rfl,?_⟩
   rw[show i.toArray.any (eqU x)=i.any (eqU x) by simp,t7 r f]
   exact q
 . obtain⟨i,r,b,m⟩:=I.tuple a
   refine SeqAt.notIn_tupleAt (eqU x) b (λw c=>x6 g k r f w (by simpa using c)) ⟨.e _,H,I,rfl,?_⟩
   rw[show i.toArray.any (eqU x)=i.any (eqU x) by simp,t7 r f]
   exact q
def mF:yJ X (.builtin "len") (λw H Q=>∃p e,w=[.c p]/\(SqL X.K H p e\/SqT X.K H p e)/\Q (.d e.length) H):=by
 intro j s m H w n Q I r h;obtain⟨p,e,rfl,b,q⟩:=h;obtain⟨u,rfl,k⟩:=vals1 r;cases k;have o:=tU;rcases b with b|b
 . obtain⟨i,f,g,l⟩:=I.list b
   have a:=f.length;exact Calls.call_len_list g.isList (by simp only[Ae]<;>omega) ⟨.d e.length,H,I.tok _,⟨s.toks+1,by rw[Ae,a]⟩,q⟩
 . obtain⟨i,f,g,l⟩:=I.tuple b
   have a:=f.length;exact len_tuple g (by simp only[Ae]<;>omega) ⟨.d e.length,H,I.tok _,⟨s.toks+1,by rw[Ae,a]⟩,q⟩
def mG:yJ X (.builtin "len") (λe H Q=>∃z,e=[.g z]/\z.length<=AI/\Q (.d z.length) H):=by intro p s a H e b Q I r h;obtain⟨z,rfl,c,q⟩:=h;obtain⟨u,rfl,t,rfl⟩:=vals1 r;have f:=tU;exact len_str ⋯ ⟨.d z.length,H,I.tok _,⟨_,rfl⟩,q⟩
def u0:yJ X (.type "tuple") (λF H Q=>∃p d,F=[.c p]/\((SqL X.K H p d/\∀l,H l=none->Q (.c l) (upd H l (.c d)))\/(SqT X.K H p d/\Q (.c p) H))):=by
 intro a s t H F C Q I r h;obtain⟨p,d,rfl,h⟩:=h;obtain⟨u,rfl,y⟩:=vals1 r;cases y;rcases h with⟨n,q⟩|⟨n,q⟩
 . obtain⟨i,k,m,v⟩:=I.list n
   have x:=k.length;refine call_tuple_list m.isList (λg z=>?_) (by simp only[Ae]<;>omega)
   have A:Inv X a t H {s with heap:=g}:=I.kept (t':=s.toks) z
   have B:Inv X a t (upd H g.objs.size (.c d)) {s with heap:=g.push {cls:=.type "tuple",data:=.seq i.toArray}}:=
    A.laid (t':=s.toks) (λb o e=>xd _ e) (Ad _) (show z7 X.f X.w _ _ _ (.c d) from ⟨v,i,k,tx.new _ _⟩)
   exact⟨.c g.objs.size,_,B,rfl,q _ (A.j.fresh (Ad _))⟩
 . obtain⟨i,k,m,v⟩:=I.tuple n
   exact call_tuple_same m ⟨.c p,H,I,rfl,q⟩
def tyV(K:AH)(T:String)(x:V)(H:Hp):Prop:=match x with
 |.g _=>T="str"
 |.d _=>T="int"
 |.c p=>(T="list"/\∃b,SqL K H p b)\/(T="tuple"/\∃o,K.lookup p=some o/\o.cls=.type "tuple"/\o.dict=none) \/
  (T="dict"/\((∃a,H p=some (.j a))\/∃a,H p=some (.k a)))\/(T="set"/\∃S n,H p=some (.m S n))
 |_=>False
def Rv(I:Inv X pins σ H s)(r:RelV x v)(f:tyV X.K T x H) :
 s.TypeIs v T/\∀a,v=.ref a->∃u,s.heap.get? a=some u/\u.dict=none:=by
 cases x with
 |g z=>
  obtain⟨t,rfl⟩:=r;cases (show T="str" from f);exact⟨typeIs_str s z t,λ_ e=>nomatch e⟩
 |d i=>
  obtain⟨t,rfl⟩:=r;cases (show T="int" from f);exact⟨D5 s i t,λ_ e=>nomatch e⟩
 |c p=>
  cases r;rcases f with⟨rfl,B,w⟩|⟨rfl,o,h,A,l⟩|⟨rfl,h⟩|⟨rfl,S,n,h⟩
  . obtain⟨y,_,q,_⟩:=I.list w
    refine⟨q.isList.typeIs,λa e=>?_⟩;cases e;obtain⟨o,n,e,c,l,_⟩:=q;exact⟨o,e,l⟩
  . refine⟨⟨o,I.kIn p o h,A⟩,λa e=>?_⟩
    cases e;exact⟨o,I.kIn _ o h,l⟩
  . have z:∃o,s.heap.get? p=some o/\o.ExactDict:=by
     rcases h with⟨k,h⟩|⟨k,h⟩
     . obtain⟨_,_,_,_,o,_,_,e,b,_⟩:=I.j p _ h
       exact⟨o,e,b⟩
     . obtain⟨_,_,_,_,o,_,_,e,b,_⟩:=I.j p _ h
       exact⟨o,e,b⟩
    obtain⟨o,e,b⟩:=z;refine⟨⟨o,e,b.1⟩,λa m=>?_⟩;cases m;exact⟨o,e,b.2.1⟩
  . obtain⟨o,_,_,_,e,b,_⟩:=I.j p _ h
    refine⟨⟨o,e,b.1⟩,λa m=>?_⟩;cases m;exact⟨o,e,b.2.1⟩
 |_=>exact Dp f
def tBM(K:AH)(T:String)(r:V->List V->Hp->VK->Prop)(c:TE)(t:TA):TE:=λa H Q=>c a H λx A=>tyV K T x A/\t a A λb B=>r x b B Q
variable {o e:Expr}{es:List Expr}{to:TE}{t:TA}{name:Str}{apos cpos:Pos}{T id:String}{r:V->List V->Hp->VK->Prop}
def Z9(B:PlainAttrs T)(g:Slot T name id)(k:typeOf (.builtin id)=pure (.type "method_descriptor"))(E:MtR X id r)(D:PE X o to)(G:PA X (e::es) t)
 (f:EW o name X.a (eval o X.a)=eval o X.a:=by rfl)
 (i:((backTo cpos (A6 (e::es) X.a)).all (λx=>!x.1)&&(backToKw cpos (keywordEach [] X.a)).all (λx=>x.1.isSome)
  && decide ((e::es).length+([]:List Keyword).length+(if ([]:List Keyword).isEmpty then 0 else 1)<30))=true:=by rfl)
 (c:(apos.endLine == cpos.line)=true:=by rfl) (C:A6 (e::es) X.a=(false,eval e X.a)::A6 es X.a:=by rfl) (b:(backTo cpos (A6 es X.a)).any (·.1)=false:=by rfl) :
 PE X (.Call (.Attribute o name apos) (e::es) [] cpos) (tBM X.K T r to t):=by
 intro p s j H Q I h;refine wpAny_Call_method_late f i c rfl (thn (D p s j H _ I h) λv d z=>?_);obtain⟨x,N,A,l,q,w⟩:=z;obtain⟨L,J⟩:=Rv A l q;refine⟨T,id,B,g,k,L,J,?_⟩;have n:=G cpos p d j N _ A w;rw[C]at n ⊢;refine Calls.callWith_builtin (by show (false||(backTo cpos (A6 es X.a)).any (·.1))=false;rw[b]<;>rfl) (Calls.evalArgs_plain ?_)
 exact thn n λu y ⟨vs,H2,I2,r2,q2⟩=>E p y j H2 x vs v u Q I2 l r2 q2
/- xs.append(e),list.index on a module's tuple .. are MtR facts of 06m -/
end
def MtM(X:Cx)(i:String)(r:V->List V->Hp->VK->Prop):Prop:=
 ∀(p:List (Addr × Obj)) (s:Shared) (σ:St) (H:Hp) (x:V) (xs:List V) (v:Value) (us:List Value) (Q:VK),Inv X p σ H s->RelV x v->Vals xs us->r x xs H Q ->
  wpAny (model X.f X.w) X.A (call (.builtin i) (v::us)) (EP X p σ Q) X.h s
def Vals.one:∀{x} {us},Vals [x] us->∃u,us=[u]/\RelV x u
 |_,_,.cons r .nil=>⟨_,rfl,r⟩
theorem Vals.rep(h:Vals xs us):∀k:Nat,Vals (AR k xs).flatten (AR k us).flatten
 |0=>.nil
 |k+1=>by rw[CI,CI,DI,DI];exact Vals.append h (Vals.rep h k)
theorem foldl_rep its:∀k (acc:List Value),
 EF (λu d=>u++d) acc.toArray (AR k its.toArray)=(acc++(AR k its).flatten).toArray
 |0,acc=>by simp
 |k+1,acc=>by
  have e:acc.toArray++its.toArray=(acc++its).toArray:=by simp
  have a:(acc++its)++(AR k its).flatten=acc++(AR (k+1) its).flatten:=by rw[CI,DI,Aq]
  rw[<-a,<-foldl_rep its k (acc++its),<-e,CI,HK]
def Inv.Qw{i its':List Value}(I:Inv X pins σ H s)(k:H l=some (.b xs))
 (e:s.heap.get? l=some {cls:=.type "list",data:=.seq i.toArray n}) (g:f i.toArray=its'.toArray) (a:Vals ys its') (h:ys.length<=AI) :
 Inv X pins σ (upd H l (.b ys)) {s with heap:=s.heap.update l (A1 f),toks:=t'}:=by
 have q:=PySem.IsL.update e f;rw[g]at q;refine I.write (x:=l) (e:=l) (by rw[k];exact trivial) (.inl rfl) (λm u j c=>(Ed s.heap (A1 f) (Co j)).trans c) ⟨_,q⟩ ?_
 exact⟨h,its',_,a,q⟩
def Inv.Qu(I:Inv X pins σ H s)(a:Vals ys its)(h:ys.length<=AI) :
 Inv X pins σ (upd H s.heap.objs.size (.b ys)) {s with heap:=s.heap.push {cls:=.type "list",data:=.seq its.toArray},toks:=t'}:=
 I.laid (λ_ _ q=>xd _ q) (Ad _) ⟨h,its,0,a,Az _ rfl⟩
theorem Inv.fresh(I:Inv X pins σ H s):H s.heap.objs.size=none:=I.j.fresh (Ad _)
def Inv.dq(I:Inv X pins σ H s)(h:H l=some (.b xs)):xs.length<=AI/\∃d n,Vals xs d/\xs.length=d.length/\s.heap.get? l=some {cls:=.type "list",data:=.seq d.toArray n}:=by obtain⟨z,d,n,r,e⟩:=I.j l _ h;exact⟨z,d,n,r,r.length,e⟩
def kn(h:n<=AI):DU n=false:=by unfold DU;exact decide_eq_false ⋯
section
variable {X:Cx}
def eI:V->List V->Hp->VK->Prop:=λx v H Q=>∃l a y,x=.c l/\v=[y]/\H l=some (.b a)/\a.length<AI/\Q .f (upd H l (.b (a++[y])))
def nL:MtM X "list.append" eI:=by
 intro p s j H x m v o Q I b c h;obtain⟨l,k,y,rfl,rfl,a,t,q⟩:=h;cases b;obtain⟨u,rfl,g⟩:=c.one;obtain⟨z,i,n,r,d,e⟩:=I.dq a;refine Ct F.slot_list_append ⟨_,e,rfl⟩ F.entry_list_append (F.args_list_append_2 _ _) (PySem.list_append l i.toArray n u (by rw[Ae];omega)) ⟨e,?_⟩
 refine⟨.f,_,I.Qw (its':=i++[u]) a e (by simp) (r.append (.cons g .nil)) ?_,rfl,q⟩
 rw[Aw,BF];omega
def eJ:V->List V->Hp->VK->Prop:=λx v H Q=>∃l b a z,x=.c l/\v=[.c b]/\H l=some (.b a)/\H b=some (.b z)/\a.length+z.length<=AI/\Q .f (upd H l (.b (a++z)))
def d7:MtM X "list.extend" eJ:=by
 intro p s B H x G v J Q I k m h;obtain⟨l,b,E,C,rfl,rfl,j,w,K,q⟩:=h;cases k;obtain⟨u,rfl,o⟩:=m.one;cases o;obtain⟨z,a,n,r,L,e⟩:=I.dq j;obtain⟨D,i,y,t,d,A⟩:=I.dq w;have g:a.toArray.size+i.toArray.size<=AI:=by rw[Ae,Ae];omega
 have c:¬(!a.toArray.isEmpty&&DU (a.toArray.size+i.toArray.size))=true:=by rw[kn g,Gm];exact Aj
 refine Ct F.slot_list_extend ⟨_,e,rfl⟩ F.entry_list_extend (F.args_list_extend_2 _ _)
  (AutoSeq1.list_extend_list_list_0 l a.toArray n b i.toArray y c (by rw[Ae];omega) ⋯) ⟨e,A,?_⟩
 refine⟨.f,_,I.Qw (its':=a++i) j e (by simp) (r.append t) ?_,rfl,q⟩
 rw[Aw];omega
def O4:R2:=λx y H Q=>∃l b a z,x=.c l/\y=.c b/\H l=some (.b a)/\H b=some (.b z)/\a.length+z.length<=AI/\∀p,H p=none->Q (.c p) (upd H p (.b (a++z)))
def Sk:OpR X (B2 .Add) O4:=by
 intro p s w H x y v u Q I g f h;obtain⟨l,b,C,A,rfl,rfl,m,o,E,q⟩:=h;cases g;cases f;obtain⟨z,a,n,r,G,e⟩:=I.dq m;obtain⟨B,i,D,j,k,d⟩:=I.dq o;refine PySem.P.add_list e d ?_ (by rw[Ae,Ae];omega)
 have t:a.toArray++i.toArray=(a++i).toArray:=by simp
 rw[t];exact⟨.c _,_,I.Qu (t':=s.toks) (r.append j) (by rw[Aw];omega),rfl,q _ I.fresh⟩
def O6:R2:=λx y H Q=>∃l k a,x=.c l/\y=.d k/\H l=some (.b a)∧-(2 ^ 63)<=k/\k<2 ^ 63/\a.length*k.toNat<=AI /\
 ∀p,H p=none->Q (.c p) (upd H p (.b (AR k.toNat a).flatten))
def len_rep{a:Type}(x:List a)k:(AR k x).flatten.length=k*x.length:=by
 induction k with
 |zero=>simp
 |succ k i=>rw[CI,DI,Aw,i,Nat.succ_mul,Hm]
def Ss:OpR X (B2 .Mult) O6:=by
 intro w s N H x y v u Q I D C h;obtain⟨l,k,P,rfl,rfl,G,K,J,A,q⟩:=h;cases D;obtain⟨t,rfl⟩:=C;obtain⟨z,i,n,r,E,e⟩:=I.dq G;have g:i.toArray.size*k.toNat<=AI:=by rw[Ae,<-E];exact A
 have o:¬i.toArray.size*k.toNat > (2 ^ 63-1)/8:=by
  have:(AI:Nat)<=(2 ^ 63-1)/8:=by decide
  omega
 have j:¬(!Builtin.List.listFitsIndex k)=true:=by rw[fitsIndex_both K J];exact Aj
 have b:¬DU (i.toArray.size*k.toNat)=true:=by rw[kn g];exact Aj
 have f:EF (λd p=>d++p) #[] (AR (if i.toArray.isEmpty=true then 0 else k.toNat) i.toArray)=(AR k.toNat i).flatten.toArray:=by
  have L:∀m:Nat,EF (λd p=>d++p) #[] (AR m i.toArray)=(AR m i).flatten.toArray:=λm=>by have:=foldl_rep i m [];rw[D6]at this;exact this
  rw[L];cases i with
  |nil=>simp
  |cons a R=>rw[if_neg (by simp)]
 refine DL (T:="list") (U:="int") (by decide) ⟨_,e,rfl⟩ (λB=>D5 B k t) noFill_list_mul F2 C1 repeat_list FI.lookup
  (Ct C1 (D5 s k t) FJ (Fq _ _) (int___rmul___int_list k t l i.toArray n)
   ⟨e,rfl,⟨_,e,rfl⟩,Ct F.slot_list_mul ⟨_,e,rfl⟩ F.entry_list_mul (F.args_list_mul_2 _ _) (AutoListH.list___mul___list_int_3 l i.toArray n k t j o b) ⟨e,?_⟩⟩)
 rw[f];exact⟨.c _,_,I.Qu (t':=s.toks) (r.rep k.toNat) (by rw[len_rep,BR];exact A),rfl,q _ I.fresh⟩
end
end L2
namespace Att
open PySem PySem.W PySem.Calls PyProof.Rows
def r6:∀d e,WellAll P h e (d.map WData.int)->IntsAre e d:=by
 intro d;induction d with
 |nil=>
  intro e w;rw[Er]at w;cases w;exact .nil
 |cons n d i=>
  intro e w;rw[AG]at w;cases w with
  |cons a b=>
   cases a;exact .cons _ _ (i _ b)
def bL{l:OpenLaw}(t:l.most=some n)
 (b:l.row.toRowW.claim.pre args=true) (j:WellAll P h vals args) :
 ∃a u e,vals=[Bk a]/\args=[WData.list (e.map WData.int)]/\h.get? a=some {cls:=.type "list",data:=.seq u.toArray}/\IntsAre u e/\e.length<=n:=by
 have k:WShape.hasAll [] args [.list .int]=true:=(pre_splitW b).1;have m:l.pre.holds [] {args:=args}=true:=(pre_splitW b).2;obtain⟨d,r,rfl,y,x⟩:=hasAllW_cons k;obtain rfl:=hasAllW_nil x;obtain⟨z,rfl,v⟩:=hasW_list y;obtain⟨e,rfl⟩:=items_int v;have c:e.length<=n:=by
  unfold OpenLaw.pre at m;have i:(WTm.not (.lt (.lit (.int (n:Int))) (.len (.arg 0)))).holds [] {args:=[.list (e.map .int)]}=true:=by have i:=(holds_andW m).1;rw[t]at i;exact i
  have g:=condW_of i (w_not (w_lt w_lit (w_len_list (w_arg rfl))));rw[Ac]at g;refine Hn λq=>?_;have p:(n:Int)<((e.length:Nat):Int):=by omega
  first
   |(rw[decide_eq_true p]at g;exact absurd g (by decide))
   |(simp at g;omega)
 cases j with
 |cons o w=>
  cases w;cases o with
  |list s f=>exact⟨_,_,e,rfl,rfl,s,r6 e _ f,c⟩
def cy(l:OpenLaw)args:l.row.toRowW.claim.post args (.bool true) args=true:=
 postW_of (r:=l.row.toRowW) (X:=(true == true))
  (show WShape.has [] (.bool true) .bool=true by first|rfl|decide|simp[WShape.has,WShape.arms,WShape.armsAll])
  (show (WTm.eq .res (.lit (.bool true))).value [] {args:=args,res:=some (.bool true),after:=args}=some (.bool (true == true)) from w_eq_bool (w_res rfl) w_lit) rfl
def lX{l:OpenLaw}
 (D:l.most=some n) (m:d.params.defaults=[])
 (i:∀w u e U mb O o pm W F a M S,
  Ground q loose [] XP w u U mb e.heap->YP w e.heap ->
  e.heap.get? O=some o->o.data=.func (docDef d.name d.params d.body d.scope pm W F)->e.heap.CodeRec W d.name->U d.name=some (.ref O) ->
  e.heap.get? a=some {cls:=.type "list",data:=.seq M.toArray}->IntsAre M S->S.length<=n->e.gens=#[] ->
  codeAny (model l.prog w) callerA (.call (.ref O) ⟨[.ref a],[]⟩) (λr s=>r=.ok (.ret (.bool true))/\OldK e.heap s.heap/\s.os=e.os/\AllBare s.gens) e) :
 WalkO q loose XP YP l.row.toRowW d [] (λf M=>PySem.call f M):=by
 intro w u e U mb G Y O o pm W F P z C J p x k I y v Q b t A j H;obtain rfl:P=.none:=Dflts.none x m;obtain rfl:z=.none:=Dflts.noKw x;obtain⟨a,M,S,rfl,rfl,c,h,g⟩:=bL D b j;refine enter_call (codeAny_mono (i w u e U mb O o pm W F a M S G Y C (fd_plain J) p k c h g I) λr s B=>?_);obtain⟨rfl,N,L,K⟩:=B;exact⟨.inl ⟨.bool true,.bool true,[],rfl,λ_=>rfl,.bool true,cy l _,λ_=>⟨G5,λ_ E=>(nomatch E)⟩⟩,N,L,K⟩
end Att
namespace L2
open PySem PySem.Spec PyProof.Rows
theorem ni:∀{vs} {ns},IntsAre vs ns->Vals (ns.map V.d) vs
 |_,_,.nil=>.nil
 |_,_,.cons n t h=>.cons ⟨t,rfl⟩ (ni h)
end L2
/- THE LAST THEOREM (shape;LID,My.* are yours):
   My.Adr: a structure of the addresses that your layer names (classes,functions);My.Txt K t: a structure (Prop) of the equations over K;
   My.txt_mk:{K} {implicit addresses ..} (e1:nsIn K Bt "law"=some (some (.ref f))) (e2:K.lookup f=some ⟨oc,od,.func (fnOf "law" "law" params body scope dV kV doc pm an cdv ct),sl⟩) (e3:codeIn K cdv "law"=true) ..:∃t,My.Txt K t
(the tactic k_is has no namespace: write k_is) -/
namespace L2
open PySem PySem.Spec PyProof.Rows
def wM(s:Stmt):Arguments:=match s with
 |.FunctionDef _ a _ _ _ _ _ _ _ _=>a
 |_=>{posonlyargs:=[],args:=[],vararg:=none,kwonlyargs:=[],kw_defaults:=[],kwarg:=none,defaults:=[]}
noncomputable def xR(s:Stmt):List Stmt:=match s with
 |.FunctionDef _ _ b _ _ _ _ _ _ _=>b
 |_=>[]
noncomputable def zu(s:Stmt):Scope:=match s with
 |.FunctionDef _ _ _ _ _ _ sc _ _ _=>sc
 |_=>{kind:=.function,names:=[],isGenerator:=false,isCoroutine:=false}
abbrev CX0:CXT:=λ_ _ _ _ _ _=>False
abbrev E0:XK:=λ_ _ _=>False
def UU:Passes CX0 X E0:=λ_ _ _ _ _ _ _ h=>h.elim
structure Fun(K:AH)(x qual:Str)(st:Stmt)(f:Addr)(fd:Ec):Prop where
 a:∃(oc:Value) (od:Option Addr) (kV doc pm:Value) (an:Option Addr) (cdv ct:Value) (osl:Array (Option Value)),
  fd=CK x qual (wM st) (xR st) (zu st) .none kV doc pm an cdv ct/\K.lookup f=some ⟨oc,od,.func fd,osl⟩/\Dl K cdv qual=true
 kp:Dm K (.ref f)=true
def Fun.binds{K:AH}{st}{p:List Str}(F:Fun K x qual st f fd)
 (h:∀w d u O e M (us:List Value),us.length=p.length->bindArgs (CK x qual (wM st) (xR st) (zu st) .none w d u O e M) ⟨us,[]⟩=pure (p.zip us)):Binds K fd p []:=by
 obtain⟨g,c,w,d,u,O,e,M,o,rfl,l,b⟩:=F.a;exact .all (h w d u O e M)
def TQ{K:AH}{st}{kV doc pm cdv ct}(l:K.lookup f=some ⟨oc,od,.func (CK x qual (wM st) (xR st) (zu st) .none kV doc pm an cdv ct),osl⟩)
 (c:Dl K cdv qual=true) (k:Dm K (.ref f)=true):Fun K x qual st f (CK x qual (wM st) (xR st) (zu st) .none kV doc pm an cdv ct):=⟨⟨oc,od,kV,doc,pm,an,cdv,ct,osl,rfl,l,c⟩,k⟩
def oK{A B:Prop}(h:B):if false=true then A else B:=by rw[if_neg Aj];exact h
def oM{A B:Prop}(h:A):if true=true then A else B:=by rw[if_pos rfl];exact h
def rB(H A:Hp):Prop:=∀b o,H b=some o->A b=some o
def rB.refl H:rB H H:=λ_ _ h=>h
end L2
end
section
namespace M
open PySem
noncomputable def el(a n:Nat)(f:a=n->Bool):Bool:=if h:a=n then f h else false
def yD(h:el a n f=true):∃d,f d=true:=by
 unfold el at h;by_cases d:a=n
 . rw[dif_pos d]at h;exact⟨d,h⟩
 . rw[dif_neg d]at h;cases h
def UD(e:Expr)(k:BoolOp->List Expr->Pos->Bool):Bool:=el e.ctorIdx 0 λh=>Expr.BoolOp.elim (motive_1:=λ_=>Bool) e h k
def dH(h:UD e k=true):∃o d p,e=.BoolOp o d p/\k o d p=true:=by obtain⟨a,h⟩:=yD h;obtain⟨o,d,p,rfl⟩:∃o d p,e=.BoolOp o d p:=Expr.BoolOp.elim (motive_1:=λe=>∃o d p,e=Expr.BoolOp o d p) e a λo d p=>⟨o,d,p,rfl⟩;exact⟨o,d,p,rfl,h⟩
def QJ(e:Expr)(k:Expr->Operator->Expr->Pos->Bool):Bool:=el e.ctorIdx 2 λh=>Expr.BinOp.elim (motive_1:=λ_=>Bool) e h k
def aT(h:QJ e k=true):∃l o r p,e=.BinOp l o r p/\k l o r p=true:=by obtain⟨a,h⟩:=yD h;obtain⟨l,o,r,p,rfl⟩:∃l o r p,e=.BinOp l o r p:=Expr.BinOp.elim (motive_1:=λe=>∃l o r p,e=Expr.BinOp l o r p) e a λl o r p=>⟨l,o,r,p,rfl⟩;exact⟨l,o,r,p,rfl,h⟩
def eUn(e:Expr)(k:UnaryOp->Expr->Pos->Bool):Bool:=el e.ctorIdx 3 λh=>Expr.UnaryOp.elim (motive_1:=λ_=>Bool) e h k
def X2(h:eUn e k=true):∃o x p,e=.UnaryOp o x p/\k o x p=true:=by obtain⟨a,h⟩:=yD h;obtain⟨o,x,p,rfl⟩:∃o x p,e=.UnaryOp o x p:=Expr.UnaryOp.elim (motive_1:=λe=>∃o x p,e=Expr.UnaryOp o x p) e a λo x p=>⟨o,x,p,rfl⟩;exact⟨o,x,p,rfl,h⟩
def QL(e:Expr)(k:Expr->Expr->Expr->Pos->Bool):Bool:=el e.ctorIdx 5 λh=>Expr.IfExp.elim (motive_1:=λ_=>Bool) e h k
def aX(h:QL e k=true):∃t x y p,e=.IfExp t x y p/\k t x y p=true:=by obtain⟨a,h⟩:=yD h;obtain⟨t,x,y,p,rfl⟩:∃t x y p,e=.IfExp t x y p:=Expr.IfExp.elim (motive_1:=λe=>∃t x y p,e=Expr.IfExp t x y p) e a λt x y p=>⟨t,x,y,p,rfl⟩;exact⟨t,x,y,p,rfl,h⟩
def QK(e:Expr)(k:List (Option Expr)->List Expr->Pos->Bool):Bool:=el e.ctorIdx 6 λh=>Expr.Dict.elim (motive_1:=λ_=>Bool) e h k
def aW(h:QK e k=true):∃u d p,e=.Dict u d p/\k u d p=true:=by obtain⟨a,h⟩:=yD h;obtain⟨u,d,p,rfl⟩:∃u d p,e=.Dict u d p:=Expr.Dict.elim (motive_1:=λe=>∃u d p,e=Expr.Dict u d p) e a λu d p=>⟨u,d,p,rfl⟩;exact⟨u,d,p,rfl,h⟩
def U6(e:Expr)(k:Expr->List DC->Scope->Pos->Bool):Bool:=el e.ctorIdx 8 λh=>IB.elim (motive_1:=λ_=>Bool) e h k
def kC(h:U6 e k=true):∃x u d p,e=.ListComp x u d p/\k x u d p=true:=by obtain⟨a,h⟩:=yD h;obtain⟨x,u,d,p,rfl⟩:∃x u d p,e=.ListComp x u d p:=IB.elim (motive_1:=λe=>∃x u d p,e=IB x u d p) e a λx u d p=>⟨x,u,d,p,rfl⟩;exact⟨x,u,d,p,rfl,h⟩
def U8(e:Expr)(k:Expr->List CmpOp->List Expr->Pos->Bool):Bool:=el e.ctorIdx 15 λh=>G6 (motive_1:=λ_=>Bool) e h k
def kD(h:U8 e k=true):∃l u d p,e=.Compare l u d p/\k l u d p=true:=by obtain⟨a,h⟩:=yD h;obtain⟨l,u,d,p,rfl⟩:∃l u d p,e=.Compare l u d p:=G6 (motive_1:=λe=>∃l u d p,e=Expr.Compare l u d p) e a λl u d p=>⟨l,u,d,p,rfl⟩;exact⟨l,u,d,p,rfl,h⟩
def aU(e:Expr)(k:Expr->List Expr->List Keyword->Pos->Bool):Bool:=el e.ctorIdx 16 λh=>Expr.Call.elim (motive_1:=λ_=>Bool) e h k
def nB(h:aU e k=true):∃f d u p,e=.Call f d u p/\k f d u p=true:=by obtain⟨a,h⟩:=yD h;obtain⟨f,d,u,p,rfl⟩:∃f d u p,e=.Call f d u p:=Expr.Call.elim (motive_1:=λe=>∃f d u p,e=Expr.Call f d u p) e a λf d u p=>⟨f,d,u,p,rfl⟩;exact⟨f,d,u,p,rfl,h⟩
def Oi(e:Expr)(k:Expr->Int->Option Expr->Pos->Bool):Bool:=el e.ctorIdx 17 λh=>Expr.FormattedValue.elim (motive_1:=λ_=>Bool) e h k
def eJn(e:Expr)(k:List Expr->Pos->Bool):Bool:=el e.ctorIdx 18 λh=>Expr.JoinedStr.elim (motive_1:=λ_=>Bool) e h k
def U7(e:Expr)(k:Const->Nat->Pos->Bool):Bool:=el e.ctorIdx 19 λh=>IC.elim (motive_1:=λ_=>Bool) e h k
def aV(h:U7 e k=true):∃c n p,e=.Constant c n p/\k c n p=true:=by obtain⟨a,h⟩:=yD h;obtain⟨c,n,p,rfl⟩:∃c n p,e=.Constant c n p:=IC.elim (motive_1:=λe=>∃c n p,e=IC c n p) e a λc n p=>⟨c,n,p,rfl⟩;exact⟨c,n,p,rfl,h⟩
def QI(e:Expr)(k:Expr->Str->Pos->Bool):Bool:=el e.ctorIdx 20 λh=>Ic.elim (motive_1:=λ_=>Bool) e h k
def aS(h:QI e k=true):∃o x p,e=.Attribute o x p/\k o x p=true:=by obtain⟨a,h⟩:=yD h;obtain⟨o,x,p,rfl⟩:∃o x p,e=.Attribute o x p:=Ic.elim (motive_1:=λe=>∃o x p,e=Ic o x p) e a λo x p=>⟨o,x,p,rfl⟩;exact⟨o,x,p,rfl,h⟩
def X1(e:Expr)(k:Expr->Expr->Pos->Bool):Bool:=el e.ctorIdx 21 λh=>Ie.elim (motive_1:=λ_=>Bool) e h k
def qk(h:X1 e k=true):∃l r p,e=.Subscript l r p/\k l r p=true:=by obtain⟨a,h⟩:=yD h;obtain⟨l,r,p,rfl⟩:∃l r p,e=.Subscript l r p:=Ie.elim (motive_1:=λe=>∃l r p,e=Ie l r p) e a λl r p=>⟨l,r,p,rfl⟩;exact⟨l,r,p,rfl,h⟩
def eName(e:Expr)(k:Str->Pos->Bool):Bool:=el e.ctorIdx 23 λh=>GF.elim (motive_1:=λ_=>Bool) e h k
def yr(h:eName e k=true):∃x p,e=.Name x p/\k x p=true:=by obtain⟨a,h⟩:=yD h;obtain⟨x,p,rfl⟩:∃x p,e=.Name x p:=GF.elim (motive_1:=λe=>∃x p,e=GF x p) e a λx p=>⟨x,p,rfl⟩;exact⟨x,p,rfl,h⟩
def QM(e:Expr)(k:List Expr->Pos->Bool):Bool:=el e.ctorIdx 24 λh=>Expr.List.elim (motive_1:=λ_=>Bool) e h k
def aY(h:QM e k=true):∃d p,e=.List d p/\k d p=true:=by obtain⟨a,h⟩:=yD h;obtain⟨d,p,rfl⟩:∃d p,e=.List d p:=Expr.List.elim (motive_1:=λe=>∃d p,e=Expr.List d p) e a λd p=>⟨d,p,rfl⟩;exact⟨d,p,rfl,h⟩
def aa(e:Expr)(k:List Expr->Nat->Pos->Bool):Bool:=el e.ctorIdx 25 λh=>HM (motive_1:=λ_=>Bool) e h k
def sG(h:aa e k=true):∃d n p,e=.Tuple d n p/\k d n p=true:=by obtain⟨a,h⟩:=yD h;obtain⟨d,n,p,rfl⟩:∃d n p,e=.Tuple d n p:=HM (motive_1:=λe=>∃d n p,e=Expr.Tuple d n p) e a λd n p=>⟨d,n,p,rfl⟩;exact⟨d,n,p,rfl,h⟩
def QN(e:Expr)(k:Option Expr->Option Expr->Option Expr->Pos->Bool):Bool:=el e.ctorIdx 26 λh=>Expr.Slice.elim (motive_1:=λ_=>Bool) e h k
def aZ(h:QN e k=true):∃x y z p,e=.Slice x y z p/\k x y z p=true:=by obtain⟨a,h⟩:=yD h;obtain⟨x,y,z,p,rfl⟩:∃x y z p,e=.Slice x y z p:=Expr.Slice.elim (motive_1:=λe=>∃x y z p,e=Expr.Slice x y z p) e a λx y z p=>⟨x,y,z,p,rfl⟩;exact⟨x,y,z,p,rfl,h⟩
def P6(e:Stmt)(k:Option Expr->Pos->Bool):Bool:=el e.ctorIdx 3 λh=>Stmt.Return.elim (motive_2:=λ_=>Bool) e h k
def Yz(h:P6 e k=true):∃o p,e=.Return o p/\k o p=true:=by obtain⟨a,h⟩:=yD h;obtain⟨o,p,rfl⟩:∃o p,e=.Return o p:=Stmt.Return.elim (motive_2:=λe=>∃o p,e=Stmt.Return o p) e a λo p=>⟨o,p,rfl⟩;exact⟨o,p,rfl,h⟩
def Yv(e:Stmt)(k:List Expr->Expr->Pos->Bool):Bool:=el e.ctorIdx 5 λh=>Stmt.Assign.elim (motive_2:=λ_=>Bool) e h k
def si(h:Yv e k=true):∃d v p,e=.Assign d v p/\k d v p=true:=by obtain⟨a,h⟩:=yD h;obtain⟨d,v,p,rfl⟩:∃d v p,e=.Assign d v p:=Stmt.Assign.elim (motive_2:=λe=>∃d v p,e=Stmt.Assign d v p) e a λd v p=>⟨d,v,p,rfl⟩;exact⟨d,v,p,rfl,h⟩
def P2(e:Stmt)(k:Expr->Operator->Expr->Pos->Bool):Bool:=el e.ctorIdx 7 λh=>Ig.elim (motive_2:=λ_=>Bool) e h k
def Yw(h:P2 e k=true):∃t o v p,e=.AugAssign t o v p/\k t o v p=true:=by obtain⟨a,h⟩:=yD h;obtain⟨t,o,v,p,rfl⟩:∃t o v p,e=.AugAssign t o v p:=Ig.elim (motive_2:=λe=>∃t o v p,e=Ig t o v p) e a λt o v p=>⟨t,o,v,p,rfl⟩;exact⟨t,o,v,p,rfl,h⟩
def P5(e:Stmt)(k:Expr->Expr->List Stmt->List Stmt->Pos->Bool):Bool:=el e.ctorIdx 9 λh=>Stmt.For.elim (motive_2:=λ_=>Bool) e h k
def Yy(h:P5 e k=true):∃t i b c p,e=.For t i b c p/\k t i b c p=true:=by obtain⟨a,h⟩:=yD h;obtain⟨t,i,b,c,p,rfl⟩:∃t i b c p,e=.For t i b c p:=Stmt.For.elim (motive_2:=λe=>∃t i b c p,e=Stmt.For t i b c p) e a λt i b c p=>⟨t,i,b,c,p,rfl⟩;exact⟨t,i,b,c,p,rfl,h⟩
def P7(e:Stmt)(k:Expr->List Stmt->List Stmt->Pos->Bool):Bool:=el e.ctorIdx 11 λh=>Stmt.While.elim (motive_2:=λ_=>Bool) e h k
def Y0(h:P7 e k=true):∃c b d p,e=.While c b d p/\k c b d p=true:=by obtain⟨a,h⟩:=yD h;obtain⟨c,b,d,p,rfl⟩:∃c b d p,e=.While c b d p:=Stmt.While.elim (motive_2:=λe=>∃c b d p,e=Stmt.While c b d p) e a λc b d p=>⟨c,b,d,p,rfl⟩;exact⟨c,b,d,p,rfl,h⟩
def sIf(e:Stmt)(k:Expr->List Stmt->List Stmt->Pos->Bool):Bool:=el e.ctorIdx 12 λh=>Stmt.If.elim (motive_2:=λ_=>Bool) e h k
def Vg(h:sIf e k=true):∃c a b p,e=.If c a b p/\k c a b p=true:=by obtain⟨f,h⟩:=yD h;obtain⟨c,a,b,p,rfl⟩:∃c a b p,e=.If c a b p:=Stmt.If.elim (motive_2:=λe=>∃c a b p,e=Stmt.If c a b p) e f λc a b p=>⟨c,a,b,p,rfl⟩;exact⟨c,a,b,p,rfl,h⟩
def sRs(e:Stmt)(k:Option Expr->Option Expr->Pos->Bool):Bool:=el e.ctorIdx 16 λh=>Stmt.Raise.elim (motive_2:=λ_=>Bool) e h k
def P4(e:Stmt)(k:Expr->Pos->Bool):Bool:=el e.ctorIdx 24 λh=>Stmt.Expr.elim (motive_2:=λ_=>Bool) e h k
def Yx(h:P4 e k=true):∃x p,e=.Expr x p/\k x p=true:=by obtain⟨a,h⟩:=yD h;obtain⟨x,p,rfl⟩:∃x p,e=.Expr x p:=Stmt.Expr.elim (motive_2:=λe=>∃x p,e=Stmt.Expr x p) e a λx p=>⟨x,p,rfl⟩;exact⟨x,p,rfl,h⟩
noncomputable def l1{a:Type}(b:List a)(k:a->Bool):Bool:=match b with
 |[x]=>k x
 |_=>false
def yW(h:l1 xs k=true):∃x,xs=[x]/\k x=true:=by
 cases xs with
 |nil=>cases h
 |cons x xs=>cases xs with
  |nil=>exact⟨x,rfl,h⟩
  |cons _ _=>cases h
noncomputable def lc{a:Type}(b:List a)(k:a->List a->Bool):Bool:=match b with
 |x::b=>k x b
 |[]=>false
def xK(h:lc xs k=true):∃x d,xs=x::d/\k x d=true:=by
 cases xs with
 |nil=>cases h
 |cons x d=>exact⟨x,d,rfl,h⟩
def SS{xs}{k:α->α->Bool}(h:(lc xs λx d=>l1 d (k x))=true):∃x y,xs=[x,y]/\k x y=true:=by obtain⟨x,d,rfl,h⟩:=xK h;obtain⟨y,rfl,h⟩:=yW h;exact⟨x,y,rfl,h⟩
noncomputable def o1{a:Type}(x:Option a)(k:a->Bool):Bool:=match x with
 |some x=>k x
 |none=>false
def Zw(h:o1 x k=true):∃y,x=some y/\k y=true:=by
 cases x with
 |none=>cases h
 |some x=>exact⟨x,rfl,h⟩
def yY(h:(a&&b)=true):a=true/\b=true:=by
 cases a with
 |false=>cases h
 |true=>exact⟨rfl,h⟩
def eOp(u:UnaryOp)(e:Expr)(k:Expr->Bool):Bool:=eUn e λo x _=>decide (o=u)&&k x
def mL(h:eOp u e k=true):∃x p,e=.UnaryOp u x p/\k x=true:=by obtain⟨o,x,p,rfl,b⟩:=X2 h;obtain⟨c,a⟩:=yY b;cases of_decide_eq_true c;exact⟨x,p,rfl,a⟩
def eBl(u:BoolOp)(e:Expr)(k:Expr->List Expr->Bool):Bool:=UD e λo x _=>decide (o=u)&&lc x k
def mK(h:eBl u e k=true):∃x d p,e=.BoolOp u (x::d) p/\k x d=true:=by obtain⟨o,d,p,rfl,c⟩:=dH h;obtain⟨f,b⟩:=yY c;cases of_decide_eq_true f;obtain⟨x,y,rfl,a⟩:=xK b;exact⟨x,y,p,rfl,a⟩
def eC1(e:Expr)(k:Expr->CmpOp->Expr->Bool):Bool:=U8 e λl b a _=>l1 b λo=>l1 a λr=>k l o r
def fK(h:eC1 e k=true):∃l o r p,e=.Compare l [o] [r] p/\k l o r=true:=by obtain⟨l,b,a,p,rfl,h⟩:=kD h;obtain⟨o,rfl,h⟩:=yW h;obtain⟨r,rfl,h⟩:=yW h;exact⟨l,o,r,p,rfl,h⟩
def eC2(e:Expr)(k:Expr->CmpOp->CmpOp->Expr->Expr->Bool):Bool:=U8 e λl b a _=>lc b λo b=>l1 b λf=>lc a λr a=>l1 a λc=>k l o f r c
def fL(h:eC2 e k=true):∃l o u r d p,e=.Compare l [o,u] [r,d] p/\k l o u r d=true:=by obtain⟨l,b,a,p,rfl,h⟩:=kD h;obtain⟨o,b,rfl,h⟩:=xK h;obtain⟨u,rfl,h⟩:=yW h;obtain⟨r,a,rfl,h⟩:=xK h;obtain⟨d,rfl,h⟩:=yW h;exact⟨l,o,u,r,d,p,rfl,h⟩
def eD0(e:Expr):Bool:=QK e λk v _=>k.isEmpty&&v.isEmpty
def Xy(h:eD0 e=true):∃p,e=.Dict [] [] p:=by obtain⟨k,v,p,rfl,h⟩:=aW h;obtain⟨b,a⟩:=yY h;rw[A9.mp b,A9.mp a];exact⟨p,rfl⟩
def eCN(e:Expr)(k:Str->List Expr->Bool):Bool:=aU e λf a b _=>b.isEmpty&&eName f λx _=>k x a
def wN(h:eCN e k=true):∃x p u d,e=.Call (.Name x p) u [] d/\k x u=true:=by obtain⟨f,u,b,d,rfl,h⟩:=nB h;obtain⟨a,h⟩:=yY h;obtain⟨x,p,rfl,h⟩:=yr h;rw[A9.mp a];exact⟨x,p,u,d,rfl,h⟩
def eMt(e:Expr)(k:Expr->Str->Pos->Expr->Pos->Bool):Bool:=aU e λf a b c=>b.isEmpty&&QI f λo x g=>l1 a λy=>k o x g y c
def Xz(h:eMt e k=true):∃d x u y w,e=.Call (.Attribute d x u) [y] [] w/\k d x u y w=true:=by obtain⟨f,b,c,p,rfl,h⟩:=nB h;obtain⟨a,h⟩:=yY h;obtain⟨d,x,u,rfl,h⟩:=aS h;obtain⟨y,rfl,h⟩:=yW h;rw[A9.mp a];exact⟨d,x,u,y,p,rfl,h⟩
def eSS(e:Expr)(k:Expr->Option Expr->Option Expr->Option Expr->Bool):Bool:=X1 e λl r _=>QN r λx y z _=>k l x y z
def X0(h:eSS e k=true):∃l x y z p d,e=.Subscript l (.Slice x y z p) d/\k l x y z=true:=by obtain⟨l,r,d,rfl,h⟩:=qk h;obtain⟨x,y,z,p,rfl,h⟩:=aZ h;exact⟨l,x,y,z,p,d,rfl,h⟩
noncomputable def gC(g:DC)(k:Expr->Expr->List Expr->Bool):Bool:=decide (g.is_async=0)&&k g.target g.iter g.ifs
def rG(h:gC g k=true):∃t i f,g=⟨t,i,f,0⟩/\k t i f=true:=by obtain⟨t,i,f,a⟩:=g;obtain⟨b,h⟩:=yY h;have b:a=0:=of_decide_eq_true b;subst b;exact⟨t,i,f,rfl,h⟩
def eG1(e:Expr)(k:Expr->Expr->Expr->List Expr->Scope->Bool):Bool:=U6 e λx a s _=>l1 a λg=>gC g λt i f=>k x t i f s
def fM(h:eG1 e k=true):∃x t i f d p,e=.ListComp x [⟨t,i,f,0⟩] d p/\k x t i f d=true:=by obtain⟨x,j,d,p,rfl,c⟩:=kC h;obtain⟨g,rfl,b⟩:=yW c;obtain⟨t,i,f,rfl,a⟩:=rG b;exact⟨x,t,i,f,d,p,rfl,a⟩
def eG2(e:Expr)(k:Expr->Expr->Expr->List Expr->Expr->Expr->List Expr->Scope->Bool):Bool:=U6 e λx a s _=>lc a λg a=>l1 a λh=>gC g λt i f=>gC h λb c j=>k x t i f b c j s
def fN(h:eG2 e k=true):∃x t i f d w F u p,e=.ListComp x [⟨t,i,f,0⟩,⟨d,w,F,0⟩] u p/\k x t i f d w F u=true:=by obtain⟨x,m,u,p,rfl,l⟩:=kC h;obtain⟨g,m,rfl,j⟩:=xK l;obtain⟨n,rfl,c⟩:=yW j;obtain⟨t,i,f,rfl,b⟩:=rG c;obtain⟨d,w,F,rfl,a⟩:=rG b;exact⟨x,t,i,f,d,w,F,u,p,rfl,a⟩
end M
end
section
namespace L2
open PySem PySem.Spec PyProof.Rows
noncomputable def vp(a:List (Str × Addr)):List (Str × Gn)->List (Str × Addr)->List (Str × Addr)
 |[],acc=>acc
 |(n,k)::r,acc=>if k == .free then (match a.lookup n with|some c=>vp a r ((n,c)::acc)|none=>vp a r acc) else vp a r acc
theorem tQ:∀d e,(∀x∈d,x.2=.free->∃c,env.cells.lookup x.1=some c) ->
 (forIn d e λx w =>(if x.2 == .free then do let a <-cellOf env x.1;pure (C4 ((x.1,a)::w)) else pure (C4 w):Sem (ForInStep (List (Str × Addr)))))=pure (vp env.cells d e)
 |[],e,_=>rfl
 |(n,k)::r,e,h=>by
  rw[HN];dsimp only;unfold vp;by_cases hk:(k == Ba)=true
  . have u:k=.free:=by simpa using hk
    obtain⟨c,i⟩:=h (n,k) AO u;have f:env.cells.lookup n=some c:=i;have b:cellOf env n=pure c:=by unfold cellOf;rw[f]
    rw[if_pos hk,if_pos hk,b,f,FV,FV];exact tQ r _ λx g=>h x (AF _ g)
  . rw[if_neg hk,if_neg hk,FV]
    exact tQ r _ λx g=>h x (AF _ g)
def we(h:∀x∈scope.names,x.2=.free->∃c,env.cells.lookup x.1=some c):closureFor scope env=pure (vp env.cells scope.names []):=by
 have e:=tQ (env:=env) scope.names [] h;show (do let cs <-forIn scope.names [] _;pure cs)=_
 refine E8 ?_ e;refine E8 (bind_pure _) ?_;congr 1
theorem sC:∀w u,(∀x c,u.lookup x=some c->cells.lookup x=some c)->∀x c,(vp cells w u).lookup x=some c->cells.lookup x=some c
 |[],u,h,x,c,e=>h x c e
 |(n,k)::r,u,h,x,c,e=>by
  unfold vp at e;by_cases hk:(k == Ba)=true
  . rw[if_pos hk]at e
    cases hc:cells.lookup n with
    |none=>rw[hc]at e;exact sC r u h x c e
    |some d=>
     rw[hc]at e;refine sC r _ (λy z q=>?_) x c e;rw[AA]at q;cases hy:(y == n) with
     |true=>rw[hy]at q;have F:y=n:=by simpa using hy
            cases q;rw[F];exact hc
     |false=>rw[hy]at q;exact h y z q
  . rw[if_neg hk]at e;exact sC r u h x c e
theorem w4:∀w u x c,cells.lookup x=some c->(u.lookup x=some c\/(x,Ba)∈w)->(∀y d,u.lookup y=some d->cells.lookup y=some d)->(vp cells w u).lookup x=some c
 |[],u,x,c,_,h,_=>by
  rcases h with h|h
  . exact h
  . cases h
 |(n,k)::r,u,x,c,hc,h,ha=>by
  unfold vp;by_cases hk:(k == Ba)=true
  . rw[if_pos hk]
    cases hn:cells.lookup n with
    |none=>
     refine w4 r u x c hc ?_ ha;rcases h with h|h
     . exact .inl h
     . rcases Ao.mp h with e|e
       . cases e;rw[hn]at hc;cases hc
       . exact .inr e
    |some d=>
     have F:∀y z,((n,d)::u).lookup y=some z->cells.lookup y=some z:=λy z q=>by
      rw[AA]at q;cases hy:(y == n) with
      |true=>rw[hy]at q;have a:y=n:=by simpa using hy
             cases q;rw[a];exact hn
      |false=>rw[hy]at q;exact ha y z q
     by_cases hx:x=n
     . subst hx
       refine w4 r _ x c hc (.inl ?_) F;rw[hn]at hc;cases hc;simp[AA]
     . refine w4 r _ x c hc ?_ F
       rcases h with h|h
       . refine .inl ?_
         have:(x == n)=false:=by simpa using hx
         rw[AA,this];exact h
       . rcases Ao.mp h with e|e
         . cases e;exact absurd rfl hx
         . exact .inr e
  . rw[if_neg hk]
    refine w4 r u x c hc ?_ ha;rcases h with h|h
    . exact .inl h
    . rcases Ao.mp h with e|e
      . cases e;exact absurd (by decide) hk
      . exact .inr e
theorem tM:∀d n e,DR n d e=DR n d []++e
 |[],_,_=>rfl
 |(x,k)::r,n,e=>by
  unfold DR;split
  . rw[tM r (n+1) ((x,n)::e),tM r (n+1) [(x,n)],Aq];rfl
  . exact tM r n e
theorem mJ:∀names n {x} {c},(x,c)∈DR n names []->(x,BH)∈names/\n<=c
 |[],_,_,_,h=>by cases h
 |(y,k)::r,n,x,c,h=>by
  unfold DR at h;split at h
  . rename_i hk
    rw[tM]at h;rcases AS.mp h with h|h
    . obtain⟨d,e⟩:=mJ r (n+1) h
      exact⟨AF _ d,⋯⟩
    . cases Al.mp h
      have:k=.cell:=by simpa using hk
      rw[this];exact⟨AO,Ad _⟩
  . obtain⟨d,e⟩:=mJ r n h
    exact⟨AF _ d,e⟩
theorem mI:∀names n {x},(x,BH)∈names->∃c,(x,c)∈DR n names []
 |[],_,_,h=>by cases h
 |(y,k)::r,n,x,h=>by
  unfold DR;rcases Ao.mp h with e|h
  . cases e
    rw[if_pos (by rfl),tM]
    exact⟨n,AY _ AO⟩
  . split
    . obtain⟨c,d⟩:=mI r (n+1) h
      rw[tM];exact⟨c,Bp _ d⟩
    . exact mI r n h
def Zi{l:List (Str × Addr)}:(x,c)∈l->∃d,l.lookup x=some d:=by
 induction l with
 |nil=>intro h;cases h
 |cons p r i=>
  intro h;rw[AA];cases hx:x == p.1 with
  |true=>exact⟨_,rfl⟩
  |false=>
   rcases Ao.mp h with e|h
   . rw[<-e]at hx;simp at hx
   . exact i h
def iS{l m:List (Str × Addr)}{x:Str}:(l++m).lookup x=match l.lookup x with|some c=>some c|none=>m.lookup x:=by
 induction l with
 |nil=>rfl
 |cons p r i=>
  rw[Dn,AA,AA];cases hx:x == p.1 with
  |true=>rfl
  |false=>exact i
noncomputable def wJ(s:Scope)(C:Addr):List (Str × Addr):=DR (C+1) s.names []
def VA(h:Heap)sc:∃d,CellsOk d (h.objs.size+1) (wJ sc h.objs.size):=by
 have o:=cellsFrom_ok sc.names (h.push {cls:=.type "dict",data:=.dict #[]}) (h.objs.size+1) [] ⟨λ_ _ a=>(nomatch a),G5⟩ (by rw[BL];exact Ad _)
 rw[BL]at o;exact⟨_,o⟩
abbrev Cx.comp(X:Cx)(N:List Str)(b:Scope)(C:Addr)(s:Shared)(H:Hp)(e:List Addr):Cx:=
 {X with N:=N,l:=s,r:=H,a:=compEnvC b (wJ b C++vp X.a.cells b.names []) C X.a,k:=X.j,n:=e,m:=λx=>b.names.any λp=>decide (p=(x,BH)),q:=[],h:=λ_ _=>False}
structure zd(X:Cx)(N:List Str)(sc:Scope)(fr:List (Option Nat)):Prop where
 b:sc.kind=.function
 e:∀x,(x,BH)∈sc.names->(x,Ba)∈sc.names->False
 a:∀x∈sc.names,x.2=.local->sc.names.lookup x.1=some .local
 d:∀x∈sc.names,x.2=.free->X.a.kindOf x.1=some .cell\/X.a.kindOf x.1=some .free
 g:fr.length=N.length
 f:∀(i j:Nat) (x:Str),N[i]?=some x->fr[i]?=some (some j)->X.N[j]?=some x/\(x,Ba)∈sc.names
 h:∀x,sc.names.lookup x=some .local->(x,Ba)∈sc.names->False
noncomputable def zL(f:List (Option Nat))(a:St):St:=f.map λo=>match o with|some j=>(a[j]?).join|none=>none
def lC(h:(relabel sc env).names.lookup x=some .cell\/(relabel sc env).names.lookup x=some .free):(x,Ba)∈sc.names\/(x,BH)∈sc.names:=by
 have a:∀(names:List (Str × Gn)),((names.map λ(n,k)=>if (k == Ba&&env.scope.kind == .function&&env.kindOf n == some .cell) then (n,BH) else (n,k)).lookup x=some .cell \/
  (names.map λ(n,k)=>if (k == Ba&&env.scope.kind == .function&&env.kindOf n == some .cell) then (n,BH) else (n,k)).lookup x=some .free)->(x,Ba)∈names\/(x,BH)∈names:=by
  intro names;induction names with
  |nil=>intro h;simp at h
  |cons p r i=>
   obtain⟨n,k⟩:=p;intro h;rw[AG]at h;dsimp only at h;by_cases hx:x=n
   . subst hx
     by_cases hf:k=.free
     . subst hf;exact .inl AO
     . have c:(k == Ba)=false:=by simpa using hf
       rw[c]at h;simp only[En,As,if_false,AA,beq_self_eq_true]at h;rcases h with h|h
       . cases h;exact .inr AO
       . cases h;exact absurd rfl hf
   . have b:(x == n)=false:=by simpa using hx
     have:=i (by split at h<;>simpa only[AA,b] using h)
     exact this.elim (λz=>.inl (AF _ z)) λz=>.inr (AF _ z)
 exact a sc.names h
def vj(h:sc.names.lookup x=some .cell):(relabel sc env).names.lookup x=some .cell:=by
 have a:∀(names:List (Str × Gn)),names.lookup x=some .cell->(names.map λ(n,k)=>if (k == Ba&&env.scope.kind == .function&&env.kindOf n == some .cell) then (n,BH) else (n,k)).lookup x=some .cell:=by
  intro names;induction names with
  |nil=>intro h;simp at h
  |cons p r i=>
   obtain⟨n,k⟩:=p;intro h;rw[AG];dsimp only;cases hx:(x == n) with
   |true=>
    rw[AA,hx]at h;cases h;have e:(BH == Ba)=false:=rfl;rw[e];simp only[En,As,if_false,AA,hx]
   |false=>
    rw[AA,hx]at h;have:=i h;split<;>simpa only[AA,hx] using this
 exact a sc.names h
def sZ(b:∀y∈sc.names,y.2=.local->sc.names.lookup y.1=some .local)(h:sc.names.lookup x=some .free) :
 (relabel sc env).names.lookup x=some .cell\/(relabel sc env).names.lookup x=some .free:=by
 have a:∀(names:List (Str × Gn)),names.lookup x=some .free->((names.map λ(n,k)=>if (k == Ba&&env.scope.kind == .function&&env.kindOf n == some .cell) then (n,BH) else (n,k)).lookup x=some .cell \/
  (names.map λ(n,k)=>if (k == Ba&&env.scope.kind == .function&&env.kindOf n == some .cell) then (n,BH) else (n,k)).lookup x=some .free):=by
  intro names;induction names with
  |nil=>intro h;simp at h
  |cons p r i=>
   obtain⟨n,k⟩:=p;intro h;rw[AG];dsimp only;cases hx:(x == n) with
   |true=>
    rw[AA,hx]at h;cases h;split
    . left;simp only[AA,hx]
    . right;simp only[AA,hx]
   |false=>
    rw[AA,hx]at h;have:=i h;split<;>simpa only[AA,hx] using this
 exact a sc.names h
theorem zd.cells(S:zd X N sc fr)(o:X.Ok):∀x∈sc.names,x.2=.free->∃c,X.a.cells.lookup x.1=some c:=λx h b=>o.J x.1 (S.d x h b)
def wz(h:(wJ sc C++vp cells sc.names []).lookup x=some c):((wJ sc C).lookup x=some c)\/((wJ sc C).lookup x=none/\cells.lookup x=some c):=by
 rw[iS]at h;cases ho:(wJ sc C).lookup x with
 |some d=>rw[ho]at h;exact .inl h
 |none=>rw[ho]at h;exact .inr ⟨rfl,sC sc.names [] (λx c e=>by simp at e) x c h⟩
def pW(h:(wJ sc C).lookup x=some c):@LE.le Nat _ (C+1) c:=(mJ sc.names (C+1) (mem_of_lookup h)).2
def Z0(S:zd X N sc fr)(h:(x,Ba)∈sc.names):(wJ sc C).lookup x=none:=by
 cases ho:(wJ sc C).lookup x with
 |none=>rfl
 |some d=>exact(S.e x (mJ sc.names (C+1) (mem_of_lookup ho)).1 h).elim
def Xr(I:Inv X pins σ H s)(S:zd X N sc fr)(A:∀b∈fp,wI X pins H b)(q:∀b∈fp,b<s.heap.objs.size):(X.comp N sc s.heap.objs.size s H fp).Ok:=by
 obtain⟨T,t⟩:=VA s.heap sc;have n:∀x c,X.a.cells.lookup x=some c->@LT.lt Nat _ c s.heap.objs.size:=λx c e=>by obtain⟨v,z⟩:=I.F x c e;exact z.lt
 refine⟨I.y.u,S.b,I.y.s,I.y.G,Ad _,λx y c l k=>?_,λx h=>?_,λx c h e=>?_,I.y.g,I.y.m,.inl rfl,λb i=>?_,λb o e=>I.bs b o e,?_,λb o e i=>?_,λb i z=>?_,I.stack,I.eO⟩
 . rcases wz l with l|⟨_,l⟩<;>rcases wz k with k|⟨_,k⟩
   . exact name_of_addr t.apart (mem_of_lookup l) (mem_of_lookup k)
   . exact absurd (AK (n _ _ k) (Au (CZ _) (pW l))) (BX _)
   . exact absurd (AK (n _ _ l) (Au (CZ _) (pW k))) (BX _)
   . exact I.y.L x y c l k
 . show ∃c,(wJ sc s.heap.objs.size++vp X.a.cells sc.names []).lookup x=some c
   rw[iS];rcases lC h with m|m
   . obtain⟨c,r⟩:=S.cells I.y (x,.free) m rfl
     rw[Z0 S m];exact⟨c,w4 sc.names [] x c r (.inr m) (λy d e=>by simp at e)⟩
   . obtain⟨c,r⟩:=mI sc.names (s.heap.objs.size+1) m
     obtain⟨d,C⟩:=Zi r;have f:(wJ sc s.heap.objs.size).lookup x=some d:=C;rw[f];exact⟨d,rfl⟩
 . have m:(x,BH)∈sc.names:=by obtain⟨p,Q,R⟩:=CP.mp h;rw[<-of_decide_eq_true R];exact Q
   rcases wz e with e|⟨e,_⟩
   . exact Au (CZ _) (pW e)
   . obtain⟨V,r⟩:=mI sc.names (s.heap.objs.size+1) m
     obtain⟨d,C⟩:=Zi r;have f:(wJ sc s.heap.objs.size).lookup x=some d:=C;rw[f]at e;cases e
 . obtain⟨P,J,E,j,D,K⟩:=A b i
   refine⟨Ay (q b i),λx c e=>?_⟩;rcases wz e with e|⟨_,e⟩
   . exact λz=>absurd (AK (z▸q b i) (Au (CZ _) (pW e))) (BX _)
   . exact D x c e
 . exact Au I.y.B I.sz
 . obtain⟨P,J,E,j,D,K⟩:=A b i
   rcases j with j|j
   . exact I.y.w b o e j
   . exact absurd (AK (Am e) (Au I.y.B j)) (BX _)
 . obtain⟨P,J,E,j,D,K⟩:=A b i
   rcases Ao.mp (I.gK b z) with e|e
   . exact J e
   . exact E e
def qh(I:Inv X pins σ H s)(S:zd X N sc fr)(hf:∀b∈fp,wI X pins H b)(R:∀b∈fp,b<s.heap.objs.size)
 (Q:h'.Ns s.heap.objs.size (λ_=>none)) (k:∀b o,s.heap.get? b=some o->h'.get? b=some o) (B:∀x c,(wJ sc s.heap.objs.size).lookup x=some c->h'.IsCell c none):Inv (X.comp N sc s.heap.objs.size s H fp) [] (zL fr σ) H {s with heap:=h',toks:=tk}:=by
 refine⟨Xr I S hf R,rfl,I.C,Un.kept k,⟨_,Q,λi x v e1 e2 A=>?_⟩,λx c e=>?_,I.j.fresh (Ad _),λx c e=>?_,λp W=>(by simp at W),I.j.kept k,?_⟩
 . have t:(fr.map λo=>match o with|some j=>(σ[j]?).join|none=>none)[i]?=some (some v):=e2
   rw[An]at t;cases hfi:fr[i]? with
   |none=>rw[hfi]at t;cases t
   |some o=>
    rw[hfi]at t;cases o with
    |none=>cases t
    |some j=>
     obtain⟨O,K⟩:=S.f i j x e1 hfi;have V:σ[j]?=some (some v):=by
      have q:(σ[j]?).join=some v:=AL t;cases hσ:σ[j]? with
      |none=>rw[hσ]at q;cases q
      |some w=>rw[hσ]at q;cases w with
       |none=>cases q
       |some Z=>have:Z=v:=AL q
                rw[this]
     have G:=S.d (x,.free) K rfl;obtain⟨m,hn,Y⟩:=I.M;obtain⟨u,r,l⟩:=Y j x v O V (G.elim (λz=>.inr (.inl z)) λz=>.inr (.inr z));refine⟨u,r,?_⟩;rcases l with⟨E,_⟩|⟨_,c,hc,z⟩
     . rcases G with G|G<;>(rw[G]at E;cases E)
     . refine .inr ⟨?_,c,(by show (wJ sc s.heap.objs.size++vp X.a.cells sc.names []).lookup x=some c;rw[iS,Z0 S K];exact w4 sc.names [] x c hc (.inr K) (λy d e=>by simp at e)),?_⟩
       . rcases A with A|A|A
         .
           exfalso;have D:sc.names.lookup x=some .local:=by
            have L:∀(names:List (Str × Gn)),(names.map λ(n,k)=>if (k == Ba&&X.a.scope.kind == .function&&X.a.kindOf n == some .cell) then (n,BH) else (n,k)).lookup x=some .local->names.lookup x=some .local:=by
             intro names;induction names with
             |nil=>intro h;simp at h
             |cons p r U=>
              obtain⟨n,kk⟩:=p;intro h;rw[AG]at h;dsimp only at h;cases hx:(x == n) with
              |true=>
               split at h
               . simp only[AA,hx]at h;cases h
               . simp only[AA,hx]at h ⊢;exact h
              |false=>
               rw[AA,hx];refine U ?_;split at h<;>simpa only[AA,hx] using h
            exact L sc.names A
           exact S.h x D K
         . exact .inl A
         . exact .inr A
       . obtain⟨o,P,T⟩:=z
         exact⟨o,k _ _ P,T⟩
 . rcases wz e with e|⟨_,e⟩
   . exact⟨none,B x c e⟩
   . obtain⟨v,o,P,T⟩:=I.F x c e
     exact⟨v,o,k _ _ P,T⟩
 . rcases wz e with e|⟨_,e⟩
   . exact I.j.fresh (Au (CZ _) (pW e))
   . exact I.J x c e
 . show (fr.map _).length=N.length
   rw[Ac];exact S.g
def lM:List TT->TT
 |[]=>λ_ H Q=>Q true H
 |t::ts=>λd H Q=>t d H λc F=>if c=true then lM ts d F Q else Q false F
inductive PTs(X:Cx):List Expr->List TT->Prop
 |b:PTs X [] []
 |a {c:Expr} {cs:List Expr} {t:TT} {ts:List TT}:PT X c t->PTs X cs ts->PTs X (c::cs) (t::ts)
theorem rl{X:Cx}(h:Q false s):∀d:List Expr,
 wpAny (model X.f X.w) X.A (forIn d false λc r=>if r=true then do let ok <-isTrue c X.a (eval c X.a);pure (C4 ok) else pure (C4 r)) Q E s
 |[]=>Ab h
 |c::d=>by rw[HN];exact dm (Ab (rl h d))
theorem PTs.run:∀{cs} {ts},PTs X cs ts->∀{pins} {s} {σ} {H} {Q},Inv X pins σ H s->lM ts σ H Q ->
 wpAny (model X.f X.w) X.A (forIn cs true λc r=>if r=true then do let ok <-isTrue c X.a (eval c X.a);pure (C4 ok) else pure (C4 r)) (TP X pins σ Q) X.h s
 |_,_,.b,pins,s,σ,H,Q,I,h=>Ab ⟨H,I,h⟩
 |_,_,.a hc hs,pins,s,σ,H,Q,I,h=>by
  rw[HN];refine dm (dm (thn (hc pins s σ H _ I h) λc d ⟨H1,I1,q1⟩=>Ab ?_));cases c with
  |true=>exact hs.run I1 q1
  |false=>exact rl ⟨H1,I1,q1⟩ _
abbrev TB:=(St->Hp->Prop)->St->Hp->Prop
def PB(X:Cx)(B:Sem PUnit)(t:TB):Prop:=
 ∀(p:List (Addr × Obj)) (s:Shared) (σ:St) (H:Hp) (Nx:St->Hp->Prop),Inv X p σ H s->t Nx σ H->wpAny (model X.f X.w) X.A B (λ_ b=>∃a C,Inv X p a C b/\Nx a C) X.h s
def tTB(t:List TT)(f:TB):TS:=λD b H=>lM t b H λc A=>if c=true then f D.a b A else D.a b A
def sX(J:It)(g:TG)(t:TS)(D:Ends)(h:St)(H:Hp):Prop:=∃W:Nat->Nat->St->Hp->Prop,(∃m,W 0 m h H)/\∀i m h H,W i m h H ->
 (J.a i H/\D.a h H)\/(J.c i H/\∃N:St->Hp->Prop,(∀f A,N f A->∃k,k<m/\W (i+1) k f A)/\∀x A,J.b i H x A->g x h A λj B=>t {D with a:=N,c:=N,b:=D.a} j B)
def w5{X:Cx}{M:Expr}{y:List DC}{S:Scope}{C:Pos}{d:Nat}{tg:Expr}{p:Pos}{ifs:List Expr}{B:Sem PUnit}{U:Value}{it:Addr}{Y:List Addr}{tn:Nat->Heap->Prop}{J:It}{g:TG}{ts:List TT}{tb:TB}{D:Ends}
 {j:List (Addr × Obj)} {σ:St} {H:Hp} {s:Shared} {R:Result->Shared->Prop}
 (heq:CD (.ListComp M y S C) d (.ref it) U X.a=(do
  standAt p
  match <-pyNext (.ref it) with
  |none=>pure (.done .next)
  |some v=>
   Bl tg (.ref it) v
   assign tg X.a v
   let mut ok:=true
   for c in ifs do
    if ok then ok <-isTrue c X.a (eval c X.a)
   if ok then B
   again (.compLoop (.ListComp M y S C) d (.ref it) U X.a)))
 (hx:X.h=λ_ _=>False) (hc:X.g=true) (T:Turn X.f X.w X.K tg J Y it tn) (hg:PG X tg g) (ht:PTs X ifs ts) (Z:PB X B tb)
 (I:Inv X j σ H s) (st:tn 0 s.heap) (f:∀b∈Y,wI X j H b) (h:sX J g (tTB ts tb) D σ H)
 (hR:∀k G s',Inv X j k G s'->D.a k G->(∀b∈Y,G b=none)->R (.ok .next) s') :
 codeAny (model X.f X.w) X.A (.compLoop (.ListComp M y S C) d (.ref it) U X.a) R s:=by
 refine byG λpi l=>?_;obtain⟨W,⟨m0,w0⟩,turn⟩:=h;refine l ?_;have V:∀{G:Hp},(∀b∈Y,G b=none)->∀b∈Y,wI X j G b:=λhn b Z=>⟨hn b Z,(f b Z).2⟩;have no:∀{α:Type} {t:Sem α} {Q:α->Shared->Prop} {E':Value->Shared->Prop} {s:Shared},wpAny (model X.f X.w) X.A t Q X.h s->wpAny (model X.f X.w) X.A t Q E' s:=λh=>B0 h (λ_ _ q=>q) λ_ _ z=>by rw[hx]at z;exact z.elim
 refine codeAny_loop rfl (λn s'=>∃i k G,Inv X j k G s'/\tn i s'.heap/\(∀b∈Y,G b=none)/\W i n k G) (λn s3 hI=>?_) m0 ⟨0,σ,H,I,st,λb Z=>(f b Z).1,w0⟩;refine byG λpi l=>?_;obtain⟨i,P,H3,I3,st3,fr3,w3⟩:=hI;refine l ?_;show wpAny _ _ ((CD (.ListComp M y S C) d (.ref it) U X.a).onRaise (λx=>do HP x X.a;theTreesLotGoes x)) _ _ s3
 refine wpAny_noted ?_;rw[heq];refine dm (BY (dm ?_));rcases turn i n P H3 w3 with⟨stop,qn⟩|⟨go,N,hN,step⟩
 . refine no (thn (T.e X rfl rfl rfl hc i j s3 P H3 X.h I3 (V fr3) st3 stop) λr s4 F=>?_)
   obtain⟨hr,I4⟩:=F;subst hr;exact Ab (hR P H3 s4 I4 qn fr3)
 . refine no (thn (T.f X rfl rfl rfl hc i j s3 P H3 X.h I3 (V fr3) st3 go) λr s4 F=>?_)
   obtain⟨u,hr,h4⟩:=F;subst hr;refine dm (no (thn h4 λ_ s5 F=>?_));refine byG λpi l=>?_;obtain⟨x,H5,I5,r5,y5,st5,fr5⟩:=F;refine l ?_;have I5':=I5.pinned (V fr5) (T.c _ _ st5);refine dm (no (thn (hg _ s5 P H5 x u _ I5' r5 (step x H5 y5)) λ_ s6 F=>?_));refine byG λpi l=>?_;obtain⟨σ6,H6,I6,q6⟩:=F;refine l ?_;refine dm (no (thn (ht.run I6 q6) λok s7 F=>?_));obtain⟨H7,I7,q7⟩:=F;have E:∀{L:St} {H7:Hp} {s7:Shared},Inv X (j++rO Y s5.heap) L H7 s7->N L H7->∃m,m<n/\∃i k G,Inv X j k G s7/\tn i s7.heap/\(∀b∈Y,G b=none)/\W i m k G:=λ{L H7 s7} I7 n7=>by obtain⟨m',hm,w7⟩:=hN L H7 n7;refine⟨m',hm,i+1,L,H7,I7.uY,T.a _ _ _ st5 λb Z o e=>(I7.O (b,o) (AY _ (AY _ (xM Z e)))).1,λb Z=>?_,w7⟩;obtain⟨o,e,d⟩:=T.c _ _ st5 b Z;exact(I7.O (b,o) (AY _ (AY _ (xM Z e)))).2.1
   cases ok with
   |false=>exact Ab ⟨rfl,E I7 q7⟩
   |true=>exact dm (no (thn (Z _ s7 σ6 H7 N I7 q7) λ_ s8 ⟨σ8,H8,I8,n8⟩=>Ab ⟨rfl,E I8 n8⟩))
def rk(a:Addr)(t:TE):TB:=λN f H=>t f H λy A=>∃c,A a=some (.b c)/\c.length<AI/\N f (upd A a (.b (c++[y])))
def qQ(l:PE X elt te):PB X (do let _ <-call (.builtin "list.append") [.ref acc,<-eval elt X.a]) (rk acc te):=by intro p s b H N I h;refine dm (thn (l p s b H _ I h) λu g z=>?_);obtain⟨y,D,B,r,f,k,j,q⟩:=z;refine dm (thn (nL p g b D (.c acc) [y] (.ref acc) [u] (λ_ E=>N b E) B rfl (.cons r .nil) ⟨acc,f,y,rfl,rfl,k,j,q⟩) λ_ m z=>?_);obtain⟨_,C,A,_,i⟩:=z;exact Ab ⟨b,C,A,i⟩
def uR(i:List (Option Nat))(w:TI)(g:TG)(t:List TT)(h:Addr->TB)(f:St)(H:Hp)(Q:VK):Prop:=
 w f H λJ A=>∀a,A a=none->sX J g (tTB t (h a)) ⟨λ_ B=>Q (.c a) B,λ_ _=>False,λ_ _=>False,λ_ _=>False⟩ (zL i f) (upd A a (.b []))
section
variable {X:Cx}{pins:List (Addr × Obj)}{σ:St}{H:Hp}{s:Shared}{N:List Str}{csc:Scope}{fr:List (Option Nat)}{elt tg iter:Expr}{ifs:List Expr}{rest:List DC}{cpos:Pos}{wi:TI}{g:TG}{ts:List TT}{tb:Addr->TB}
def oD{a:Env}{Q:Env->Shared->Prop}
 (i:∀d:Heap,d.Ns s.heap.objs.size (λ_=>none)->(∀b o,s.heap.get? b=some o->d.get? b=some o)->(∀x c,(wJ scope s.heap.objs.size).lookup x=some c->d.IsCell c none) ->
  Q {scope:=scope,locals:=s.heap.objs.size,globals:=globals,cells:=wJ scope s.heap.objs.size++cl,qual:=qual,func:=none,code:=a.code,frame:=a.frame,builtins:=a.builtins} {s with heap:=d}) :
 wpAny M A (Gp scope globals cl [] qual none .none (some a)) Q E s:=by
 simp only[Gp,Option.isSome_some,if_true];refine dm (wpAny_alloc ?_);refine dm (wpAny_layCells _ (λn k cells=>by cases hkc:k == BH<;>simp[hkc]) _ _ _ _ ?_)
 have f:=cellsFrom_ok scope.names (s.heap.push {cls:=.type "dict",data:=.dict #[]}) (s.heap.objs.size+1) [] ⟨λ_ _ h=>(nomatch h),G5⟩ (by rw[BL];exact Ad _)
 rw[BL]at f;rw[show ({s with heap:=s.heap.push {cls:=.type "dict",data:=.dict #[]}}:Shared).heap.objs.size=s.heap.objs.size+1 from BL ..]
 rw[Ih];refine dm (Ab (Ab ?_));rw[tM];exact i _ ((Heap.Ns.new s.heap (.type "dict")).keeps (pushCells_keeps _ _)) (λb o e=>pushCells_keeps _ _ b o (xd _ e)) λx c g=>(f.empty x c (mem_of_lookup g)).1
def oy{use:Option (Value->Sem Unit)}{QQ:Value->Shared->Prop}{Qv:VK}{B:Value->Env->Sem PUnit}{E:Value->Shared->Prop}(hE:E=X.h)(hc:X.g=true)(S:zd X N csc fr)(hi:PI X tg iter wi)
 (Z:∀(it:Addr) (acc:Value) (U:Env),CD (.ListComp elt (⟨tg,iter,ifs,0⟩::rest) csc cpos) 0 (.ref it) acc U=(do
  standAt iter.pos
  match <-pyNext (.ref it) with
  |none=>pure (.done .next)
  |some v=>
   Bl tg (.ref it) v
   assign tg U v
   let mut ok:=true
   for c in ifs do
    if ok then ok <-isTrue c U (eval c U)
   if ok then B acc U
   again (.compLoop (.ListComp elt (⟨tg,iter,ifs,0⟩::rest) csc cpos) 0 (.ref it) acc U)))
 (hg:∀C V Q ex,PG (X.comp N csc C V Q ex) tg g) (ht:∀C V Q ex,PTs (X.comp N csc C V Q ex) ifs ts)
 (k:∀C V Q ex acc,(∃n,Inv X n σ Q V/\∀b∈ex,wI X n Q b)->PB (X.comp N csc C V Q ex) (B (.ref acc) (X.comp N csc C V Q ex).a) (tb acc))
 (I:Inv X pins σ H s) (h:uR fr wi g ts tb σ H Qv)
 (hfin:∀acc C D t,Inv X pins σ D t->Qv (.c acc) D->(∃m,t.heap.Ns C m)->D C=none->C≠X.a.locals->X.l.heap.objs.size<=C->(∀x c,X.a.cells.lookup x=some c->c≠C)->(∀p∈X.q++pins,p.1≠C) ->
  FK (model X.f X.w) X.A X.h use QQ (.ref acc) C (.ok .next) t) :
 wpAny (model X.f X.w) X.A (eval iter X.a) (λx s₁=>wpAny (model X.f X.w) X.A (pyIter x) (λit s₂=>wpAny (model X.f X.w) X.A (newList []) (λacc s₃=>
  wpAny (model X.f X.w) X.A (Gp csc X.a.globals (vp X.a.cells csc.names []) [] X.a.qual none .none (some X.a)) (λP s₄=>
   codeAny (model X.f X.w) X.A (.compStart (.ListComp elt (⟨tg,iter,ifs,0⟩::rest) csc cpos) 0 it acc {P with scope:=relabel csc X.a}) (FK (model X.f X.w) X.A E use QQ acc P.locals) s₄) E s₃) E s₂) E s₁) E s:=by
 subst hE;refine thn (hi pins s σ H _ I h) λv s1 h1=>thn h1 λitv i h2=>?_;refine byG λpi Y=>?_;obtain⟨it,L,tn,J,H2,e,I2,T,st2,f2,q2⟩:=h2;refine Y ?_;subst e;refine Bj ?_;have hfr:H2 i.heap.objs.size=none:=I2.j.fresh (Ad _);have q3:=q2 i.heap.objs.size hfr;generalize hs3:({i with heap:=i.heap.push {cls:=.type "list",dict:=none,data:=.seq ([]:List Value).toArray}}:Shared)=s3
 have k23:∀b u,i.heap.get? b=some u->s3.heap.get? b=some u:=λb u e=>by rw[<-hs3];exact xd _ e
 have new3:s3.heap.get? i.heap.objs.size=some {cls:=.type "list",dict:=none,data:=.seq ([]:List Value).toArray}:=by rw[<-hs3];exact Az _ rfl
 have I3:Inv X pins σ (upd H2 i.heap.objs.size (.b [])) s3:=by rw[<-hs3];exact I2.laid (t':=i.toks) (λb u e=>xd _ e) (Ad _) ⟨AV _,[],0,.nil,Az _ rfl⟩
 have lt2:∀b∈L,b<i.heap.objs.size:=λb k=>by obtain⟨o,e,_⟩:=T.c _ _ st2 b k;exact Am e
 have hsz:s3.heap.objs.size=i.heap.objs.size+1:=by rw[<-hs3];exact BL ..
 have f3:∀b∈L,wI X pins (upd H2 i.heap.objs.size (.b [])) b:=λb k=>⟨by rw[zM (Ay (lt2 b k))];exact(f2 b k).1,(f2 b k).2⟩
 have lt3:∀b∈L,b<s3.heap.objs.size:=λb k=>by rw[hsz];exact BD (lt2 b k)
 refine oD λh4 W k34 own4=>?_;have I4:=qh (tk:=s3.toks) I3 S f3 lt3 W k34 own4;have st4:tn 0 h4:=T.a _ _ _ st2 λb k o e=>k34 b o (k23 b o e);have f4:∀b∈L,wI (X.comp N csc s3.heap.objs.size s3 (upd H2 i.heap.objs.size (.b [])) L) [] (upd H2 i.heap.objs.size (.b [])) b:=λb k=>by have ok:=I4.y;obtain⟨g1,g2⟩:=ok.H b k;exact⟨(f3 b k).1,g1,ok.r b k,.inl k,g2,λp hp=>by simp at hp⟩
 have fin:∀σ' D t,Inv (X.comp N csc s3.heap.objs.size s3 (upd H2 i.heap.objs.size (.b [])) L) [] σ' D t->Qv (.c i.heap.objs.size) D->(∀b∈L,D b=none) ->
  FK (model X.f X.w) X.A X.h use QQ (.ref i.heap.objs.size) s3.heap.objs.size (.ok .next) t:=λσ' D t I' q' _=>by
  have IX:Inv X pins σ D t:=I3.UB I'.R I'.B I'.j I'.C λb k=>by refine byG λpi Y=>?_;obtain⟨g0,g1,g2,g3,g4,g5⟩:=f3 b k;refine Y ?_;exact⟨g3,g1,g4,g5⟩
  obtain⟨m,hn,_⟩:=I'.M;refine hfin _ _ D t IX q' ⟨m,hn⟩ I'.G (E6 I3.lt) I3.sz (λx c e=>?_) λp hp=>?_
  . obtain⟨w',z⟩:=I3.F x c e
    exact Ay z.lt
  . exact Ay (Am (I3.O p hp).1)
 have K:codeAny (model X.f X.w) X.A (.compLoop (.ListComp elt (⟨tg,iter,ifs,0⟩::rest) csc cpos) 0 (.ref it) (.ref i.heap.objs.size) (compEnvC csc (wJ csc s3.heap.objs.size++vp X.a.cells csc.names []) s3.heap.objs.size X.a))
  (FK (model X.f X.w) X.A X.h use QQ (.ref i.heap.objs.size) s3.heap.objs.size) {s3 with heap:=h4}:=
  w5 (X:=X.comp N csc s3.heap.objs.size s3 (upd H2 i.heap.objs.size (.b [])) L) (Z it _ _) rfl hc T (hg _ _ _ _) (ht _ _ _ _) (k _ _ _ _ _ ⟨pins,I3,f3⟩) I4 st4 f4 q3 fin
 exact codeAny_compStart_list K (T.d X.A 0 _ _ _ st4 K)
def k8{B:Value->Env->Sem PUnit}(E:X.g=true)(S:zd X N csc fr)(w:PI X tg iter wi)
 (j:∀(it:Addr) (acc:Value) (d:Env),CD (.ListComp elt (⟨tg,iter,ifs,0⟩::rest) csc cpos) 0 (.ref it) acc d=(do
  standAt iter.pos
  match <-pyNext (.ref it) with
  |none=>pure (.done .next)
  |some v=>
   Bl tg (.ref it) v
   assign tg d v
   let mut ok:=true
   for c in ifs do
    if ok then ok <-isTrue c d (eval c d)
   if ok then B acc d
   again (.compLoop (.ListComp elt (⟨tg,iter,ifs,0⟩::rest) csc cpos) 0 (.ref it) acc d)))
 (D:∀C f A i,PG (X.comp N csc C f A i) tg g) (z:∀C f A i,PTs (X.comp N csc C f A i) ifs ts)
 (p:∀C f A i acc,PB (X.comp N csc C f A i) (B (.ref acc) (X.comp N csc C f A i).a) (tb acc))
 (u:∀x,AM iter X.a x=pure x:=by intro _;rfl) :
 PE X (.ListComp elt (⟨tg,iter,ifs,0⟩::rest) csc cpos) (uR fr wi g ts tb):=by
 intro pins s σ H Q I h;rw[eval_ListComp];refine E9 (use:=none) rfl u (we (S.cells I.y)) S.b S.a ?_;refine oy (use:=none) rfl E S w j D z (λC f A i acc _=>p C f A i acc) I h λacc C P r L t l J G K n k=>?_;obtain⟨m,l⟩:=l;refine⟨m,l,λR q=>⟨.c acc,P,?_,rfl,t⟩⟩;exact L.turned (t':=r.toks) (λb o p e=>(q.2 b p).trans e) J (Co (Co G)) (.inr K) n k
def jG{B:Value->Env->Sem PUnit}{y:Str}{p f:Pos}{i:Nat}(hc:X.g=true)(S:zd X N csc fr)(U:PI X tg iter wi)
 (l:∀(it:Addr) (acc:Value) (d:Env),CD (.ListComp elt (⟨tg,iter,ifs,0⟩::rest) csc cpos) 0 (.ref it) acc d=(do
  standAt iter.pos
  match <-pyNext (.ref it) with
  |none=>pure (.done .next)
  |some v=>
   Bl tg (.ref it) v
   assign tg d v
   let mut ok:=true
   for c in ifs do
    if ok then ok <-isTrue c d (eval c d)
   if ok then B acc d
   again (.compLoop (.ListComp elt (⟨tg,iter,ifs,0⟩::rest) csc cpos) 0 (.ref it) acc d)))
 (W:∀C j E k,PG (X.comp N csc C j E k) tg g) (F:∀C j E k,PTs (X.comp N csc C j E k) ifs ts)
 (G:∀C j E k acc,PB (X.comp N csc C j E k) (B (.ref acc) (X.comp N csc C j E k).a) (tb acc))
 (hN:X.N.Nodup) (V:X.N[i]?=some y) (Z:Loc X.a.scope y)
 (z:FU (.ListComp elt (⟨tg,iter,ifs,0⟩::rest) csc cpos) (some (.Name y p)) f.line X.a=pure true:=by rfl)
 (Y:X.m y=true\/X.a.scope.names.lookup y=some .local:=by first|exact .inl rfl|exact .inr rfl|assumption)
 (M:∀x,AM iter X.a x=pure x:=by intro _;rfl) :
 PS X (.Assign [.Name y p] (.ListComp elt (⟨tg,iter,ifs,0⟩::rest) csc cpos) f) (oX (uR fr wi g ts tb) (uF i)):=by
 intro pins s σ H D I h;rw[exec_Assign_Name_used _ _ _ _ z];refine dm (BY (dm ?_));show wpAny _ X.A (do let _ <-GV (.ListComp elt (⟨tg,iter,ifs,0⟩::rest) csc cpos) csc X.a _ (newList []) false (eval iter X.a) (some (assign (.Name y p) X.a))) _ _ s
 refine dm (B0 (E9 (use:=some (assign (.Name y p) X.a)) (Q:=λ_ t=>SP X pins D .next t) rfl M (we (S.cells I.y)) S.b S.a ?_) (λ_ t O=>Ab (Ab O)) λ_ _ e=>e);refine oy (use:=some (assign (.Name y p) X.a)) rfl hc S U l W F (λC j E k acc _=>G C j E k acc) I h λacc C H' t I' T w hC K h0 n u=>?_;obtain⟨m,w⟩:=w;show wpAny _ X.A (assign (.Name y p) X.a (.ref acc)) _ _ _;refine wpAny_assign_Name (nZ I' hN V Z (show RelV (.c acc) (.ref acc) from rfl) (λR I2 L=>?_) Y);obtain⟨a,P,q⟩:=L;have J:C≠a:=by
  rcases q with q|q
  . rw[q];exact K
  . exact Co (n y a q)
 refine⟨m,w.sameBut P J,λh' r=>⟨_,H',?_,T⟩⟩;exact I2.turned (t':=R.toks) (λb o G e=>(r.2 b G).trans e) hC K (.inr h0) n u
def Ue(elt tg iter:Expr)(ifs:List Expr)(csc:Scope)(cpos:Pos)(i:Addr)(a:Value)(e:Env) :
 CD (.ListComp elt [⟨tg,iter,ifs,0⟩] csc cpos) 0 (.ref i) a e=(do
  standAt iter.pos
  match <-pyNext (.ref i) with
  |none=>pure (.done .next)
  |some v=>
   Bl tg (.ref i) v
   assign tg e v
   let mut ok:=true
   for c in ifs do
    if ok then ok <-isTrue c e (eval c e)
   if ok then (do let _ <-call (.builtin "list.append") [a,<-eval elt e])
   again (.compLoop (.ListComp elt [⟨tg,iter,ifs,0⟩] csc cpos) 0 (.ref i) a e)):=by rfl
def Ug(elt tg iter:Expr)(ifs:List Expr)(t i:Expr)(b:List Expr)(csc:Scope)(cpos:Pos)(g:Addr)(f:Value)(a:Env) :
 CD (.ListComp elt [⟨tg,iter,ifs,0⟩,⟨t,i,b,0⟩] csc cpos) 0 (.ref g) f a=(do
  standAt iter.pos
  match <-pyNext (.ref g) with
  |none=>pure (.done .next)
  |some v=>
   Bl tg (.ref g) v
   assign tg a v
   let mut ok:=true
   for c in ifs do
    if ok then ok <-isTrue c a (eval c a)
   if ok then (do
    let x <-eval i a
    standAt i.pos
    let x <-AM i a x;let _ <-runOwn (.compStart (.ListComp elt [⟨tg,iter,ifs,0⟩,⟨t,i,b,0⟩] csc cpos) 1 (<-holding [x] (pyIter x)) f a) a)
   again (.compLoop (.ListComp elt [⟨tg,iter,ifs,0⟩,⟨t,i,b,0⟩] csc cpos) 0 (.ref g) f a)):=by
 have e:CD (.ListComp elt [⟨tg,iter,ifs,0⟩,⟨t,i,b,0⟩] csc cpos) 0 (.ref g) f a=(do
  standAt iter.pos
  match <-pyNext (.ref g) with
  |none=>pure (.done .next)
  |some v=>
   Bl tg (.ref g) v
   assign tg a v
   let mut ok:=true
   for c in ifs do
    if ok then ok <-isTrue c a (eval c a)
   if ok then
    let x <-eval i a
    standAt i.pos
    let x <-AM i a x;let _ <-runOwn (.compStart (.ListComp elt [⟨tg,iter,ifs,0⟩,⟨t,i,b,0⟩] csc cpos) 1 (<-holding [x] (pyIter x)) f a) a
   again (.compLoop (.ListComp elt [⟨tg,iter,ifs,0⟩,⟨t,i,b,0⟩] csc cpos) 0 (.ref g) f a)):=by rfl
 rw[e];simp only[Iq,FV]
def Rt(elt tg iter:Expr)(ifs:List Expr)(t i:Expr)(a:List Expr)(csc:Scope)(cpos:Pos)(f:Addr)(b:Value)(e:Env) :
 CD (.ListComp elt [⟨tg,iter,ifs,0⟩,⟨t,i,a,0⟩] csc cpos) 1 (.ref f) b e=(do
  standAt i.pos
  match <-pyNext (.ref f) with
  |none=>pure (.done .next)
  |some v=>
   Bl t (.ref f) v
   assign t e v
   let mut ok:=true
   for c in a do
    if ok then ok <-isTrue c e (eval c e)
   if ok then (do let _ <-call (.builtin "list.append") [b,<-eval elt e])
   again (.compLoop (.ListComp elt [⟨tg,iter,ifs,0⟩,⟨t,i,a,0⟩] csc cpos) 1 (.ref f) b e)):=by rfl
end
def iB
 (b:codeAny (model prog w) A (.compLoop (.ListComp elt [⟨tg,iter,ifs,0⟩,⟨tg2,iter2,ifs2,0⟩] csc cpos) 1 it acc env) R s)
 (h:wpAny (model prog w) A (pyIter it) (λd e=>codeAny (model prog w) A (.compLoop (.ListComp elt [⟨tg,iter,ifs,0⟩,⟨tg2,iter2,ifs2,0⟩] csc cpos) 1 d acc env) R e)
  (notedBy (model prog w) A env λx e=>R (.error x) e) s) :
 codeAny (model prog w) A (.compStart (.ListComp elt [⟨tg,iter,ifs,0⟩,⟨tg2,iter2,ifs2,0⟩] csc cpos) 1 it acc env) R s:=by
 refine HQ ?_;show wpAny _ _ ((GG (.ListComp elt [⟨tg,iter,ifs,0⟩,⟨tg2,iter2,ifs2,0⟩] csc cpos) 1 it acc env).onRaise (λx=>do HP x env;standAt HS)) _ _ s
 refine ID ?_;unfold GG;show wpAny _ _ (ask >>= _) _ _ s;refine dm (Cw (wpAny_ite ?_));split
 . first
    |exact dm (Ab (Ab (Ai rfl b)))
    |exact Ab (Ai rfl b)
 . first
    |exact dm (B8 (dm (BY (dm (B0 h (λd e a=>Ab (Ai rfl a)) λ_ _ x=>x)))))
    |(refine dm (B8 ?_);show wpAny _ _ (standAt iter2.pos >>= _) _ _ s;exact dm (BY (dm (B0 h (λd e a=>Ab (Ai rfl a)) λ_ _ x=>x))))
def tm(w:TI)(g:TG)(t:List TT)(b:TB):TB:=λN a H=>w a H λJ A=>sX J g (tTB t b) ⟨N,λ_ _=>False,λ_ _=>False,λ_ _=>False⟩ a A
def kz
 (y:X.h=λ_ _=>False) (E:X.g=true) (C:PI X tg2 iter2 wi) (D:PG X tg2 g) (z:PTs X ifs2 ts) (G:PB X (do let _ <-call (.builtin "list.append") [.ref acc,<-eval elt X.a]) tb)
 (u:∀x,AM iter2 X.a x=pure x:=by intro _;rfl) :
 PB X (do
       let x <-eval iter2 X.a
       standAt iter2.pos
       let x <-AM iter2 X.a x;let _ <-runOwn (.compStart (.ListComp elt [⟨tg,iter,ifs,0⟩,⟨tg2,iter2,ifs2,0⟩] csc cpos) 1 (<-holding [x] (pyIter x)) (.ref acc) X.a) X.a) (tm wi g ts tb):=by
 intro p s k H P I h;refine dm (thn (C p s k H _ I h) λv Z L=>dm (BY (dm (Ee (u v) (dm (Bh (thn L λo m K=>?_)))))));refine byG λF j=>?_;obtain⟨t,M,V,J,O,e,Q,T,c,N,q⟩:=K;refine j ?_;subst e;refine dm (wpAny_runOwn ?_);have l:codeAny (model X.f X.w) X.A (.compLoop (.ListComp elt [⟨tg,iter,ifs,0⟩,⟨tg2,iter2,ifs2,0⟩] csc cpos) 1 (.ref t) (.ref acc) X.a)
  (λr i=>match r with|.ok f=>wpAny (model X.f X.w) X.A (pure PUnit.unit:Sem PUnit) (λ_ i=>∃b B,Inv X p b B i/\P b B) X.h i|.error e=>cameBackBy (model X.f X.w) X.A X.a X.h e i) m:=
  w5 (Rt ..) y E T D z G Q c N q λb B i R n _=>Ab ⟨b,B,R,n⟩
 exact iB l (T.d X.A 0 _ _ _ c l)
def eB(l:X.g=true)(S:zd X N csc fr)(i:PI X tg iter wi)(j:∀C d F e,PG (X.comp N csc C d F e) tg g)(h:∀C d F e,PTs (X.comp N csc C d F e) ifs ts)
 (k:∀C d F e,PE (X.comp N csc C d F e) elt te) (f:∀x,AM iter X.a x=pure x:=by intro _;rfl) :
 PE X (.ListComp elt [⟨tg,iter,ifs,0⟩] csc cpos) (uR fr wi g ts λb=>rk b te):=
 k8 l S i (B:=λb c=>(do let _ <-call (.builtin "list.append") [b,<-eval elt c])) (Ue elt tg iter ifs csc cpos) j h (λC d F e b=>qQ (k C d F e)) f
def VT(r:X.g=true)(S:zd X N csc fr)(n:PI X tg iter wi)(o:∀C d F e,PG (X.comp N csc C d F e) tg g)(k:∀C d F e,PTs (X.comp N csc C d F e) ifs ts)
 (q:∀C d F e,PE (X.comp N csc C d F e) elt te) (s:X.N.Nodup) (f:X.N[i]?=some y) (j:Loc X.a.scope y)
 (h:FU (.ListComp elt [⟨tg,iter,ifs,0⟩] csc cpos) (some (.Name y py)) spos.line X.a=pure true:=by rfl)
 (p:X.m y=true\/X.a.scope.names.lookup y=some .local:=by first|exact .inl rfl|exact .inr rfl|assumption)
 (l:∀x,AM iter X.a x=pure x:=by intro _;rfl) :
 PS X (.Assign [.Name y py] (.ListComp elt [⟨tg,iter,ifs,0⟩] csc cpos) spos) (oX (uR fr wi g ts λb=>rk b te) (uF i)):=
 jG r S n (B:=λb c=>(do let _ <-call (.builtin "list.append") [b,<-eval elt c])) (Ue elt tg iter ifs csc cpos) o k (λC d F e b=>qQ (q C d F e)) s f j h p l
def k7(k:X.g=true)(S:zd X N csc fr)(n:PI X tg iter wi)(o:∀C d F e,PG (X.comp N csc C d F e) tg g)(l:∀C d F e,PTs (X.comp N csc C d F e) ifs ts)
 (i:∀C d F e,PI (X.comp N csc C d F e) tg2 iter2 wi2) (j:∀C d F e,PG (X.comp N csc C d F e) tg2 g2) (h:∀C d F e,PTs (X.comp N csc C d F e) ifs2 ts2)
 (p:∀C d F e,PE (X.comp N csc C d F e) elt te) (m:∀x,AM iter X.a x=pure x:=by intro _;rfl)
 (f:∀b x,AM iter2 b x=pure x:=by intro _ _;rfl) :
 PE X (.ListComp elt [⟨tg,iter,ifs,0⟩,⟨tg2,iter2,ifs2,0⟩] csc cpos) (uR fr wi g ts λc=>tm wi2 g2 ts2 (rk c te)):=
 k8 k S n (B:=λc b=>(do
        let x <-eval iter2 b
        standAt iter2.pos
        let x <-AM iter2 b x;let _ <-runOwn (.compStart (.ListComp elt [⟨tg,iter,ifs,0⟩,⟨tg2,iter2,ifs2,0⟩] csc cpos) 1 (<-holding [x] (pyIter x)) c b) b)) (Ug elt tg iter ifs tg2 iter2 ifs2 csc cpos) o l
  (λC d F e c=>kz rfl k (i C d F e) (j C d F e) (h C d F e) (qQ (p C d F e)) (f _)) m
def qd:yJ X (.builtin "isinstance") (λd H Q=>∃x c t b,d=[x,.k c]/\t6 X.K H x (.type t)/\Ib X.K (.type t) (.type c)=some b/\Q (.e b) H):=by intro p s i H d j Q I r h;obtain⟨x,c,t,b,rfl,a,e,q⟩:=h;obtain⟨u,w,rfl,f,g⟩:=vals2 r;cases (show w=D1 c from g);exact dW I f a e λl=>⟨.e b,H,I.tok _,rfl,q⟩
inductive Kd where
 |e|i|b|g|d|h|f
 deriving DecidableEq
noncomputable def Kd.nm:Kd->String
 |.e=>"NoneType"|.i=>"bool"|.b=>"int"|.g=>"str"|.d=>"list"|.h=>"tuple"|.f=>"dict"
noncomputable def Kd.sub(a c:Kd):Bool:=decide (a=c)||(decide (a=.i)&&decide (c=.b))
def SR K(a c:Kd)(j:c≠.e):Ib K (.type a.nm) (.type c.nm)=some (a.sub c):=by
 cases c with
 |e=>exact absurd rfl j
 |i=>cases a<;>rfl
 |b=>cases a<;>rfl
 |g=>cases a<;>rfl
 |d=>cases a<;>rfl
 |h=>cases a<;>rfl
 |f=>cases a<;>rfl
def all_range:∀(bs:List Bool),((Ag bs.length).all λi=>bs.getD i false)=bs.all id:=by
 intro bs;induction bs with
 |nil=>rfl
 |cons b bs a=>
  rw[Ap,Fx,Dh,Dh,List.all_map];exact congrArg (b&&·) (E8 (by congr 1) a)
theorem Vals.bools:∀{d:List Bool} {us},Vals (d.map V.e) us->us=d.map D0
 |[],us,r=>by cases r;rfl
 |b::d,us,r=>by
  rw[AG]at r;cases r with
  |cons w u=>
   cases (show _=D0 b from w);rw[Vals.bools u,AG]
def qc(L:X.g=true):yJ X (.builtin "all") (λd H Q=>∃(a:Addr) (bs:List Bool),d=[.c a]/\SqL X.K H a (bs.map V.e)/\Q (.e (bs.all id)) H):=by
 intro z s R H d T Q I r h;obtain⟨a,bs,rfl,N,q⟩:=h;obtain⟨u,rfl,C⟩:=vals1 r;cases C;obtain⟨l,B,p,F⟩:=I.list N;have j:=B.bools;have x:a<s.heap.objs.size:=by obtain⟨o,k,_⟩:=p.isList;exact Am k
 refine call_all_walk (Ei p.isList ?_);refine⟨s.heap.objs.size,_,_,_,_,_,λi=>bs.getD i false,rfl,Ir (A:=X.A.in1) (I.y.g L) s.heap.objs.size a (Ay x) l.toArray,⟨⟨_,Az _ rfl,rfl,rfl⟩,?_⟩,?_,λM Z G=>?_⟩
 . obtain⟨o,k,t,n,J⟩:=p.isList
   exact⟨o,xd _ k,t,n,J⟩
 . intro i v w P O D E
   have f:(bs.map D0)[i]?=some v:=by rw[<-j];simpa using D
   rw[An]at f;cases hb:bs[i]? with
   |none=>rw[hb]at f;cases f
   |some b=>
    rw[hb]at f;have:v=D0 b:=(AL f).symm;subst this;have e:bs.getD i false=b:=by rw[Aa,hb];rfl
    have m:P (bs.getD i false) w:=E;rw[e]at m;exact CC m
 . have e:(Ag l.toArray.size).all (λi=>bs.getD i false)=bs.all id:=by rw[Ae,j,Ac];exact all_range bs
   rw[e];refine⟨.e (bs.all id),H,I.kept λb o k=>G b o ?_ (xd _ k),rfl,q⟩;simpa using Ay (Am k)
def Y2(h:H p=none)o:rB H (upd H p o):=λb u q=>by rw[zM (zY q h)];exact q
def rX(H:Hp)(y:List V)(Q:VK):Prop:=∀p A,rB H A->A p=some (.c y)->Q (.c p) A
def rX.new(g:rX H ys Q):∀p,H p=none->Q (.c p) (upd H p (.c ys)):=λp h=>g p _ (Y2 h _) zc
def O7:V->Option Int->Option Int->Hp->VK->Prop:=λx l h H Q=>∃a b,x=.c a/\H a=some (.c b)/\rX H (oI b l h) Q
def UX:R2:=λx y H Q=>∃a b g f,x=.c a/\y=.c b/\H a=some (.c g)/\H b=some (.c f)/\g.length+f.length<=AI/\rX H (g++f) Q
def Pw:R2:=λx y H Q=>∃a k b,x=.c a/\y=.d k/\H a=some (.c b)/\2<=k/\k<=1000/\b≠[]/\b.length<=1000/\rX H (AR k.toNat b).flatten Q
def dF{lo hi}(b:IsTup s.heap t items)(i:s.heap.IsSliceOf sl vl vu .none)(j:IsPart vl lo)(p:IsPart vu hi)
 (m:HT.sIx items.size 0 lo=0) (l:HT.sIx items.size items.size hi=items.size) (h:Q (.ref t) s):wpAny (model prog w) A (getItem (.ref t) (.ref sl)) Q E s:=by
 obtain⟨o,c,f,k⟩:=id i;have g:s.TypeIs (.ref sl) "slice":=⟨o,c,f⟩;unfold getItem
 try with_reducible refine Bh ?_
 first|refine dm (Ab ?_)|skip
 refine dm (G3 b.typeIs (by decide) ?_)
 refine dm (Ck (name:=Ep "__getitem__") b.typeIs Bd
  (BC Bd b.typeIs Gh ?_ (GC _ _)))
 show wpAny _ _ (EV (.ref t) >>= _) _ _ s;refine dm (FE b ?_);refine dm (DT g ?_);rw[if_pos (by decide)]
 refine dm (HT.vL i j p ?_);have a:(((HT.sIx items.size 0 lo:Nat):Int) == 0&&(1:Int) == 1&&(HT.sIx items.size items.size hi-HT.sIx items.size 0 lo) == items.size)=true:=by rw[m,l];simp
 show wpAny _ _ (if (((HT.sIx items.size 0 lo:Nat):Int) == 0&&(1:Int) == 1&&(HT.sIx items.size items.size hi-HT.sIx items.size 0 lo) == items.size)=true then _ else _) _ _ s
 rw[if_pos a];unfold GW;refine dm (dm (DT b.typeIs (Ab ?_)));rw[if_pos (by decide)]
 exact dm (B8 (Ab ⟨_,rfl,Ab h⟩))
def Vk:SlR X O7:=by
 intro p s y H x v d z n t e Q I k q m l h;obtain⟨a,f,rfl,j,g⟩:=h;by_cases hw:HT.sIx f.length 0 n=0/\HT.sIx f.length f.length t=f.length
 . cases k
   obtain⟨i,r,o,u⟩:=I.tuple (.inl (.inl j));have b:i.toArray.size=f.length:=by rw[Ae];exact r.length.symm
   refine⟨"tuple",_,Bd.lookup,o.typeIs,?_⟩;refine dF o q m l (by rw[b];exact hw.1) (by rw[b];exact hw.2) ⟨.c a,H,I,rfl,g a H (rB.refl H) ?_⟩
   rw[j];unfold oI;rw[hw.1,hw.2,CT,F3,Ho]
 . exact RX p s y H (.c a) v d z n t e Q I k q m l ⟨a,f,rfl,.inl (.inl j),hw,g.new⟩
def Zz:OpR X (B2 .Add) UX:=by
 intro p s E H x y v u Q I z t h;obtain⟨a,b,r,G,rfl,rfl,o,m,T,g⟩:=h;by_cases hx:r=[]
 . cases z
   cases t;subst hx;obtain⟨R,K,N,_⟩:=I.tuple (.inl (.inl o));obtain⟨i,F,L,_⟩:=I.tuple (.inl (.inl m));cases K;obtain⟨⟨Z,V,C,J⟩,w,B,n,A⟩:=id N;obtain⟨⟨D,d,q,l⟩,f,k,P,j⟩:=id L;simp only at B A k j;subst B A k j;exact concat_meets ⟨_,w,rfl⟩ ⟨_,f,rfl⟩ FH GS CL CB (Cv _ _)
    (tuple_addW0 a b #[] i.toArray n P V d J l rfl) ⟨w,f,⟨.c b,H,I,rfl,g b H (rB.refl H) m⟩⟩
 . refine W4 p s E H (.c a) (.c b) v u Q I z t ⟨a,b,r,G,rfl,rfl,.inl (.inl o),.inl (.inl m),hx,T,λe=>?_,λ_=>g.new⟩
   subst e;rw[A5]at g;exact g a H (rB.refl H) o
def xN:fillsNumberSlot (.type "tuple") "mul"=pure false:=
 PySem.fillsNumberSlot_seq (id:="tuple.__mul__") (r:=some (.builtin "tuple.__rmul__")) EG.lookup (by decide +kernel) F.slot_tuple_rmul.lookup (by decide +kernel)
def vk:seqRepeat? (.type "tuple")=pure (some (.builtin "tuple.__mul__")):=by
 unfold seqRepeat?;rw[PySem.seqSlot_of (T:="tuple") (name:="__mul__") (id:="tuple.__mul__") EG.lookup (by decide +kernel),PySem.seqSlot_of (T:="tuple") (name:="__rmul__") (id:="tuple.__rmul__") F.slot_tuple_rmul.lookup (by decide +kernel)]
 rfl
def xy a t l items n dd sl :
 Meets (Builtin.«int.__rmul__» ⟨[.int a t,.ref l],[]⟩) (λ_ R s=>s.heap.get? l=some {cls:=.type "tuple",dict:=dd,data:=.seq items n,slots:=sl}/\R (.ok (.ret Value.notImplemented)) s):=
 .of_wp λp w A R s h=>by obtain⟨c,g,d,b,o⟩:=s;obtain⟨f,h⟩:=h;wp_walk;exact⟨_,rfl,h⟩
def gR l items n x u dd sl(G:2<=x)(r:x<=1000)(f:¬items.isEmpty=true)(q:items.size<=1000) :
 Meets (Builtin.«tuple.__mul__» ⟨[.ref l,.int x u],[]⟩) (λ_ R s=>s.heap.get? l=some {cls:=.type "tuple",dict:=dd,data:=.seq items n,slots:=sl} /\
  R (.ok (.ret (Bk s.heap.objs.size))) {s with heap:=s.heap.push {cls:=D1 "tuple",data:=Data.seq (EF (λb a=>b++a) #[] (AR x.toNat items))},toks:=s.toks}):=
 .of_wp λp w A R s h=>by
  obtain⟨E,g,d,C,D⟩:=s;obtain⟨j,h⟩:=h;have H:=Hq;have B:¬((decide (x < -(2 ^ 63))||decide (x ≥ 2 ^ 63))=true):=by simp;omega
  have z:¬((items.isEmpty||x == 1)=true):=by simp at f ⊢;exact⟨f,⋯⟩
  have y:¬((decide (x<=0)||items.isEmpty)=true):=by simp at f ⊢;exact⟨⋯,f⟩
  have i:(items.size:Int)*x<=1000*1000:=Int.mul_le_mul ⋯ r ⋯ ⋯
  have v:¬((items.size:Int)*x > (2 ^ 63-1)/8):=by omega
  have k:AI=16777216:=AX;have t:¬(EX ((items.size:Int)*x)=true):=by unfold EX;rw[k];simp only[decide_eq_true_eq];omega
  have o:(EF (λb a=>b++a) #[] (AR x.toNat items)).size=x.toNat*items.size:=by have e:=foldl_rep items.toList x.toNat [];simp only[Array.toArray_toList,D6]at e;rw[e,Ae,len_rep,Ax]
  have c:sizeOk (.seq (EF (λb a=>b++a) #[] (AR x.toNat items))):=by
   show (EF (λb a=>b++a) #[] (AR x.toNat items)).size<=AI;rw[o,k];have:x.toNat*items.size<=1000*1000:=Fh ⋯ q
   omega
  wp_walk using BO j
  rw[if_neg B];refine dm (FE (items:=items) ⟨_,j,rfl,n,rfl⟩ ?_);rw[if_neg z];show wpAny _ _ (if (decide (x<=0)||items.isEmpty)=true then _ else _) _ _ _
  rw[if_neg y];show wpAny _ _ (if (items.size:Int)*x > (2 ^ 63-1)/8 then _ else _) _ _ _
  rw[if_neg v];show wpAny _ _ (if EX ((items.size:Int)*x)=true then _ else _) _ _ _
  rw[if_neg t];exact dm (m:=BQ _) (Bj (Ab ⟨_,rfl,h⟩) c)
def W8:OpR X (B2 .Mult) Pw:=by
 intro z s F H x y v u Q I G E h;obtain⟨a,k,l,rfl,rfl,N,V,R,P,A,g⟩:=h;cases G;obtain⟨t,rfl⟩:=E;obtain⟨i,r,J,_⟩:=I.tuple (.inl (.inl N));obtain⟨⟨Z,B,C,p⟩,f,w,n,d⟩:=id J;simp only at w d;subst w d;have L:=r.length;have m:¬i.toArray.isEmpty=true:=by simp;intro e;exact P (r.wR.mp e)
 refine DL (T:="tuple") (U:="int") (by decide) ⟨_,f,rfl⟩ (λD=>D5 D k t) xN F2 C1 vk FI.lookup
  (Ct C1 (D5 s k t) FJ (Fq _ _) (xy k t a i.toArray n B p)
   ⟨f,rfl,⟨_,f,rfl⟩,Ct EG ⟨_,f,rfl⟩ G7 (GH _ _) (gR a i.toArray n k t B p V R m (by rw[Ae,<-L];exact A)) ⟨f,?_⟩⟩)
 have e:=foldl_rep i k.toNat [];rw[D6]at e;have K:(AR k.toNat l).flatten.length<=AI:=by
  rw[len_rep,AX];have:k.toNat*l.length<=1000*1000:=Fh ⋯ A
  omega
 refine⟨.c s.heap.objs.size,_,I.laid (t':=s.toks) (o:=.c (AR k.toNat l).flatten) (λb M q=>xd _ q) (Ad _) ⟨K,(AR k.toNat i).flatten,r.rep k.toNat,?_⟩,rfl,g.new _ (I.j.fresh (Ad _))⟩;rw[show (#[]:Array Value)=([]:List Value).toArray from rfl,e];exact tx.new _ _
mutual
inductive DD(H:Hp)(p:Addr):V->PyData->Prop
 |non:DD H p .f .none
 |bl (b:Bool):DD H p (.e b) (.bool b)
 |int (i:Int):DD H p (.d i) (.int i)
 |str (x:Str):DD H p (.g x) (.str x)
 |lst {a:Addr} {xs:List V} {ds:List PyData}:H a=some (.b xs)->a≠p->DDs H p xs ds->DD H p (.c a) (.list ds)
 |tup {a:Addr} {xs:List V} {ds:List PyData}:H a=some (.c xs)->a≠p->DDs H p xs ds->DD H p (.c a) (.tuple ds)
 |dct {a:Addr}:H a=some (.j [])->a≠p->DD H p (.c a) (.dict [])
inductive DDs(H:Hp)(p:Addr):List V->List PyData->Prop
 |b:DDs H p [] []
 |a {x:V} {xs:List V} {d:PyData} {ds:List PyData}:DD H p x d->DDs H p xs ds->DDs H p (x::xs) (d::ds)
end
theorem DDs.length:∀{vs} {ds},DDs H p vs ds->vs.length=ds.length
 |_,_,.b=>rfl
 |_,_,.a _ rs=>by rw[Ap,Ap,rs.length]
theorem DDs.append:∀{vs ws} {ds es},DDs H p vs ds->DDs H p ws es->DDs H p (vs++ws) (ds++es)
 |_,_,_,_,.b,r=>r
 |_,_,_,_,.a r rs,q=>.a r (rs.append q)
mutual
noncomputable def xk:PyData->Bool
 |.none|.bool _|.int _|.str _=>false
 |.list _=>true
 |.tuple xs=>xJ xs
 |.dict _=>false
noncomputable def xJ:List PyData->Bool
 |[]=>false
 |x::xs=>xk x||xJ xs
end
theorem oh:∀{ds},(∀d∈ds,d.depth<=k)->CH ds<=k
 |[],_=>AV _
 |d::ds,h=>by rw[CH];exact Nat.max_le.mpr ⟨h d AO,oh λx e=>h x (AF _ e)⟩
section
variable {X:Cx}{pos:Pos}
def Pg(c:Gl X x)(b:X.d x=none)(h:Ds x=some (.type n))(a:x≠"__name__":=by decide)(f:(x == ("__debug__":Str))=false:=by decide):PE X (.Name x pos) (tC (.k n)):=
 VI c b h (show RelV (.k n) (.type n) from rfl) a f
noncomputable def noStar:Expr->Bool
 |.Starred ..=>false
 |_=>true
def z6(h:noStar e=true):A6 (e::es) env=(false,eval e env)::A6 es env:=by
 cases e<;>first|rfl|cases h
def pac(b:PE X e te)(a:PA X es t)(h:noStar e=true:=by rfl):PA X (e::es) (nc te t):=VH b a (z6 h)
noncomputable def tN(s:Scope)(A N:List Str)(c:Scope)(f:List (Option Nat)):Bool:=
 decide (c.kind=.function)&&c.names.all (λx=>decide (x.2≠.cell)||c.names.all λy=>decide (y≠(x.1,Ba)))&&c.names.all (λx=>decide (x.2≠.local)||decide (c.names.lookup x.1=some .local)) &&
 c.names.all (λx=>decide (x.2≠.free)||(decide (s.names.lookup x.1=some .cell)||decide (s.names.lookup x.1=some .free)))&&decide (f.length=N.length) &&
 (Ag N.length).all (λi=>match f[i]?,N[i]? with|some (some j),some x=>decide (A[j]?=some x)&&c.names.any (λy=>decide (y.1=x)&&decide (y.2=.free))|_,_=>true) &&
 c.names.all (λx=>decide (x.2≠.free)||decide (c.names.lookup x.1≠some .local))&&(decide (("!":Str) ∉ N)||(decide (("!":Str)∈A)&&s.names.any (λy=>decide (s.names.lookup y.1=some .cell))))
end
noncomputable def zl{a:Type}(x:List a)(l s:Int)(n:Nat):List a:=(Ag n).filterMap λ(k:Nat)=>x[(l+(k:Int)*s).toNat]?
theorem Vals.pick(r:Vals xs us):∀(is:List Nat),Vals (is.filterMap λi=>xs[i]?) (is.filterMap λi=>us[i]?)
 |[]=>.nil
 |i::is=>by
  rw[Bo,Bo];cases hx:xs[i]? with
  |none=>rw[r.none_of hx];exact Vals.pick r is
  |some x=>
   obtain⟨u,e,d⟩:=r.get hx;rw[e];exact .cons d (Vals.pick r is)
theorem Vals.zl{x:List V}{u:List Value}(r:Vals x u)(l s:Int)(n:Nat):Vals (zl x l s n) (L2.zl u l s n):=by have h:=r.pick ((Ag n).map λ(k:Nat)=>(l+(k:Int)*s).toNat);rw[CQ,CQ]at h;exact h
def k9(x:List α)lo st n:(zl x lo st n).length<=n:=by have:=Hr (λ(k:Nat)=>x[(lo+(k:Int)*st).toNat]?) (Ag n);rw[AQ]at this;exact this
noncomputable def yI(n:Nat)(l h:Option Int)(s:Int):Int × Nat:=((Bg l h s (n:Int)).1,B7 (Bg l h s (n:Int)).1 (Bg l h s (n:Int)).2 s)
def oV{lo hi}{st}{n:Nat}(g:s.heap.IsSliceOf sl vl vu vc)(c:IsPart vl lo)(p:IsPart vu hi)(f:IsPart vc (some st))(j:st≠0)
 (h:Q ((yI n lo hi st).1,st,(yI n lo hi st).2) s):wpAny (model prog w) A (DB (.ref sl) (pure (n:Int))) Q E s:=by
 obtain⟨o,a,i,b⟩:=id g;unfold DB Hc;refine dm (dm (Dq a b (x:=vl) rfl (dm (Dq a b (x:=vu) rfl (dm (Dq a b (x:=vc) rfl (Ab ?_)))))));refine dm (HT.wF f ?_);show wpAny _ _ (if (st == 0)=true then _ else _) _ _ s
 rw[if_neg (by simpa using j)]
 exact dm (HT.wF c (dm (HT.wF p (dm (Ab (Ab h))))))
def XR{lo hi}{st}(a:IsTup s.heap t items)(l:s.heap.IsSliceOf sl vl vu vc)(o:IsPart vl lo)(p:IsPart vu hi)(q:IsPart vc (some st))(x:st≠0)
 (f:(yI items.size lo hi st).1=0->st=1->(yI items.size lo hi st).2=items.size->Q (.ref t) s)
 (b:Q (.ref s.heap.objs.size) {s with heap:=s.heap.push {cls:=.type "tuple",data:=.seq (zl items.toList (yI items.size lo hi st).1 st (yI items.size lo hi st).2).toArray}})
 (c:(yI items.size lo hi st).2<=AI):wpAny (model prog w) A (getItem (.ref t) (.ref sl)) Q E s:=by
 obtain⟨r,g,i,v⟩:=id l;have j:s.TypeIs (.ref sl) "slice":=⟨r,g,i⟩;have h:sizeOk (.seq (zl items.toList (yI items.size lo hi st).1 st (yI items.size lo hi st).2).toArray):=by show (zl items.toList (yI items.size lo hi st).1 st (yI items.size lo hi st).2).toArray.size<=AI;rw[Ae];exact Au (k9 _ _ _ _) c
 have e:((Ag (yI items.size lo hi st).2).filterMap λ(k:Nat)=>items[((yI items.size lo hi st).1+(k:Int)*st).toNat]?).toArray=(zl items.toList (yI items.size lo hi st).1 st (yI items.size lo hi st).2).toArray:=by unfold zl;simp only[Bi]
 unfold getItem
 try with_reducible refine Bh ?_
 first|refine dm (Ab ?_)|skip
 refine dm (G3 a.typeIs (by decide) ?_)
 refine dm (Ck (name:=Ep "__getitem__") a.typeIs Bd
  (BC Bd a.typeIs Gh ?_ (GC _ _)))
 show wpAny _ _ (EV (.ref t) >>= _) _ _ s;refine dm (FE a ?_);refine dm (DT j ?_);rw[if_pos (by decide)]
 refine dm (oV (n:=items.size) l o p q x ?_);by_cases hw:((yI items.size lo hi st).1 == 0&&st == 1&&(yI items.size lo hi st).2 == items.size)=true
 . show wpAny _ _ (if ((yI items.size lo hi st).1 == 0&&st == 1&&(yI items.size lo hi st).2 == items.size)=true then _ else _) _ _ s
   rw[if_pos hw];simp only[ub,beq_iff_eq]at hw;unfold GW;refine dm (dm (DT a.typeIs (Ab ?_)));rw[if_pos (by decide)]
   exact dm (B8 (Ab ⟨_,rfl,Ab (f hw.1.1 hw.1.2 hw.2)⟩))
 . show wpAny _ _ (if ((yI items.size lo hi st).1 == 0&&st == 1&&(yI items.size lo hi st).2 == items.size)=true then _ else _) _ _ s
   rw[if_neg hw,e]
   first
    |exact dm (m:=BQ _) (Bj (Ab ⟨_,rfl,Ab b⟩) h)
    |exact dm (dm (m:=BQ _) (Bj (Ab ⟨_,rfl,Ab b⟩) h))
theorem jA{a:Type}:∀d:List a,(Ag d.length).filterMap (λk=>d[k]?)=d
 |[]=>rfl
 |x::d=>by
  rw[Ap,Fx,Bo,CQ];show x::_=_;refine congrArg (x::·) (E8 ?_ (jA d))
  congr 1
def i8(x:List α):zl x 0 1 x.length=x:=by
 unfold zl;have e:(λ(k:Nat)=>x[(0+(k:Int)*1).toNat]?)=λk=>x[k]?:=by funext k;rw[show (0+(k:Int)*1).toNat=k by omega]
 rw[e];exact jA x
def O8:V->Option Int->Option Int->Option Int->Hp->VK->Prop:=λx l h s H Q=>∃a b c,x=.c a/\H a=some (.c b)/\s=some c/\c≠0/\(yI b.length l h c).2<=AI/\rX H (zl b (yI b.length l h c).1 c (yI b.length l h c).2) Q
def OL(r:V->Option Int->Option Int->Option Int->Hp->VK->Prop)(f:TE)(t b g:TO):TE:=λa H Q=>f a H λx D=>t a D λl C=>b a C λu B=>g a B λc A=>r x l u c A Q
def cn{lo hi}{st}(Y:PE X e te)(W:PO X lo tl)(U:PO X hi th)(hc:PO X (some st) tc):PE X (.Subscript e (.Slice lo hi (some st) p2) pos) (OL O8 te tl th tc):=by
 intro p s m H Q I h;refine Ip (thn (Y p s m H _ I h) λv V z=>?_);obtain⟨x,H1,I1,Z,M⟩:=z;refine wpAny_Slice (thn (W p V m H1 _ I1 M) λJ T ⟨l,H2,I2,pl,q2⟩=>thn (U p T m H2 _ I2 q2) λG R ⟨u,H3,I3,pu,q3⟩=>thn (hc p R m H3 _ I3 q3) λK k z=>?_);obtain⟨c,C,I4,O,F⟩:=z;obtain⟨a,t,d,rfl,L,ec,h0,n,g⟩:=F;subst ec;cases Z;have B:Inv X p m C {k with heap:=k.heap.push {cls:=.type "slice",data:=.fields #[J,G,K]}}:=I4.kept (t':=k.toks) λb S q=>xd _ q
 obtain⟨y,r,N,hz⟩:=B.tuple (.inl (.inl L));have i:y.toArray.size=t.length:=by rw[Ae];exact r.length.symm
 show wpAny (model X.f X.w) X.A (GU e (.Slice lo hi (some st) p2) (.ref a) (.ref k.heap.objs.size)) (EP X p m Q) X.h {k with heap:=k.heap.push {cls:=.type "slice",data:=.fields #[J,G,K]}}
 refine tail_any (ops:=[.ref a,.ref k.heap.objs.size]) N.typeIs Bd.lookup (XR N (GD ..) pl pu O h0 (λE P D=>?_) ?_ (by rw[i];exact n)) (by with_unfolding_all rfl)
 . refine⟨.c a,C,B,rfl,g a C (rB.refl C) ?_⟩
   rw[i]at E D;rw[L,E,D,P,i8]
 . rw[i]
   refine⟨.c _,_,B.laid (t':=k.toks) (o:=.c (zl t (yI t.length l u d).1 d (yI t.length l u d).2)) (λb S q=>xd _ q) (Ad _) ?_,rfl,g.new _ (B.j.fresh (Ad _))⟩;refine⟨Au (k9 _ _ _ _) n,_,r.zl _ _ _,?_⟩;exact tx.new _ _
end L2
end
section
namespace L2
open PySem PyProof.Rows
section
variable {X:Cx}
noncomputable def xh(d:Int):List Int->Int
 |[]=>d
 |n::ns=>ns.foldl (λa b=>if b > a then b else a) n
theorem qt:∀(ns:List Int) a,a<=ns.foldl (λa b=>if b > a then b else a) a/\(∀x∈ns,x<=ns.foldl (λa b=>if b > a then b else a) a)/\(ns.foldl (λa b=>if b > a then b else a) a=a\/ns.foldl (λa b=>if b > a then b else a) a∈ns)
 |[],a=>⟨CA _,λ_ h=>(nomatch h),.inl rfl⟩
 |n::ns,a=>by
  obtain⟨u,w,d⟩:=qt ns (if n > a then n else a)
  show a<=ns.foldl _ (if n > a then n else a)/\_
  have f:a<=(if n > a then n else a)/\n<=(if n > a then n else a):=by split<;>omega
  refine⟨Be f.1 u,λx c=>?_,?_⟩
  . rcases Ao.mp c with e|c
    . rw[e];exact Be f.2 u
    . exact w x c
  . rcases d with d|d
    . show ns.foldl _ (if n > a then n else a)=a\/ns.foldl _ (if n > a then n else a)∈n::ns
      rw[d];split
      . exact .inr (AO ..)
      . exact .inl rfl
    . exact .inr (AF _ d)
def iX(h:ns≠[]):xh d ns∈ns/\∀x∈ns,x<=xh d ns:=by
 cases ns with
 |nil=>exact absurd rfl h
 |cons n ns=>
  obtain⟨f,c,a⟩:=qt ns n;refine⟨?_,λx b=>?_⟩
  . rcases a with a|a
    . show ns.foldl _ n∈_;rw[a];exact AO ..
    . exact AF _ a
  . rcases Ao.mp b with e|b
    . rw[e];exact f
    . exact c x b
def sP(c:M∈ns)(f:∀x∈ns,x<=M):xh d ns=M:=by
 have h:ns≠[]:=λe=>by rw[e]at c;exact nomatch c
 obtain⟨a,b⟩:=iX (d:=d) h;exact Int.le_antisymm (f _ a) (b _ c)
theorem Vals.ints:∀{u:List Int} {us},Vals (u.map V.d) us->∀{i:Nat} {v},us[i]?=some v->∃t,v=.int (u.getD i 0) t
 |[],_,.nil,_,_,h=>by cases h
 |n::u,_,.cons r rs,0,v,h=>by
  obtain⟨t,e⟩:=r;have:v=.int n t:=(AL h).symm.trans e;exact⟨t,this⟩
 |n::u,_,.cons r rs,i+1,v,h=>by have:=Vals.ints rs (i:=i) (v:=v) h;exact this
end
end L2
end
section
namespace L2
open PySem PyProof PyProof.Rows
section
variable {X:Cx}
def gQ l items n u dd sl :
 Meets (Builtin.«tuple.__mul__» ⟨[.ref l,.int 1 u],[]⟩) (λ_ R s=>s.heap.get? l=some {cls:=.type "tuple",dict:=dd,data:=.seq items n,slots:=sl}/\R (.ok (.ret (Bk l))) s):=
 .of_wp λp w A R s h=>by
  obtain⟨b,g,d,t,o⟩:=s;obtain⟨a,h⟩:=h;have f:=Hq;have i:¬((decide ((1:Int) < -(2 ^ 63))||decide ((1:Int) ≥ 2 ^ 63))=true):=by decide
  have c:((items.isEmpty||((1:Int) == 1))=true):=by simp
  wp_walk using BO a
  exact⟨_,rfl,h⟩
def gP l items n x u dd sl(c:x<=0)(q:-1000<=x)(b:¬items.isEmpty=true) :
 Meets (Builtin.«tuple.__mul__» ⟨[.ref l,.int x u],[]⟩) (λ_ R s=>s.heap.get? l=some {cls:=.type "tuple",dict:=dd,data:=.seq items n,slots:=sl} /\
  R (.ok (.ret (Bk s.heap.objs.size))) {s with heap:=s.heap.push {cls:=D1 "tuple",data:=Data.seq #[]},toks:=s.toks}):=
 .of_wp λp w A R s h=>by
  obtain⟨k,g,d,t,o⟩:=s;obtain⟨a,h⟩:=h;have r:=Hq;have j:¬((decide (x < -(2 ^ 63))||decide (x ≥ 2 ^ 63))=true):=by simp;omega
  have i:¬((items.isEmpty||x == 1)=true):=by simp at b ⊢;exact⟨b,⋯⟩
  have f:((decide (x<=0)||items.isEmpty)=true):=by simp;exact .inl c
  wp_walk using BO a
  rw[if_neg j];refine dm (FE (items:=items) ⟨_,a,rfl,n,rfl⟩ ?_);rw[if_neg i];show wpAny _ _ (if (decide (x<=0)||items.isEmpty)=true then _ else _) _ _ _
  rw[if_pos f];exact dm (m:=BQ _) (Bj (Ab ⟨_,rfl,h⟩))
def Px:R2:=λx y H Q=>∃a k b,x=.c a/\y=.d k/\H a=some (.c b)∧-1000<=k/\k<=1000/\b≠[]/\b.length<=1000/\rX H (AR k.toNat b).flatten Q
def W7:OpR X (B2 .Mult) Px:=by
 intro p s J H x y v u Q I B A h;obtain⟨a,k,K,rfl,rfl,w,R,P,E,N,g⟩:=h;by_cases hk2:2<=k
 . exact W8 p s J H _ _ v u Q I B A ⟨a,k,K,rfl,rfl,w,hk2,P,E,N,g⟩
 cases B;obtain⟨t,rfl⟩:=A;obtain⟨i,r,L,_⟩:=I.tuple (.inl (.inl w));obtain⟨⟨Z,d,G,l⟩,f,D,n,C⟩:=id L;simp only at D C;subst D C;by_cases hk1:k=1
 . subst hk1
   refine DL (T:="tuple") (U:="int") (by decide) ⟨_,f,rfl⟩ (λm=>D5 m 1 t) xN F2 C1 vk FI.lookup
    (Ct C1 (D5 s 1 t) FJ (Fq _ _) (xy 1 t a i.toArray n d l)
     ⟨f,rfl,⟨_,f,rfl⟩,Ct EG ⟨_,f,rfl⟩ G7 (GH _ _) (gQ a i.toArray n t d l) ⟨f,?_⟩⟩)
   refine⟨.c a,H,I,rfl,g a H (rB.refl H) ?_⟩;rw[w];simp
 . have z:¬i.toArray.isEmpty=true:=by simp;intro e;exact E (r.wR.mp e)
   have V:k.toNat=0:=by omega
   refine DL (T:="tuple") (U:="int") (by decide) ⟨_,f,rfl⟩ (λm=>D5 m k t) xN F2 C1 vk FI.lookup
    (Ct C1 (D5 s k t) FJ (Fq _ _) (xy k t a i.toArray n d l)
     ⟨f,rfl,⟨_,f,rfl⟩,Ct EG ⟨_,f,rfl⟩ G7 (GH _ _) (gP a i.toArray n k t d l ⋯ R z) ⟨f,?_⟩⟩)
   rw[V]at g;refine⟨.c s.heap.objs.size,_,I.laid (t':=s.toks) (o:=.c []) (λb F q=>xd _ q) (Ad _) ⟨AV _,[],.nil,tx.new _ _⟩,rfl,g.new _ (I.j.fresh (Ad _))⟩
noncomputable def xP(a b c:Int):List Int:=(Ag (A4 a b c).toNat).map λ(i:Nat)=>a+(i:Int)*c
theorem nE:∀{w:List Int} {us},w.length=us.length->(∀(i:Nat) v,us[i]?=some v->∃t,v=.int (w.getD i 0) t)->Vals (w.map V.d) us
 |[],[],_,_=>.nil
 |[],_::_,h,_=>by cases h
 |_::_,[],h,_=>by cases h
 |n::w,u::us,h,hv=>.cons (by obtain⟨t,e⟩:=hv 0 u rfl;exact⟨t,e⟩) (nE (Nat.succ.inj h) λi v e=>hv (i+1) v e)
def lB a b c(h:0<c):0<=A4 a b c:=by
 unfold A4;rw[if_pos h];split
 . have:=Int.ediv_nonneg (a:=b-a-1) (b:=c) ⋯ ⋯;omega
 . omega
def oO{x y:Str}(k:X.g=true)(W:x="list")(U:y="range")(hg:Gl X x)(G:X.d x=none)(L:Gl X y)(E:X.d y=none)(ha:PA X [a] ta)
 (hs:A6 [a] X.a=[(false,eval a X.a)]:=by rfl) :
 PE X (.Call (.Name x p) [.Call (.Name y p2) [a] [] pos2] [] pos) (λw H Q=>ta w H λN A=>∃j:Int,N=[.d j]∧-(2 ^ 30)<=j/\j<=2 ^ 30/\(A4 0 j 1)<=1000/\∀l,A l=none->Q (.c l) (upd A l (.b ((xP 0 j 1).map V.d)))):=by
 intro i s w H Q I h;subst W U;refine D3 (uH I hg G Fy ?_ (by decide) (by decide))
 refine Ci (PyProof.Rows.spliced_more (Call_ (uH I L E boot_range (Ci (thn (ha pos2 i s w H _ I h) λus z T=>?_) hs rfl) (by decide) (by decide))))
 obtain⟨N,A,R,M,O⟩:=T;obtain⟨j,rfl,j0,j1,hz,q⟩:=O;cases M with
 |cons r F=>
  cases F;obtain⟨t,rfl⟩:=r;have hn0:=lB 0 j 1 ⋯
  refine call_range_1 ?_;refine PyProof.Rows.spliced_none ?_;have P:Inv X i w A {z with heap:=z.heap.push {cls:=.type "range",data:=.fields #[.int 0 z.toks,.int j t,.int 1 (z.toks+1)]},toks:=z.toks+1+1}:=R.kept λb o e=>xd _ e
  refine call_list_range (n:=(A4 0 j 1).toNat) (R.y.g k) (IsRange.new ..) ?_ ⋯ ⋯ λh' Z f c' S e K=>?_
  . unfold Builtin.Range.small
    rw[if_pos ⋯]
    simp only[Builtin.Range.rangeFitsLong,ub,Bn,decide_eq_true_eq,beq_iff_eq];omega
  . obtain⟨D,C⟩:=K
    have hl:(xP 0 j 1).length=f.toList.length:=by unfold xP;rw[Ac,AQ];simpa using D.symm
    have Y:Vals ((xP 0 j 1).map V.d) f.toList:=by
     refine nE hl λm v G=>?_;have u:f[m]?=some v:=by simpa using G
     obtain⟨t,e⟩:=C m v u;have J:m<(A4 0 j 1).toNat:=by have:=(A2.mp u).1;omega
     refine⟨t,?_⟩;rw[e];congr 1;unfold xP;rw[Aa,An,CJ J];rfl
    have B:((xP 0 j 1).map V.d).length<=AI:=by unfold xP;rw[Ac,Ac,AQ,AX];omega
    exact⟨.c _,_,P.laid (t':=Z) (o:=.b ((xP 0 j 1).map V.d)) S (Ad _) ⟨B,f.toList,c',Y,by simpa using e⟩,rfl,q _ (P.j.fresh (Ad _))⟩
end
end L2
end
section
namespace L2
open PySem PyProof PyProof.Rows
section
variable {X:Cx}
theorem rD:∀{xs} {us},Vals xs us->xs.all vB=true->us.countP (eqU x)=xs.countP λy=>eqV y x
 |_,_,.nil,_=>rfl
 |y::ys,u::us,.cons r rs,h=>by rw[Dh,ub]at h;rw[EH,EH,rD rs h.2,iG r h.1]
def lA(K:AH)(b:Bool):V->List V->Hp->VK->Prop:=λx v H Q=>∃t a y,x=.c t/\v=[y]/\(if b=true then SqT K H t a else SqL K H t a)/\vB y=true/\a.all vB=true/\Q (.d (a.countP λz=>eqV z y:Nat)) H
def dz:MtR X "tuple.count" (lA X.K true):=by
 intro p s D H x G v J Q I k m h;obtain⟨t,E,y,rfl,rfl,e,A,f,q⟩:=h;cases k;obtain⟨u,rfl,l⟩:=vals1 m;obtain⟨i,r,o,_⟩:=I.tuple e;obtain⟨⟨C,B,g,j⟩,a,c,n,b⟩:=id o;simp only at c b;subst c b;refine Ct F.slot_tuple_count ⟨_,a,rfl⟩ F.entry_tuple_count (F.args_tuple_count_2 _ _) (SeqAt.tuple_countAt t i.toArray n B j u (eqU y)) ⟨a,λw z=>x6 l A r f w (by simpa using z),?_⟩
 rw[show i.toArray.toList=i from rfl,rD r f];exact⟨.d _,H,I.tok _,⟨s.toks,rfl⟩,q⟩
def dy:MtR X "list.count" (lA X.K false):=by
 intro p s D H x G v J Q I k m h;obtain⟨t,E,y,rfl,rfl,e,A,f,q⟩:=h;cases k;obtain⟨u,rfl,l⟩:=vals1 m;obtain⟨i,r,o,_⟩:=I.list e;obtain⟨⟨C,B,g,j⟩,a,c,n,b⟩:=id o.isList;simp only at c b;subst c b;refine Ct F.slot_list_count ⟨_,a,rfl⟩ F.entry_list_count (F.args_list_count_2 _ _) (SeqAt.list_countAt t i.toArray n B j u (eqU y)) ⟨a,λw z=>x6 l A r f w (by simpa using z),?_⟩
 rw[show i.toArray.toList=i from rfl,rD r f];exact⟨.d _,H,I.tok _,⟨s.toks,rfl⟩,q⟩
noncomputable def uP(d:Int):List Int->Int
 |[]=>d
 |n::ns=>ns.foldl (λa b=>if b<a then b else a) n
theorem qu:∀(ns:List Int) a,ns.foldl (λa b=>if b<a then b else a) a<=a/\(∀x∈ns,ns.foldl (λa b=>if b<a then b else a) a<=x)/\(ns.foldl (λa b=>if b<a then b else a) a=a\/ns.foldl (λa b=>if b<a then b else a) a∈ns)
 |[],a=>⟨CA _,λ_ h=>(nomatch h),.inl rfl⟩
 |n::ns,a=>by
  obtain⟨u,w,d⟩:=qu ns (if n<a then n else a)
  show ns.foldl _ (if n<a then n else a)<=a/\_
  have f:(if n<a then n else a)<=a/\(if n<a then n else a)<=n:=by split<;>omega
  refine⟨Be u f.1,λx c=>?_,?_⟩
  . rcases Ao.mp c with e|c
    . rw[e];exact Be u f.2
    . exact w x c
  . rcases d with d|d
    . show ns.foldl _ (if n<a then n else a)=a\/ns.foldl _ (if n<a then n else a)∈n::ns
      rw[d];split
      . exact .inr (AO ..)
      . exact .inl rfl
    . exact .inr (AF _ d)
def iZ(h:ns≠[]):uP d ns∈ns/\∀x∈ns,uP d ns<=x:=by
 cases ns with
 |nil=>exact absurd rfl h
 |cons n ns=>
  obtain⟨f,c,a⟩:=qu ns n;refine⟨?_,λx b=>?_⟩
  . rcases a with a|a
    . show ns.foldl _ n∈_;rw[a];exact AO ..
    . exact AF _ a
  . rcases Ao.mp b with e|b
    . rw[e];exact f
    . exact c x b
def ke(c:M∈ns)(f:∀x∈ns,M<=x):uP d ns=M:=by
 have h:ns≠[]:=λe=>by rw[e]at c;exact nomatch c
 obtain⟨a,b⟩:=iZ (d:=d) h;exact Int.le_antisymm (b _ c) (f _ a)
def UW(K:AH)(g:List Int->Int):List V->Hp->VK->Prop:=λx H Q=>∃(a:Addr) (ns:List Int),x=[.c a]/\SqL K H a (ns.map V.d)/\ns≠[]/\Q (.d (g ns)) H
def ek(V:X.g=true):yJ X (.builtin "max") (UW X.K (xh 0)):=by
 intro D s O H S U Q I r h;obtain⟨a,c,rfl,Z,w,q⟩:=h;obtain⟨u,rfl,J⟩:=vals1 r;cases J;obtain⟨f,C,z,Y⟩:=I.list Z;have l:=C.length;have p:a<s.heap.objs.size:=by obtain⟨o,k,_⟩:=z.isList;exact Am k
 have hl:f.toArray.size=c.length:=by rw[Ae,<-l,Ac]
 have E:0<c.length:=DY.mpr w;have m:∀(i:Nat) (v:Value),f.toArray[i]?=some v->∃t,v=.int (c.getD i 0) t:=λi v N=>C.ints (by simpa using N)
 refine call_max_walk (Ei z.isList ?_);refine⟨s.heap.objs.size,_,_,_,_,_,_,rfl,Ir (A:=X.A.in1) (I.y.g V) s.heap.objs.size a (Ay p) f.toArray,⟨⟨_,Az _ rfl,rfl,rfl⟩,?_⟩,λb G=>?_,⋯,CmpOf.ints_gt (λi=>c.getD i 0) m,λv h' W F P=>?_⟩
 . obtain⟨o,k,B,n,T⟩:=z.isList
   exact⟨o,xd _ k,B,n,T⟩
 . rw[BL]
   simp only[Ao,Cy,or_false]at G;rcases G with e|e
   . rw[e];exact Cz _
   . rw[e];exact BD p
 . obtain⟨t,rfl⟩:=m _ _ F
   obtain⟨b1,M⟩:=argBest_gt (λi=>c.getD i 0) (f.toArray.size-1);have e:xh 0 c=c.getD (argBest (λi j=>decide (c.getD i 0 > c.getD j 0)) (f.toArray.size-1)) 0:=by
    refine sP ?_ λx L=>?_
    . have:argBest (λi j=>decide (c.getD i 0 > c.getD j 0)) (f.toArray.size-1)<c.length:=by omega
      rw[Aa,dS this];exact Bv this
    . obtain⟨i,R,rfl⟩:=Bz L
      have:=M i ⋯
      simpa [Aa,dS R] using this
   refine⟨.d (xh 0 c),H,I.kept λb o k=>P b o ?_ (xd _ k),⟨t,by rw[e]⟩,q⟩
   simpa using Ay (Am k)
def dB(V:X.g=true):yJ X (.builtin "min") (UW X.K (uP 0)):=by
 intro D s O H S U Q I r h;obtain⟨a,c,rfl,Z,w,q⟩:=h;obtain⟨u,rfl,J⟩:=vals1 r;cases J;obtain⟨f,C,z,Y⟩:=I.list Z;have l:=C.length;have p:a<s.heap.objs.size:=by obtain⟨o,k,_⟩:=z.isList;exact Am k
 have hl:f.toArray.size=c.length:=by rw[Ae,<-l,Ac]
 have E:0<c.length:=DY.mpr w;have m:∀(i:Nat) (v:Value),f.toArray[i]?=some v->∃t,v=.int (c.getD i 0) t:=λi v N=>C.ints (by simpa using N)
 refine call_min_walk (Ei z.isList ?_);refine⟨s.heap.objs.size,_,_,_,_,_,_,rfl,Ir (A:=X.A.in1) (I.y.g V) s.heap.objs.size a (Ay p) f.toArray,⟨⟨_,Az _ rfl,rfl,rfl⟩,?_⟩,λb G=>?_,⋯,CmpOf.ints_lt (λi=>c.getD i 0) m,λv h' W F P=>?_⟩
 . obtain⟨o,k,B,n,T⟩:=z.isList
   exact⟨o,xd _ k,B,n,T⟩
 . rw[BL]
   simp only[Ao,Cy,or_false]at G;rcases G with e|e
   . rw[e];exact Cz _
   . rw[e];exact BD p
 . obtain⟨t,rfl⟩:=m _ _ F
   obtain⟨b1,M⟩:=argBest_lt (λi=>c.getD i 0) (f.toArray.size-1);have e:uP 0 c=c.getD (argBest (λi j=>decide (c.getD i 0<c.getD j 0)) (f.toArray.size-1)) 0:=by
    refine ke ?_ λx L=>?_
    . have:argBest (λi j=>decide (c.getD i 0<c.getD j 0)) (f.toArray.size-1)<c.length:=by omega
      rw[Aa,dS this];exact Bv this
    . obtain⟨i,R,rfl⟩:=Bz L
      have:=M i ⋯
      simpa [Aa,dS R] using this
   refine⟨.d (uP 0 c),H,I.kept λb o k=>P b o ?_ (xd _ k),⟨t,by rw[e]⟩,q⟩
   simpa using Ay (Am k)
def cZ{o e:Expr}{t j:TE}{b c:Pos}{es:List Expr}(k:PE X o t)(l:PE X e j)(f:EW o "append" X.a (eval o X.a)=eval o X.a:=by rfl)(g:noStar e=true:=by rfl)(h:(b.endLine == c.line)=true:=by rfl) :
 PE X (.Call (.Attribute o "append" b) [e] [] c) (tBM X.K "list" eI t (nc j bU)):=by
 have i:A6 [e] X.a=(false,eval e X.a)::A6 [] X.a:=z6 g;refine Z9 Fj PySem.F.slot_list_append PySem.F.type_list_append nL k (pac l wm g) f ?_ h i rfl;rw[i];rfl
def cj(g:PE X o to)(i:PE X e te)(b:EW o "count" X.a (eval o X.a)=eval o X.a:=by rfl)(c:noStar e=true:=by rfl)(h:(apos.endLine == cpos.line)=true:=by rfl) :
 PE X (.Call (.Attribute o "count" apos) [e] [] cpos) (tBM X.K "list" (lA X.K false) to (nc te bU)):=by
 have f:A6 [e] X.a=(false,eval e X.a)::A6 [] X.a:=z6 c;refine Z9 Fj PySem.F.slot_list_count PySem.F.type_list_count dy g (pac i wm c) b ?_ h f rfl;rw[f];rfl
def ND(r:V->List V->Hp->VK->Prop)(g:TE)(t:TA):TE:=λf H Q=>g f H λx A=>(∃a b,x=.c a/\A a=some (.c b))/\t f A λb B=>r x b B Q
def cm(E:PE X o to)(G:PE X e te)(i:EW o "count" X.a (eval o X.a)=eval o X.a:=by rfl)(k:noStar e=true:=by rfl)(g:(apos.endLine == cpos.line)=true:=by rfl) :
 PE X (.Call (.Attribute o "count" apos) [e] [] cpos) (ND (lA X.K true) to (nc te bU)):=by
 have l:A6 [e] X.a=(false,eval e X.a)::A6 [] X.a:=z6 k;intro p s m H Q I h;refine wpAny_Call_method_late i (by rw[l];rfl) g rfl (thn (E p s m H _ I h) λv q ⟨x,H1,I1,r1,ty,q1⟩=>?_)
 obtain⟨a,d,rfl,D⟩:=ty;cases r1;obtain⟨z,C,N,r,y,L,n,P,B⟩:=(show z7 X.f X.w H1 q.heap a (.c d) from I1.j a _ D);refine⟨"tuple",_,PySem.F.plainAttrs_tuple,PySem.F.slot_tuple_count,PySem.F.type_tuple_count,⟨r,y,L⟩,λb J=>?_,?_⟩
 . cases J;exact⟨r,y,B⟩
 have t:=(pac G wm k:PA X [e] _) cpos p q m H1 _ I1 q1;rw[l]at t ⊢;refine Calls.callWith_builtin rfl (Calls.evalArgs_plain ?_);exact thn t λu A ⟨vs,H2,I2,r2,q2⟩=>dz p A m H2 (.c a) vs _ u Q I2 rfl r2 q2
end
end L2
namespace L2
open PySem
end L2
end
section
namespace L2
open PySem PySem.W PySem.Calls PyProof PyProof.Rows
def OX(K:AH)(H:Hp)(y:List V)(a:List (Int × Int)):Prop:=y.length=a.length/\∀(i:Nat) (z:Int × Int),a[i]?=some z->∃b,y[i]?=some (V.c b)/\SqT K H b [.d z.1,.d z.2]
noncomputable def yb(z:Int × Int):Int:=z.1*1000+z.2
def aJ(c:0<=a.2/\a.2<1000)(h:0<=b.2/\b.2<1000):yb a<yb b↔a.1<b.1\/a.1=b.1/\a.2<b.2:=by unfold yb;omega
def ox(g:0<=a.2/\a.2<1000)(f:0<=b.2/\b.2<1000)(e:yb a=yb b):a=b:=by
 unfold yb at e;have c:a.1=b.1:=by omega
 have h:a.2=b.2:=by omega
 exact E7 c h
def lI{v:List Value}(y:s.heap.IsList l v.toArray)(u:v.length<2)
 (h:∀d c,(∀b o,s.heap.get? b=some o->d.get? b=some o)->d.get? (s.heap.objs.size+1)=some (seqObj "list" v.toArray c)->Q (.ref (s.heap.objs.size+1)) {s with heap:=d}) :
 wpAny (model prog w) A (call (.builtin "sorted") [.ref l]) Q E s:=by
 refine E3 kind_sorted plain_sorted entry_sorted (args_sorted1 _) ?_;unfold Builtin.«sorted»;refine dm (m:=checkCount "sorted" 1 1 _) (Ab ?_);refine dm (collect_list y ?_ (by rw[AX];omega))
 refine dm (DE ?_ (by rw[AX];omega))
 have i:((s.heap.push (seqObj "list" #[] 0)).update s.heap.objs.size (A1 (·++v.toArray))).objs.size=s.heap.objs.size+1:=by rw[Heap.size_update,size_push']
 have a:(((s.heap.push (seqObj "list" #[] 0)).update s.heap.objs.size (A1 (·++v.toArray))).push (seqObj "list" v.toArray 0)).get? (s.heap.objs.size+1)=some (seqObj "list" v.toArray 0):=by rw[<-i];exact Az _ rfl
 have k:∀b o,s.heap.get? b=some o->(((s.heap.push (seqObj "list" #[] 0)).update s.heap.objs.size (A1 (·++v.toArray))).push (seqObj "list" v.toArray 0)).get? b=some o:=λb o q=>by
  have f:b<s.heap.objs.size:=Am q;rw[Fs _ _ _ (by rw[i];exact Ay (BD f)),BU _ _ _ _ (Ay f),Fs _ _ _ (Ay f)]
  exact q
 show wpAny _ _ _ _ _ {s with heap:=((s.heap.push (seqObj "list" #[] 0)).update s.heap.objs.size (A1 (·++v.toArray))).push (seqObj "list" v.toArray 0)}
 rw[i];generalize hg:((s.heap.push (seqObj "list" #[] 0)).update s.heap.objs.size (A1 (·++v.toArray))).push (seqObj "list" v.toArray 0)=g at a k ⊢
 refine dm (Bh (BC Gq ⟨_,a,rfl⟩ F4 ?body (Gr _)))
 case body=>
  have B:s.heap.objs.size+1<g.objs.size:=Am a;rw[F5];refine dm (Hs a rfl ?_);refine dm (DF a rfl ?_ (by rw[Ae,AX];omega) (AV _))
  obtain⟨t,p⟩:∃t,(g.update (s.heap.objs.size+1) (A1 λ_=>(#[]:Array Value))).get? (s.heap.objs.size+1)=some (seqObj "list" #[] t):=⟨_,C6 a λ_=>#[]⟩;refine dm (Ef p rfl ?_);refine dm (Gs ?_ (by show v.length<=_;rw[AX];omega))
  refine dm (DE ?_ (AV _));refine Bh ?_;have j:(((g.update (s.heap.objs.size+1) (A1 λ_=>(#[]:Array Value))).push (seqObj "tuple" v.toArray 0)).push (seqObj "list" #[] 0)).get? (s.heap.objs.size+1)=some (seqObj "list" #[] t):=
   xd _ (xd _ p)
  show wpAny (model prog w) _ _ _ _ {s with heap:=((g.update (s.heap.objs.size+1) (A1 λ_=>(#[]:Array Value))).push (seqObj "tuple" v.toArray 0)).push (seqObj "list" #[] 0)}
  dsimp only;have r:v.toArray.size<2:=by rw[Ae];exact u
  rw[if_pos r,if_pos r];refine dm (Ab ?_);rw[StateT.run_pure];refine dm (Ab ?_);dsimp only;refine dm (Ef j rfl ?_);have n:(arrOf (F6 general' (v.toArray.zip v.toArray) #[] 7 none)).map (·.2)=v.toArray:=by
   show (v.toArray.zip v.toArray).map (·.2)=v.toArray
   apply EI.mp;simp[List.map_snd_zip]
  rw[n];refine dm (DF j rfl ?_ (AV _) (by rw[Ae,AX];omega))
  simp only[bne_self_eq_false,As,if_false];refine Ab ⟨_,rfl,Ab ⟨_,rfl,?_⟩⟩;have z:=C6 j λ_=>v.toArray;refine h _ _ (λb o e=>?_) z;have f:b<s.heap.objs.size:=Am e;have x:b≠s.heap.objs.size+1:=Ay (BD f);rw[BU _ _ _ _ x];refine xd _ (xd _ ?_);rw[BU _ _ _ _ x];exact k b o e
def z7.got(x:z7 P w H h a o):∃u,h.get? a=some u:=by
 cases o with
 |b xs=>obtain⟨_,_,_,_,e⟩:=x;exact⟨_,e⟩
 |c xs=>obtain⟨_,_,_,_,e,_⟩:=x;exact⟨_,e⟩
 |j s=>obtain⟨_,_,_,_,o,_,_,e,_⟩:=x;exact⟨_,e⟩
 |k s=>obtain⟨_,_,_,_,o,_,_,e,_⟩:=x;exact⟨_,e⟩
 |m S n=>obtain⟨o,_,_,_,e,_⟩:=x;exact⟨_,e⟩
 |l C z t=>obtain⟨_,_,_,e,_⟩:=x;exact⟨_,e⟩
 |e y=>exact x
 |r t=>obtain⟨_,⟨_,_,_,e,_⟩,_⟩:=x;exact⟨_,e⟩
 |q lo hi=>obtain⟨_,_,_,e⟩:=x;exact⟨_,e⟩
 |g v u=>obtain⟨e,_⟩:=x;exact⟨_,e⟩
 |d ps=>exact⟨_,x⟩
 |p f y=>exact⟨_,x⟩
 |i φ=>exact x.2.1
theorem nj(r:Vals ys its):∀(l:List Nat),(∀i∈l,i<ys.length)->Vals (l.map λi=>ys.getD i .f) (l.map λi=>its.getD i Af)
 |[],_=>.nil
 |i::l,h=>by
  have d:i<ys.length:=h i (.head _);obtain⟨u,e,a⟩:=r.get (i:=i) (x:=ys[i]) (by simp[d])
  refine .cons ?_ (nj r l λj b=>h j (.tail _ b));show RelV (ys.getD i .f) (its.getD i Af);rw[Aa,Aa,e];simp only[dS d,FL];exact a
def uo{a:Type}(d:a){zs}{l:List Nat}(h:l.Perm (Ag zs.length)):(l.map λi=>zs.getD i d).Perm zs:=by
 have e:(Ag zs.length).map (λi=>zs.getD i d)=zs:=by
  apply DV
  . simp
  . intro i c b
    simp[dS b]
 exact(h.map _).trans (.of_eq e)
def Inv.j5(I:Inv X pins σ H s)(A:ys.length<=AI)(r:Vals ys its)(y:s.heap.get? D=none)(k:∀b o,b≠X.a.locals->s.heap.get? b=some o->h'.get? b=some o)
 (t:∀m,s.heap.Ns X.a.locals m->h'.Ns X.a.locals m) (e:h'.get? D=some {cls:=.type "list",data:=.seq its.toArray c}):H D=none/\Inv X pins σ (upd H D (.b ys)) {s with heap:=h'}:=by
 have v:H D=none:=by
  cases q:H D with
  |none=>rfl
  |some o=>
   obtain⟨u,g⟩:=z7.got (I.j D o q);rw[y]at g;cases g
 have f:∀b o,H b=some o->b≠D:=λb o q z=>by rw[z,v]at q;cases q
 have i:∀b o,s.heap.get? b=some o->b≠D:=λb o q z=>by rw[z,y]at q;cases q
 refine⟨v,I.step (g':=s.gens) (d':=s.drawn) (t':=s.toks) (ch:=[]) (λ_ z=>nomatch z) (λb o p _ _ q _=>k b o p q) (λb o p _ _ q _=>⟨o.slots,k b o p q⟩) (λb o _ q n=>?_) (λb o _ q=>?_) (λb d q=>?_) (λb o u q=>?_) (λb E q=>?_) t (λb o q=>?_) I.C⟩
 . rw[zM (i b o q)];exact n
 . by_cases hb:b=X.a.locals
   . subst hb
     obtain⟨m,B,_⟩:=I.M;obtain⟨w,_,_,l,_⟩:=t m B;exact⟨w,l⟩
   . exact⟨o,k b o hb q⟩
 . rw[zM (f b _ q)];exact q
 . rw[zM (f b _ q)];exact q
 . exact⟨#[],by rw[zM (f b _ q),q];simp⟩
 . by_cases hb:b=D
   . subst hb
     rw[zc]at q;cases q;exact⟨A,its,c,r,e⟩
   . rw[zM hb]at q
     refine(I.j b o q).gJ (λx u h g=>k x u ?_ g) (λx h=>by rw[zM (f x _ h)];exact h) (λx d h=>by rw[zM (f x _ h)];exact h)
     rcases h with rfl|h
     . intro z;rw[z,I.G]at q;cases q
     . intro z;rw[z,I.G]at h;cases h
end L2
end
section
namespace L2
open PySem PySem.W PySem.Calls PyProof PyProof.Rows Att
def um{a:Type}{zs}(d:a):(Ag zs.length).map (λi=>zs.getD i d)=zs:=by
 apply DV
 . simp
 . intro i b h
   simp[dS h]
theorem ph:∀{l d:List (Int × Int)},l.Pairwise (λa b=>yb a<yb b)->d.Pairwise (λa b=>yb a<yb b)->(∀x,x∈l↔x∈d)->l=d
 |[],[],_,_,_=>rfl
 |[],y::t',_,_,h=>by have:=(h y).mpr (.head _);cases this
 |x::t,[],_,_,h=>by have:=(h x).mp (.head _);cases this
 |x::t,y::t',h1,h2,h=>by
  rw[BK]at h1 h2;have f:x=y:=by
   rcases Ao.mp ((h x).mp (.head _)) with e|m
   . exact e
   . rcases Ao.mp ((h y).mpr (.head _)) with e|c
     . exact e.symm
     . have a:=h2.1 x m
       have b:=h1.1 y c;omega
  subst f;congr 1;refine ph h1.2 h2.2 λa=>⟨λm=>?_,λm=>?_⟩
  . rcases Ao.mp ((h a).mp (.tail _ m)) with e|c
    . have:=h1.1 a m
      rw[e]at this;omega
    . exact c
  . rcases Ao.mp ((h a).mpr (.tail _ m)) with e|c
    . have:=h2.1 a m
      rw[e]at this;omega
    . exact c
end L2
end
section
namespace L2
open PySem PySem.W PySem.Calls PyProof PyProof.Rows
noncomputable def r8:List Int->List Int->Bool
 |x::xs,y::ys=>if x=y then r8 xs ys else decide (x<y)
 |_,_=>false
inductive v8:List Value->List Int->Prop
 |b:v8 [] []
 |a {i:Int} {t:Tok} {us:List Value} {ns:List Int}:v8 us ns->v8 (.int i t::us) (i::ns)
theorem UK:∀{ns} {us},Vals (ns.map V.d) us->v8 us ns
 |[],_,.nil=>.b
 |n::ns,_,.cons r rs=>by obtain⟨t,rfl⟩:=(show ∃t,_=Dr n t from r);exact .a (UK rs)
def Xg(K:AH)(H:Hp)(y:List V)(a:List (List Int)):Prop:=y.length=a.length/\∀(i:Nat) (z:List Int),a[i]?=some z->∃b,y[i]?=some (V.c b)/\SqT K H b (z.map V.d)
def TV(h:Heap)(a:List Value)(c:List (List Int)):Prop:=
 a.length=c.length/\∀(i:Nat) (z:List Int),c[i]?=some z->∃b o n u,a[i]?=some (Bk b)/\h.get? b=some o/\o.cls=.type "tuple"/\o.data=.seq (List.toArray u) n/\v8 u z
def Xg.tv(I:Inv X pins σ H s)(h:Xg X.K H ys zs)(r:Vals ys its):TV s.heap its zs:=by
 refine⟨by rw[<-r.length];exact h.1,λi z e=>?_⟩
 obtain⟨b,q,p⟩:=h.2 i z e;obtain⟨u,m,f⟩:=r.get q;obtain⟨c,g,⟨o,j,l,n,k⟩,_⟩:=I.tuple p;have a:u=Bk b:=f;subst a;exact⟨b,o,n,c,m,j,l,k,UK g⟩
theorem TV.qA:∀{its} {zs},TV h its zs->(∀z∈zs,z≠[])->∃d,KatTups h its d/\d.length=its.length/\∀v∈d,∃i t,v=Dr i t
 |[],[],_,_=>⟨[],KatTups.nil,rfl,λ_ x=>nomatch x⟩
 |[],_::_,⟨l,_⟩,_=>by cases l
 |_::_,[],⟨l,_⟩,_=>by cases l
 |v::its,z::zs,⟨l,f⟩,hn=>by
  obtain⟨b,o,n,u,e,F,O,M,w⟩:=f 0 z rfl;have q:v=Bk b:=by simpa using e
  subst q;obtain⟨d,k,j,m⟩:=TV.qA (h:=h) (its:=its) (zs:=zs) ⟨by simpa using l,λi c e=>by simpa using f (i+1) c (by simpa using e)⟩ λc p=>hn c (.tail _ p)
  cases w with
  |b=>exact absurd rfl (hn [] (.head _))
  |@a i t u ns r=>
   refine⟨Dr i t::d,KatTups.cons F O M (by simp) k,by simp[j],λv g=>?_⟩
   rcases Ao.mp g with rfl|g
   . exact⟨_,_,rfl⟩
   . exact m v g
def ug(h:v8 us ns):us.length=ns.length:=by
 induction h with
 |b=>rfl
 |a _ i=>simp[i]
end L2
end
section
namespace L2.Tim
open PySem PySem.W PySem.Calls PyProof PyProof.Rows
section
variable {prog:Program}{w:World}{A:Around}{E:Value->Shared->Prop}{s:Shared}{κ:DG}{a₀:Array Keyed}{key:Keyed->Int}
noncomputable def kk(key:Keyed->Int)(a:Array Keyed)(i:Nat):Int:=key (a.getD i (Af,Af))
def SIn(key:Keyed->Int)(a:Array Keyed)(l n:Nat):Prop:=∀i j,i<=j->j<n->kk key a (l+i)<=kk key a (l+j)
def NIn(key:Keyed->Int)(a:Array Keyed)(l n:Nat):Prop:=∀i j,i<=j->j<n->kk key a (l+j)<=kk key a (l+i)
def Pre(l:Nat)(a b:Array Keyed):Prop:=∀i,i<l->b[i]?=a[i]?
def Pre.refl{lo}:Pre lo a a:=λ_ _=>rfl
theorem Pre.trans{lo}(h:Pre lo a b)(k:Pre lo b c):Pre lo a c:=λi f=>(k i f).trans (h i f)
structure Bs(κ:DG)(a₀:Array Keyed)(st:SortSt):Prop where
 c:kindOf st=κ
 a:(arrOf st).Perm a₀
 b:Fb st=none
theorem Bs.size{st}(h:Bs κ a₀ st):(arrOf st).size=a₀.size:=h.a.size_eq
def Bs.set{st}(h:Bs κ a₀ st)(f:xs.Perm (arrOf st)):Bs κ a₀ (setArr st xs):=⟨h.c,f.trans h.a,h.b⟩
def rm(prog:Program)(w:World)(A:Around)(E:Value->Shared->Prop)(s:Shared)(κ:DG)(a₀:Array Keyed)(key:Keyed->Int):Prop:=
 ∀(x y:Keyed) (st:SortSt) (Q:Option Bool->SortSt->Prop),x∈a₀.toList->y∈a₀.toList->kindOf st=κ->Q (some (decide (key x<key y))) st->wpS (model prog w) A E s (lt' x y) Q st
def y7(h:a[i]?=b[j]?):kk key a i=kk key b j:=by unfold kk;rw[AJ,AJ,h]
def Bs.at{st}(h:Bs κ a₀ st)(c:i<a₀.size):∃x,(arrOf st)[i]?=some x/\x∈a₀.toList/\kk key (arrOf st) i=key x:=by
 have b:i<(arrOf st).size:=by rw[h.size];exact c
 refine⟨(arrOf st)[i],by simp[b],?_,?_⟩
 . exact(CM.mp h.a).mem_iff.mp (by simp)
 . unfold kk;simp[Iu,b]
def zo{st}(h:arr[i]?=some x)(q:Q x st):wpS (model prog w) A E s (elem' arr i) Q st:=by rw[elem'_eq,h];exact Av q
def jm(L:rm prog w A E s κ a₀ key){st}(a:Bs κ a₀ st)(l:i<a₀.size)(g:j<a₀.size)
 (h:Q (some (decide (kk key (arrOf st) i<kk key (arrOf st) j))) st):wpS (model prog w) A E s (ltAt' i j) Q st:=by
 obtain⟨x,n,b,f⟩:=a.at (key:=key) l;obtain⟨y,e,m,k⟩:=a.at (key:=key) g;rw[ltAt'_eq];refine Ak (wpS_get ?_);refine Ak (zo n (Ak (zo e ?_)));rw[f,k]at h;exact L x y st Q b m a.c h
def nH(h:j<=xs.size)k:kk key (mirror xs i j ((j-i)/2)) k=if i<=k/\k<j then kk key xs (i+j-1-k) else kk key xs k:=by
 have e:=getElem?_mirror_all (i:=i) h k;by_cases h1:i<=k/\k<j
 . rw[if_pos h1]at e ⊢;exact y7 e
 . rw[if_neg h1]at e ⊢;exact y7 e
def hG{lo i j}(h:j<=xs.size)(b:lo<=i):Pre lo xs (mirror xs i j ((j-i)/2)):=λk a=>by rw[getElem?_mirror_all (i:=i) h k,if_neg ⋯]
def nG(h:src<xs.size)(a:d<=src)k:kk key (bubble xs src d) k=if k=src-d then kk key xs src else if src-d<k/\k<=src then kk key xs (k-1) else kk key xs k:=by
 have e:=getElem?_bubble h d a k;by_cases h1:k=src-d
 . rw[if_pos h1]at e ⊢;exact y7 e
 . rw[if_neg h1]at e ⊢
   by_cases h2:src-d<k/\k<=src
   . rw[if_pos h2]at e ⊢;exact y7 e
   . rw[if_neg h2]at e ⊢;exact y7 e
def Rz{st}(h:Q () (setArr st (mirror (arrOf st) i j ((j-i)/2)))):wpS (model prog w) A E s (reverseSlice' i j) Q st:=by rw[reverseSlice'_eq];exact CN h
def Ry(L:rm prog w A E s κ a₀ key){st}{lo n ok}(Z:lo+n<=a₀.size)(H:ok<=n)(X:Bs κ a₀ st)(G:SIn key (arrOf st) lo ok)
 (h:∀d,Bs κ a₀ d->Pre lo (arrOf st) (arrOf d)->AU d=AU st->SIn key (arrOf d) lo n->Q true d):wpS (model prog w) A E s (binarySort' lo n ok) Q st:=by
 rw[binarySort'_eq];refine Ak (C7 (BI (I:=λk c d=>c=(none,())/\Bs κ a₀ d/\Pre lo (arrOf st) (arrOf d)/\AU d=AU st/\SIn key (arrOf d) lo (min k n))
  (Q:=λc d=>c=(none,())/\Bs κ a₀ d/\Pre lo (arrOf st) (arrOf d)/\AU d=AU st/\SIn key (arrOf d) lo n) ?step ?fin ?init) ?post)
 case post=>
  rintro c d ⟨rfl,m,t,o,b⟩;exact Av (h d m t o b)
 case init=>
  refine⟨rfl,X,.refl,rfl,λi j v P=>?_⟩;by_cases y:ok=0
  . have:i=j:=by omega
    subst this;exact CA _
  . exact G i j v ⋯
 case fin=>
  rintro c d ⟨T,m,t,o,b⟩;refine⟨T,m,t,o,?_⟩
  rwa [show min (max (max ok 1) n) n=n by omega]at b
 case step=>
  rintro k c d V N ⟨rfl,m,t,o,b⟩;rw[show min k n=k by omega]at b
  have B:lo+k<a₀.size:=by omega
  refine Ak (C7 (BI (I:=λx c a=>a=d/\∃l r,c=(none,l,r)/\l<=r/\r<=k/\r-l<=k-x /\
   (∀i,i<l->kk key (arrOf d) (lo+i)<=kk key (arrOf d) (lo+k))/\(∀i,r<=i->i<k->kk key (arrOf d) (lo+k)<kk key (arrOf d) (lo+i)))
   (Q:=λc a=>a=d/\∃l r,c=(none,l,r)/\l<=k /\
    (∀i,i<l->kk key (arrOf d) (lo+i)<=kk key (arrOf d) (lo+k))/\(∀i,l<=i->i<k->kk key (arrOf d) (lo+k)<kk key (arrOf d) (lo+i))) ?istep ?ifin ?iinit) ?ipost)
  case iinit=>exact⟨rfl,0,k,rfl,⋯,⋯,⋯,λi R=>⋯,λi y C=>⋯⟩
  case ifin=>
   rintro c a ⟨rfl,l,r,rfl,u,p,J,f,g⟩;have:l=r:=by omega
   subst this;exact⟨rfl,l,l,rfl,p,f,g⟩
  case istep=>
   rintro x c a _ D ⟨rfl,l,r,rfl,u,p,J,f,g⟩;dsimp only;by_cases hge:l ≥ r
   . rw[if_pos hge]
     have:l=r:=by omega
     subst this;exact Av ⟨rfl,l,l,rfl,p,f,g⟩
   . rw[if_neg hge]
     refine Ak (jm L m B ⋯ ?_)
     by_cases hless:kk key (arrOf a) (lo+k)<kk key (arrOf a) (lo+(l+r)/2)
     . simp only[hless,decide_true,if_true]
       refine Av ⟨rfl,l,(l+r)/2,rfl,⋯,⋯,⋯,f,λi y C=>?_⟩
       exact Int.lt_of_lt_of_le hless (b _ _ y C)
     . simp only[hless,decide_false,As,if_false]
       refine Av ⟨rfl,(l+r)/2+1,r,rfl,⋯,⋯,⋯,λi y=>?_,g⟩
       exact Be (b i ((l+r)/2) ⋯ ⋯) (Iv.mp hless)
  case ipost=>
   rintro c a ⟨rfl,l,r,rfl,K,f,g⟩;show wpS _ _ _ _ (do moveDown' (lo+k) (lo+l);pure (C4 (none,()))) _ _
   rw[moveDown'_eq];have q:lo+k<(arrOf a).size:=by rw[m.size];exact B
   refine Ak (CN (Av ⟨rfl,m.set (bubble_perm _ _ _),t.trans λi R=>?_,o,?_⟩))
   . show (bubble (arrOf a) (lo+k) (lo+k-(lo+l)))[i]?=_
     rw[getElem?_bubble q _ ⋯,if_neg ⋯,if_neg ⋯]
   rw[show min (k+1) n=k+1 by omega]
   intro i j v P;show kk key (bubble (arrOf a) (lo+k) (lo+k-(lo+l))) (lo+i)<=kk key (bubble (arrOf a) (lo+k) (lo+k-(lo+l))) (lo+j);rw[nG q ⋯,nG q ⋯,show lo+k-(lo+k-(lo+l))=lo+l by omega]
   have z:lo+i-1=lo+(i-1)\/i=0:=by omega
   have e:lo+j-1=lo+(j-1)\/j=0:=by omega
   repeat' split
   all_goals first
    |(exfalso;omega)
    |exact CA _
    |(rcases z with z|z<;>rcases e with e|e<;>first|(exfalso;omega)|(simp only[z,e];first|exact CA _|exact f _ ⋯|exact Fc (g _ ⋯ ⋯)|exact b _ _ ⋯ ⋯))
    |exact f _ ⋯
    |exact Fc (g _ ⋯ ⋯)
    |exact b _ _ ⋯ ⋯
end
section
variable {prog:Program}{w:World}{A:Around}{E:Value->Shared->Prop}{s:Shared}{κ:DG}{a₀:Array Keyed}{key:Keyed->Int}
def Dis(key:Keyed->Int)(a₀:Array Keyed):Prop:=∀a:Array Keyed,a.Perm a₀->∀i j,i<a₀.size->j<a₀.size->i≠j->kk key a i≠kk key a j
def XY(L:rm prog w A E s κ a₀ key)(D:Dis key a₀){st}{lo nrem}(hn:lo+nrem<=a₀.size)(Y:1<=nrem)(o:Bs κ a₀ st)
 (h:∀m d,Bs κ a₀ d->Pre lo (arrOf st) (arrOf d)->AU d=AU st->1<=m->m<=nrem->SIn key (arrOf d) lo m->Q (some m) d) :
 wpS (model prog w) A E s (countRun' lo nrem) Q st:=by
 rw[countRun'_eq];have C:∀(a:Nat) (f:SortSt) (Q':Option (Option Nat) × Nat->SortSt->Prop) (body:Nat->Option (Option Nat) × Nat->StateT SortSt Sem (ForInStep (Option (Option Nat) × Nat))),1<=a->a<=nrem->Bs κ a₀ f->SIn key (arrOf f) lo a ->
  (∀i c,body i c=(do
   let F <-ltAt' (lo+c.snd) (lo+c.snd-1)
   match F with
   |some l=>if l=true then pure (ForInStep.done (none,c.snd)) else pure (C4 (none,c.snd+1))
   |_=>pure (ForInStep.done (some none,c.snd)))) ->
  (∀n,a<=n->n<=nrem->SIn key (arrOf f) lo n->(n=nrem\/kk key (arrOf f) (lo+n)<kk key (arrOf f) (lo+n-1))->Q' (none,n) f) ->
  wpS (model prog w) A E s (forIn [a:nrem] ((none,a):Option (Option Nat) × Nat) body) Q' f:=by
  intro a f Q' body ha X Z K W M;refine BI (I:=λx c d=>d=f/\c=(none,x)/\SIn key (arrOf f) lo x) ?step ?fin ⟨rfl,rfl,K⟩
  case fin=>
   rintro c d ⟨rfl,rfl,b⟩;rw[show max a nrem=nrem by omega]at b ⊢
   exact M nrem X (Ad _) b (.inl rfl)
  case step=>
   rintro x c d u H ⟨rfl,rfl,b⟩;rw[W];dsimp only;refine Ak (jm L Z ⋯ ⋯ ?_)
   by_cases hless:kk key (arrOf d) (lo+x)<kk key (arrOf d) (lo+x-1)
   . simp only[hless,decide_true,if_true]
     exact Av (M x u ⋯ b (.inr hless))
   . simp only[hless,decide_false,As,if_false]
     refine Av ⟨rfl,rfl,λi j g G=>?_⟩;by_cases hjx:j<x
     . exact b i j g hjx
     . have t:j=x:=by omega
       subst t;by_cases hi':i=j
       . subst hi';exact CA _
       . rw[show lo+j-1=lo+(j-1) by omega]at hless
         exact Be (b i (j-1) ⋯ ⋯) (Iv.mp hless)
 refine Ak (C 1 st _ _ (Ad _) Y o (λi j g G=>by cases (show i=j by omega);exact CA _) (λi c=>rfl) λn z v q N=>?_)
 dsimp only;by_cases hnn:n=nrem
 . rw[if_pos (by simpa using hnn)]
   exact Av (h n st o .refl rfl z v q)
 . rw[if_neg (by simpa using hnn)]
   have e:kk key (arrOf st) (lo+n)<kk key (arrOf st) (lo+n-1):=N.resolve_left hnn;by_cases hgt:n > 1
   . rw[if_pos hgt]
     refine Ak (jm L o ⋯ ⋯ ?_)
     have r:kk key (arrOf st) lo<kk key (arrOf st) (lo+n-1):=by
      have a1:=q 0 (n-1) ⋯ ⋯
      rw[Fd,show lo+(n-1)=lo+n-1 by omega]at a1
      have a2:=D _ o.a lo (lo+n-1) ⋯ ⋯ ⋯
      omega
     simp only[r,decide_true,if_true];exact Av (h n st o .refl rfl z v q)
   . rw[if_neg hgt]
     have y:n=1:=by omega
     subst y;refine Ak (FN (B8 ⟨rfl,?_⟩));refine Ak (C7 (BI (I:=λx c d=>d=st/\c=(none,x,0)/\NIn key (arrOf st) lo x) (Q:=λc d=>d=st/\∃m,2<=m/\m<=nrem/\c=(none,m,0)/\NIn key (arrOf st) lo m) ?step ?fin ⟨rfl,rfl,?_⟩) ?post)
     case fin=>
      rintro c d ⟨rfl,rfl,b⟩;exact⟨rfl,max (1+1) nrem,⋯,⋯,rfl,b⟩
     case step=>
      rintro x c d u H ⟨rfl,rfl,b⟩;dsimp only;refine Ak (jm L o ⋯ ⋯ ?_)
      by_cases hless:kk key (arrOf d) (lo+x)<kk key (arrOf d) (lo+x-1)
      . simp only[hless,decide_true,if_true]
        rw[if_neg ⋯]
        refine Av ⟨rfl,rfl,λi j g G=>?_⟩;by_cases hjx:j<x
        . exact b i j g hjx
        . have t:j=x:=by omega
          subst t;by_cases hi':i=j
          . subst hi';exact CA _
          . rw[show lo+j-1=lo+(j-1) by omega]at hless
            exact Be (Fc hless) (b i (j-1) ⋯ ⋯)
      . simp only[hless,decide_false,As,if_false]
        refine Ak (jm L o ⋯ ⋯ ?_)
        have S:kk key (arrOf d) (lo+x-1)<kk key (arrOf d) (lo+x):=by
         have:=D _ o.a (lo+x) (lo+x-1) ⋯ ⋯ ⋯
         omega
        simp only[S,decide_true,if_true];exact Av ⟨rfl,x,⋯,⋯,rfl,b⟩
     . intro i j g G
       by_cases hi':i=j
       . subst hi';exact CA _
       . have V:i=0:=by omega
         have T:j=1:=by omega
         subst V;subst T;rw[show lo+1-1=lo+0 by omega]at e
         exact Fc e
     case post=>
      rintro c d ⟨rfl,m,O,P,rfl,b⟩;dsimp only;rw[if_neg ⋯]
      refine Ak (Rz ?_);have p:lo+m<=(arrOf d).size:=by rw[o.size];omega
      have B:=o.set (mirror_perm (arrOf d) lo (lo+m) ((lo+m-lo)/2));refine Ak (C m _ _ _ ⋯ P B ?_ (λi c=>rfl) λk U R J _=>?_)
      . intro i j g G
        show kk key (mirror (arrOf d) lo (lo+m) ((lo+m-lo)/2)) (lo+i)<=kk key (mirror (arrOf d) lo (lo+m) ((lo+m-lo)/2)) (lo+j);rw[nH p,nH p,if_pos ⋯,if_pos ⋯]
        have:=b (m-1-j) (m-1-i) ⋯ ⋯
        rwa [show lo+(m-1-j)=lo+(lo+m)-1-(lo+j) by omega,show lo+(m-1-i)=lo+(lo+m)-1-(lo+i) by omega]at this
      . exact Av (h k _ B (hG p (Ad _)) rfl ⋯ R J)
end
section
variable {prog:Program}{w:World}{A:Around}{E:Value->Shared->Prop}{s:Shared}{κ:DG}{a₀:Array Keyed}{key:Keyed->Int}
noncomputable def fW:Bool->Keyed->Array Keyed->Nat->Nat->Nat->StateT SortSt Sem (Option Nat):=sortPriv% PySem.Builtin.gallop
def Cut(a₀:Array Keyed)(key:Keyed->Int)(l:Bool)(x:Keyed)(a:Array Keyed)(b n k:Nat):Prop:=
 ∀i,i<n->∃y,a[b+i]?=some y/\y∈a₀.toList/\(if l=true then decide (key y<key x) else !decide (key x<key y))=decide (i<k)
def vP(L:rm prog w A E s κ a₀ key)(k:Cut a₀ key left x arr base n k0)(b:x∈a₀.toList){a:SortSt}(c:kindOf a=κ)(j:i<n)(h:Q (some (decide (i<k0))) a)
  (g:m=(elem' arr (base+i) >>= λy=>if left=true then lt' y x else lt' x y >>= λr=>pure (r.map (!·)))):wpS (model prog w) A E s m Q a:=by
 obtain⟨y,l,f,e⟩:=k i j;rw[g];refine Ak (zo l ?_);cases left with
 |true=>
  rw[if_pos rfl]at e ⊢;refine L y x a _ f b c ?_;rw[e];exact h
 |false=>
  rw[if_neg Aj]at e ⊢;refine Ak (L x y a _ b f c (Av ?_));show Q (some (!decide (key x<key y))) a;rw[e];exact h
def nq{st}{b:Nat->Option (Option Nat) × Nat × Nat->StateT SortSt Sem (ForInStep (Option (Option Nat) × Nat × Nat))}
 (g:∀i d e (Q':ForInStep (Option (Option Nat) × Nat × Nat)->SortSt->Prop),d ≥ e->Q' (.done (none,d,e)) st->wpS (model prog w) A E s (b i (none,d,e)) Q' st)
 (h:∀i d e (Q':ForInStep (Option (Option Nat) × Nat × Nat)->SortSt->Prop),d<e->e<=n->Q' (if d+(e-d)/2<k0 then .yield (none,d+(e-d)/2+1,e) else .yield (none,d,d+(e-d)/2)) st->wpS (model prog w) A E s (b i (none,d,e)) Q' st)
 {d e} (r:d<=k0) (p:k0<=e) (o:e<=n) {Q:Option (Option Nat) × Nat × Nat->SortSt->Prop} (q:∀l,Q (none,l,k0) st):wpS (model prog w) A E s (forIn [:n] ((none,d,e):Option (Option Nat) × Nat × Nat) b) Q st:=by
 refine BI (I:=λx c a=>a=st/\∃d e,c=(none,d,e)/\d<=k0/\k0<=e/\e<=n/\e-d<=n-x) ?step ?fin ⟨rfl,d,e,rfl,r,p,o,⋯⟩
 case fin=>
  rintro c a ⟨rfl,d,e,rfl,m,k,f,j⟩;have:e=k0:=by omega
  subst this;exact q d
 case step=>
  rintro x c a _ t ⟨rfl,d,e,rfl,m,k,f,j⟩;by_cases hge:d ≥ e
  . refine g x d e _ hge ?_
    have:e=k0:=by omega
    subst this;exact q d
  . refine h x d e _ ⋯ f ?_
    by_cases hm:d+(e-d)/2<k0
    . rw[if_pos hm]
      exact⟨rfl,_,_,rfl,⋯,⋯,⋯,⋯⟩
    . rw[if_neg hm]
      exact⟨rfl,_,_,rfl,⋯,⋯,⋯,⋯⟩
def xr(L:rm prog w A E s κ a₀ key)(C:hint<n)(G:k0<=n)(v:Cut a₀ key left x arr base n k0)(r:x∈a₀.toList){k:SortSt}(t:kindOf k=κ)(h:Q (some k0) k) :
 wpS (model prog w) A E s (fW left x arr base n hint) Q k:=by
 unfold fW;refine Ak (vP L v r t C ?_ rfl);by_cases hr:hint<k0
 . rw[decide_eq_true hr]
   dsimp only;rw[if_pos rfl];refine Ak (C7 (BI (I:=λy c a=>a=k/\∃b o,c=(none,b,o)/\b<o/\hint+b<k0/\y<o) (Q:=λc a=>a=k/\∃b o,c=(none,b,o)/\hint+b<k0/\k0<=hint+min o (n-hint)) ?step ?fin ⟨rfl,0,1,rfl,⋯,⋯,⋯⟩) ?post)
   case fin=>
    rintro c a ⟨rfl,b,o,rfl,p,g,z⟩;exact⟨rfl,b,o,rfl,g,⋯⟩
   case step=>
    rintro y c a _ d ⟨rfl,b,o,rfl,p,g,z⟩;dsimp only;by_cases f:o ≥ n-hint
    . rw[if_pos f]
      exact Av ⟨rfl,b,o,rfl,g,⋯⟩
    . rw[if_neg f]
      refine Ak (vP L v r t (show hint+o<n by omega) ?_ rfl)
      by_cases hm:hint+o<k0
      . rw[decide_eq_true hm]
        dsimp only;rw[if_neg (by simp)]
        exact Av ⟨rfl,o,2*o+1,rfl,⋯,hm,⋯⟩
      . rw[decide_eq_false hm]
        dsimp only;rw[if_pos (by simp)]
        exact Av ⟨rfl,b,o,rfl,g,⋯⟩
   case post=>
    rintro c a ⟨rfl,b,o,rfl,p,g⟩;dsimp only;refine Ak (nq (n:=n) (k0:=k0) (λi j m B f q=>?_) (λi j m B u e q=>?_) ⋯ g ⋯ λl=>Av h)
    . dsimp only
      rw[if_pos f];exact Av q
    . dsimp only
      rw[if_neg ⋯]
      refine Ak (vP L v r t (show j+(m-j)/2<n by omega) ?_ rfl)
      by_cases hm:j+(m-j)/2<k0
      . rw[decide_eq_true hm];rw[if_pos hm]at q
        dsimp only;rw[if_pos rfl];exact Av q
      . rw[decide_eq_false hm];rw[if_neg hm]at q
        dsimp only;rw[if_neg Aj];exact Av q
 . rw[decide_eq_false hr]
   dsimp only;rw[if_neg Aj];refine Ak (C7 (BI (I:=λy c a=>a=k/\∃b o,c=(none,b,o)/\b<o/\k0<=hint-b/\y<o/\b<=hint) (Q:=λc a=>a=k/\∃b o,c=(none,b,o)/\k0<=hint-b/\hint+1-min o (hint+1)<=k0) ?step ?fin ⟨rfl,0,1,rfl,⋯,⋯,⋯,⋯⟩) ?post)
   case fin=>
    rintro c a ⟨rfl,b,o,rfl,p,g,z,D⟩;exact⟨rfl,b,o,rfl,g,⋯⟩
   case step=>
    rintro y c a _ d ⟨rfl,b,o,rfl,p,g,z,D⟩;dsimp only;by_cases f:o ≥ hint+1
    . rw[if_pos f]
      exact Av ⟨rfl,b,o,rfl,g,⋯⟩
    . rw[if_neg f]
      refine Ak (vP L v r t (show hint-o<n by omega) ?_ rfl)
      by_cases hm:hint-o<k0
      . rw[decide_eq_true hm]
        dsimp only;rw[if_pos rfl];exact Av ⟨rfl,b,o,rfl,g,⋯⟩
      . rw[decide_eq_false hm]
        dsimp only;rw[if_neg Aj];exact Av ⟨rfl,o,2*o+1,rfl,⋯,⋯,⋯,⋯⟩
   case post=>
    rintro c a ⟨rfl,b,o,rfl,p,g⟩;dsimp only;refine Ak (nq (n:=n) (k0:=k0) (λi j m B f q=>?_) (λi j m B u e q=>?_) g p ⋯ λl=>Av h)
    . dsimp only
      rw[if_pos f];exact Av q
    . dsimp only
      rw[if_neg ⋯]
      refine Ak (vP L v r t (show j+(m-j)/2<n by omega) ?_ rfl)
      by_cases hm:j+(m-j)/2<k0
      . rw[decide_eq_true hm];rw[if_pos hm]at q
        dsimp only;rw[if_pos rfl];exact Av q
      . rw[decide_eq_false hm];rw[if_neg hm]at q
        dsimp only;rw[if_neg Aj];exact Av q
end
section
variable {prog:Program}{w:World}{A:Around}{E:Value->Shared->Prop}{s:Shared}{κ:DG}{a₀:Array Keyed}{key:Keyed->Int}
def Srt(key:Keyed->Int)(l:List Keyed):Prop:=l.Pairwise λx y=>key x<=key y
def lK(g:Srt key (o++(p++q)))(i:Srt key (o++r))(h:∀u∈p,∀v∈r,key u<=key v):Srt key ((o++p)++r):=by
 unfold Srt at *;rw[DM]at g i ⊢;have j:=DM.mp g.2.1;refine⟨DM.mpr ⟨g.1,j.1,λa c b f=>g.2.2 a c b (Bp _ f)⟩,i.2.1,λa c b f=>?_⟩;rcases AS.mp c with c|c
 . exact i.2.2 a c b f
 . exact h a c b f
structure Mg(key:Keyed->Int)(X Y:List Keyed)(out:Array Keyed)(ia ib:Nat):Prop where
 d:Srt key (out.toList++X.drop ia)
 f:Srt key (out.toList++Y.drop ib)
 c:out.toList.Perm (X.take ia++Y.take ib)
def Mg.nS(h:Mg key X Y out ia ib)(b:Y[ib]?=some y)(g:∀u∈X.drop ia,key y<=key u):Mg key X Y (out.push y) ia (ib+1):=by
 obtain⟨a,e⟩:=Ar.mp b;have l:Y.drop ib=[y]++Y.drop (ib+1):=by rw[BA a,e];rfl
 have k:Y.take (ib+1)=Y.take ib++[y]:=by rw[Fi,b];rfl
 have s:=h.f;rw[l]at s;refine⟨?_,?_,?_⟩
 . rw[De]
   exact lK s h.d λu j v i=>by rw[Al.mp j];exact g v i
 . rw[De,Aq];exact s
 . rw[De,k,<-Aq]
   exact h.c.append_right _
def Mg.nK(h:Mg key X Y out ia ib)(i:X.drop ia=mid++X.drop (ia+k))(g:X.take (ia+k)=X.take ia++mid)(b:∀u∈mid,∀v∈Y.drop ib,key u<=key v)(a:out'.toList=out.toList++mid):Mg key X Y out' (ia+k) ib:=by
 have s:=h.d;rw[i]at s;refine⟨?_,?_,?_⟩
 . rw[a,Aq];exact s
 . rw[a];exact lK s h.f b
 . rw[a,g]
   refine(h.c.append_right mid).trans ?_;rw[Aq,Aq];exact(Es).append_left _
def Mg.kg(h:Mg key X Y out ia ib)(i:Y.drop ib=mid++Y.drop (ib+k))(g:Y.take (ib+k)=Y.take ib++mid)(b:∀u∈mid,∀v∈X.drop ia,key u<=key v)(a:out'.toList=out.toList++mid):Mg key X Y out' ia (ib+k):=by
 have s:=h.f;rw[i]at s;refine⟨?_,?_,?_⟩
 . rw[a];exact lK s h.d b
 . rw[a,Aq];exact s
 . rw[a,g,<-Aq]
   exact h.c.append_right mid
def Mg.pushX(h:Mg key X Y out ia ib)(b:X[ia]?=some x)(c:∀u∈Y.drop ib,key x<=key u):Mg key X Y (out.push x) (ia+1) ib:=by obtain⟨a,e⟩:=Ar.mp b;refine h.nK (mid:=[x]) (by rw[BA a,e];rfl) (by rw[Fi,b];rfl) (λu g v f=>by rw[Al.mp g];exact c v f) (De)
structure Res(key:Keyed->Int)(X Y:List Keyed)(r:Array Keyed):Prop where
 b:Srt key r.toList
 a:r.toList.Perm (X++Y)
def Mg.rq(h:Mg key X Y out ia ib)(b:Y.length<=ib)(a:r.toList=out.toList++X.drop ia):Res key X Y r:=by
 refine⟨by rw[a];exact h.d,?_⟩
 have:=h.c;rw[B4 b]at this;rw[a];refine(this.append_right _).trans ?_;rw[Aq];refine(Es.append_left _).trans ?_;rw[<-Aq,A8]
def Mg.oJ(h:Mg key X Y out ia ib)(f:∀u∈Y,∀v∈X.drop ia,key u<=key v)(c:r.toList=out.toList++Y.drop ib++X.drop ia):Res key X Y r:=by
 have m:=h.kg (k:=Y.length) (mid:=Y.drop ib) (by rw[Cp (show Y.length<=ib+Y.length by omega),A5]) (by rw[B4 ⋯,A8]) (λu b v a=>f u (BJ b) v a) (out':=(out.toList++Y.drop ib).toArray) rfl
 exact m.rq ⋯ c
def xU(h:Srt key l)(c:l[i]?=some x):∀u∈l.drop i,key x<=key u:=λu b=>by
 obtain⟨a,e⟩:=Ar.mp c;rw[BA a,e]at b;rcases Ao.mp b with rfl|b
 . exact CA _
 . obtain⟨j,f,rfl⟩:=Bz b
   rw[Df];rw[<-e];rw[B3]at f;exact BB.mp h i (i+1+j) a ⋯ ⋯
def zZ [Decidable c] {m1 m2}{Q:α->SortSt->Prop}{st}(b:c->wpS (model prog w) A E s m1 Q st)(a:¬c->wpS (model prog w) A E s m2 Q st):wpS (model prog w) A E s (if c then m1 else m2) Q st:=by
 by_cases h:c
 . rw[if_pos h];exact b h
 . rw[if_neg h];exact a h
structure Sm(st st':SortSt):Prop where
 d:kindOf st'=kindOf st
 g:arrOf st'=arrOf st
 f:AU st'=AU st
 e:Fb st'=Fb st
def Sm.refl{st}:Sm st st:=⟨rfl,rfl,rfl,rfl⟩
theorem Sm.trans(h:Sm a b)(k:Sm b c):Sm a c:=⟨k.d.trans h.d,k.g.trans h.g,k.f.trans h.f,k.e.trans h.e⟩
def Mg.QO(h:Mg key X Y out ia ib)(b:X.length<=ia)(a:r.toList=out.toList++Y.drop ib):Res key X Y r:=by
 refine⟨by rw[a];exact h.f,?_⟩
 have:=h.c;rw[B4 b]at this;rw[a];refine(this.append_right _).trans ?_;rw[Aq,A8]
def uf{a:Array Keyed}:(a.extract i).toList=a.toList.drop i:=by rw[DN,CY];exact B4 (by rw[B3,Ax];exact Ad _)
def mO{a:Array Keyed}:(a.extract i (i+k)).toList=(a.toList.drop i).take k:=by rw[DN,CY,Fm]
def tR{l:List Keyed}:l.drop i=(l.drop i).take k++l.drop (i+k):=by rw[<-DS,A8]
def Mg.TR{a b o:Array Keyed}(h:Mg key a.toList b.toList o ia ib)(c:∀u∈(a.toList.drop ia).take k,∀v∈b.toList.drop ib,key u<=key v):Mg key a.toList b.toList (o++a.extract ia (ia+k)) (ia+k) ib:=
 h.nK tR GX c (by rw[Bb,mO])
def Mg.TU{a b o:Array Keyed}(h:Mg key a.toList b.toList o ia ib)(c:∀u∈(b.toList.drop ib).take k,∀v∈a.toList.drop ia,key u<=key v):Mg key a.toList b.toList (o++b.extract ib (ib+k)) ia (ib+k):=
 h.kg tR GX c (by rw[Bb,mO])
theorem kA left x:∀{l},Srt key l->∃d,d<=l.length/\∀i (hi:i<l.length),(if left=true then decide (key l[i]<key x) else !decide (key x<key l[i]))=decide (i<d)
 |[],_=>⟨0,Ad _,λi hi=>absurd hi (C8 _)⟩
 |y::t,h=>by
  unfold Srt at h;rw[BK]at h;by_cases hp:(if left=true then decide (key y<key x) else !decide (key x<key y))=true
  . obtain⟨d,u,e⟩:=kA left x (l:=t) h.2
    refine⟨d+1,by rw[Ap];omega,λi hi=>?_⟩
    cases i with
    |zero=>rw[show decide (0<d+1)=true from decide_eq_true ⋯];exact hp
    |succ i=>
     rw[Ap]at hi;have:=e i ⋯
     rw[List.getElem_cons_succ,this];exact decide_eq_decide.mpr ⋯
  . refine⟨0,AV _,λi hi=>?_⟩
    rw[decide_eq_false (C8 _)];have a:key y<=key (y::t)[i]:=by
     cases i with
     |zero=>exact CA _
     |succ i=>
      rw[Ap]at hi;exact h.1 _ (Bv _)
    cases left with
    |true=>
     simp only[if_true,decide_eq_true_eq]at hp ⊢;exact decide_eq_false ⋯
    |false=>
     simp only[As,if_false,BE,decide_eq_false_iff_not]at hp ⊢;rw[Bool.not_eq_false',decide_eq_true_eq];omega
def sE{arr:Array Keyed}(k:base+n<=arr.size)(c:Srt key ((arr.toList.drop base).take n))(f:∀u∈(arr.toList.drop base).take n,u∈a₀.toList) :
 ∃d,d<=n/\Cut a₀ key left x arr base n d/\(∀u∈(arr.toList.drop base).take d,key u<=key x)/\∀u∈((arr.toList.drop base).take n).drop d,key x<=key u:=by
 have j:((arr.toList.drop base).take n).length=n:=by rw[Bu,B3,Ax];omega
 obtain⟨d,b,a⟩:=kA (key:=key) left x c;rw[j]at b;have g:∀i (hi:i<((arr.toList.drop base).take n).length),arr[base+i]?=some ((arr.toList.drop base).take n)[i]:=λi hi=>by rw[Dg,Df,<-Bi,dS]
 refine⟨d,b,λi hi=>⟨((arr.toList.drop base).take n)[i]'⋯,g i ⋯,f _ (Bv _),a i ⋯⟩,λu h=>?_,λu h=>?_⟩
 . have e:(arr.toList.drop base).take d=((arr.toList.drop base).take n).take d:=by rw[Et,D7 b]
   rw[e]at h;obtain⟨i,hi,rfl⟩:=Bz h;rw[Bu]at hi;rw[Dg];have:=a i ⋯
   rw[decide_eq_true (show i<d by omega)]at this
   cases left with
   |true=>simp only[if_true,decide_eq_true_eq]at this;omega
   |false=>simp only[As,if_false,BE,decide_eq_false_iff_not]at this;omega
 . obtain⟨i,hi,rfl⟩:=Bz h
   rw[B3]at hi;rw[Df];have:=a (d+i) ⋯
   rw[decide_eq_false (show ¬d+i<d by omega)]at this
   cases left with
   |true=>simp only[if_true,decide_eq_false_iff_not]at this;omega
   |false=>simp only[As,if_false,Bool.not_eq_false',decide_eq_true_eq]at this;omega
def l9{arr:Array Keyed}(j:base<=arr.size)(b:Srt key arr.toList)(c:∀u∈arr.toList,u∈a₀.toList) :
 ∃d,d<=arr.size-base/\Cut a₀ key left x arr base (arr.size-base) d/\(∀u∈(arr.toList.drop base).take d,key u<=key x)/\∀u∈arr.toList.drop (base+d),key x<=key u:=by
 have e:(arr.toList.drop base).take (arr.size-base)=arr.toList.drop base:=B4 (by rw[B3,Ax];exact Ad _)
 obtain⟨d,i,g,f,h⟩:=sE (a₀:=a₀) (key:=key) (left:=left) (x:=x) (arr:=arr) (base:=base) (n:=arr.size-base) ⋯ (by rw[e];exact b.sublist (G8 _ _)) (by rw[e];exact λu a=>c u (BJ a))
 rw[e,DS]at h;exact⟨d,i,g,f,h⟩
def yN{a:Array Keyed}(h:i<a.size):a[i]?=some (a.getD i (Af,Af))/\a.toList[i]?=some (a.getD i (Af,Af))/\a.getD i (Af,Af)∈a.toList:=by
 have e:a.getD i (Af,Af)=a[i]:=by simp[Iu,h]
 rw[e];exact⟨by simp[h],by simp[h],by simp⟩
noncomputable def u5:Nat->StateT SortSt Sem Unit:=sortPriv% PySem.Builtin.setMinGallop
def eW{st}{Q:Unit->SortSt->Prop}(h:∀d,Sm st d->Q () d):wpS (model prog w) A E s (u5 g) Q st:=by unfold u5;exact CN (h _ ⟨rfl,rfl,rfl,rfl⟩)
noncomputable def kc:Array Keyed->Array Keyed->StateT SortSt Sem (Array Keyed):=sortPriv% PySem.Builtin.mergeLo
structure LoI(key:Keyed->Int)(a b:Array Keyed)(c:Option (Array Keyed))(out:Array Keyed)(ia ib x:Nat):Prop where
 i:c=none
 g:Mg key a.toList b.toList out ia ib
 e:ia+1<a.size
 d:ib<b.size
 f:x<=ia+ib
def LoI.mono(h:LoI key a b c out ia ib x)(k:x'<=x):LoI key a b c out ia ib x':=⟨h.i,h.g,h.e,h.d,Au k h.f⟩
inductive LoQ(key:Keyed->Int)(a b:Array Keyed)(c:Option (Array Keyed))(out:Array Keyed)(ia ib x:Nat):Prop where
 |d (r:Array Keyed) (h:c=some r) (hr:Res key a.toList b.toList r):LoQ key a b c out ia ib x
 |e (h:LoI key a b c out ia ib x):LoQ key a b c out ia ib x
def z9{i j:Nat}(h:(i == j)=true):i=j:=CG h
def xF{i j:Nat}(h:¬(i == j)=true):i≠j:=λe=>h (beq_iff_eq.mpr e)
def lt2(h:k<=n-i)(a:i+1<n)(e:i+k+1≠n)(b:i+k≠n):i+k+1<n:=by omega
def lt3{i k n:Nat}(h:k<=n-i)(a:i<n)(e:i+k≠n):i+k<n:=by omega
def OR(L:rm prog w A E s κ a₀ key)(ha:0<a.size)(hb:0<b.size)(ma:∀x∈a.toList,x∈a₀.toList)(mb:∀x∈b.toList,x∈a₀.toList)(sa:Srt key a.toList)(sb:Srt key b.toList)
 (h1:∀u∈a.toList,key (b.getD 0 (Af,Af))<=key u) (h2:∀u∈b.toList,key u<=key (a.getD (a.size-1) (Af,Af))) {P:SortSt} (Z:kindOf P=κ)  (q:∀r F,Sm P F->Res key a.toList b.toList r->Q r F) :
 wpS (model prog w) A E s (kc a b) Q P:=by
 have n:∀{i:Nat},i+1=a.size->∀u∈b.toList,∀v∈a.toList.drop i,key u<=key v:=λ{i} hi u T v U=>by
  have gl:=yN (show i<a.size by omega)
  have:a.toList.drop i=[a.getD i (Af,Af)]:=by obtain⟨G,e⟩:=Ar.mp gl.2.1;rw[BA G,e,Cp (by rw[Ax];omega)]
  rw[this,Al]at U;rw[U,show i=a.size-1 by omega]
  exact h2 u T
 have xZ:∀{o:Array Keyed} {i j:Nat},b.size<=j->(o++a.extract i++b.extract j).toList=o.toList++a.toList.drop i:=λ{o i j} hj=>by rw[Bb,Bb,uf,uf,Cp (show b.toList.length<=j by rw[Ax];exact hj),A5]
 have t:∀{o:Array Keyed} {i j:Nat},(o++b.extract j++a.extract i).toList=o.toList++b.toList.drop j++a.toList.drop i:=λ{o i j}=>by rw[Bb,Bb,uf,uf]
 have rq:∀{o:Array Keyed} {i j:Nat},Mg key a.toList b.toList o i j->j=b.size->Res key a.toList b.toList (o++a.extract i++b.extract j):=λ{o i j} h e=>h.rq (by rw[Ax,e];exact Ad _) (xZ (Ce e.symm))
 have M:∀{o:Array Keyed} {i j:Nat},i=a.size->(o++a.extract i++b.extract j).toList=o.toList++b.toList.drop j:=λ{o i j} hj=>by rw[Bb,Bb,uf,uf,Cp (show a.toList.length<=i by rw[Ax,hj];exact Ad _),A5]
 have gb0:=yN hb;have J0:Mg key a.toList b.toList #[b.getD 0 (Af,Af)] 0 1:=by have:Mg key a.toList b.toList #[] 0 0:=⟨sa,sb,.refl _⟩;exact this.nS gb0.2.1 h1
 unfold kc;refine Ak (FN (B8 ⟨rfl,?_⟩));refine Ak (zo gb0.1 ?_);refine zZ (λe1=>Av (q _ _ .refl (rq J0 (z9 e1)))) λe1=>?_;refine zZ (λe2=>Av (q _ _ .refl (J0.oJ (n (z9 e2)) t))) λe2=>?_;refine Ak (wpS_get ?_);refine Ak (C7 (BI (I:=λx c F=>Sm P F/\LoI key a b c.1 c.2.1 c.2.2.1 c.2.2.2.1 (x+1)) (Q:=λc F=>Sm P F/\∃r,c.1=some r/\Res key a.toList b.toList r) ?step ?fin ⟨.refl,⟨rfl,J0,Cj ha (xF e2),Cj hb (xF e1),Ad _⟩⟩) ?post)
 case fin=>
  intro c F h;have h1:=h.2.e;have h2:=h.2.d;have h3:=h.2.f;omega
 case post=>
  rintro ⟨p,c⟩ F ⟨hS,r,hr,hR⟩;cases hr;exact Av (q r _ hS hR)
 case step=>
  rintro x c F _ hx ⟨hS,I⟩;refine Ak (C7 (BI (I:=λy N m=>Sm P m/\LoI key a b N.1 N.2.1 N.2.2.1 N.2.2.2.1 (c.2.2.1+c.2.2.2.1+y)) (Q:=λN m=>Sm P m/\LoQ key a b N.1 N.2.1 N.2.2.1 N.2.2.2.1 (c.2.2.1+c.2.2.2.1+1)) ?istep ?ifin ⟨hS,⟨rfl,I.g,I.e,I.d,Ad _⟩⟩) ?ipost)
  case ifin=>exact λc m h=>⟨h.1,.e (h.2.mono (E2 (Au ha (Au (EJ _ _) (Nat.le_max_right _ _))) _))⟩
  case istep=>
   rintro y N m _ hy ⟨l,B⟩;have K:=yN (B9 B.e);have H:=yN B.d;refine Ak (zo H.1 (Ak (zo K.1 (Ak (L _ _ _ _ (mb _ H.2.2) (ma _ K.2.2) (l.d.trans Z) ?_)))));refine zZ (λG=>Ak (zo H.1 ?_)) (λG=>Ak (zo K.1 ?_))
   . have V:=B.g.nS H.2.1 λu T=>Be (Fc (of_decide_eq_true G)) (xU sa K.2.1 u T)
     refine zZ (λO=>Av ⟨l,.d _ rfl (rq V (z9 O))⟩) λO=>?_;have I2:LoI key a b none _ _ _ (c.2.2.1+c.2.2.2.1+(y+1)):=⟨rfl,V,B.e,Cj B.d (xF O),FO B.f⟩;exact zZ (λ_=>Av ⟨l,.e (I2.mono (E2 (F7 1 y) _))⟩) λ_=>Av ⟨l,I2⟩
   . have V:=B.g.pushX K.2.1 λu T=>Be (Iv.mp (of_decide_eq_false (G9.mpr G))) (xU sb H.2.1 u T)
     refine zZ (λO=>Av ⟨l,.d _ rfl (V.oJ (n (z9 O)) t)⟩) λO=>?_;have I2:LoI key a b none _ _ _ (c.2.2.1+c.2.2.2.1+(y+1)):=⟨rfl,V,Cj B.e (xF O),B.d,Au (FO B.f) (Ce (Nat.add_right_comm _ _ 1))⟩;exact zZ (λ_=>Av ⟨l,.e (I2.mono (E2 (F7 1 y) _))⟩) λ_=>Av ⟨l,I2⟩
  case ipost=>
   rintro ⟨p,N⟩ m ⟨l,hQ⟩;cases hQ with
   |d r hr hR=>cases hr;exact Av ⟨l,r,rfl,hR⟩
   |e B=>
    have hc:=B.i;cases hc;refine Ak (FN (B8 ⟨rfl,?_⟩));refine Ak (C7 (BI (I:=λy p z=>Sm P z/\LoI key a b p.1 p.2.1 p.2.2.1 p.2.2.2.1 (c.2.2.1+c.2.2.2.1+1)) (Q:=λp z=>Sm P z/\LoQ key a b p.1 p.2.1 p.2.2.1 p.2.2.2.1 (c.2.2.1+c.2.2.2.1+1)) ?gstep (λc z h=>⟨h.1,.e h.2⟩) ⟨l,⟨rfl,B.g,B.e,B.d,B.f⟩⟩) ?gpost)
    case gpost=>
     rintro ⟨c2,c3⟩ z ⟨hS3,hQ⟩;cases hQ with
     |d r hr hR=>cases hr;exact Av ⟨hS3,r,rfl,hR⟩
     |e I3=>
      have hc:=I3.i;cases hc;exact Ak (CN (Av ⟨hS3.trans ⟨rfl,rfl,rfl,rfl⟩,⟨rfl,I3.g,I3.e,I3.d,Au (FO I.f) I3.f⟩⟩))
    case gstep=>
     rintro y p st1 _ hy ⟨Sm1,W⟩;have H:=yN W.d;have la:=W.e
     extract_lets s1 o s2 ia s3 ib s4 mg s5 ac bc ib1 jp mg1
     refine have hjp:∀g C,Sm P C->wpS (model prog w) A E s (jp () g) _ C:=?_;zZ (λ_=>hjp _ _ Sm1) λ_=>hjp _ _ Sm1;intro g st0 Sm0;refine Ak (eW λC Sm2=>?_);have S:=Sm0.trans Sm2;obtain⟨k,d1,d2,d3,d4⟩:=l9 (a₀:=a₀) (key:=key) (left:=false) (x:=b.getD ib (Af,Af)) (arr:=a) (base:=ia) (Em (B9 la)) sa ma;refine Ak (zo H.1 (Ak (xr L (Nat.sub_pos_of_lt (B9 la)) d1 d2 (mb _ H.2.2) (S.d.trans Z) ?_)));clear_value jp;dsimp -zeta only
     extract_lets ak jp2 out1 ia1
     have J1:=W.g.TR (k:=k) λu T v U=>Be (d3 u T) (xU sb H.2.1 v U);have gl:c.2.2.1+c.2.2.2.1+1<=ia+ib:=W.f;refine have h2:∀o ia,Mg key a.toList b.toList o ia ib->ia+1<a.size->(∀u∈a.toList.drop ia,key (b.getD ib (Af,Af))<=key u)->c.2.2.1+c.2.2.2.1+1<=ia+ib->wpS (model prog w) A E s (jp2 () o ia) _ C:=?_
      zZ (λ_=>zZ (λe=>Av ⟨S,.d _ rfl (J1.oJ (n (z9 e)) t)⟩) λe=>zZ (λe'=>Av ⟨S,.d _ rfl (J1.QO (by rw[Ax];exact Ce (z9 e').symm) (M (z9 e')))⟩) λe'=>h2 _ _ J1 (lt2 d1 la (xF e) (xF e')) d4 (Au gl (Nat.add_le_add_right (EJ _ _) _)))
       λZ=>h2 _ _ W.g la (by rw[Eg Z]at d4;exact d4) gl
     intro out0 X J Y d5 gl0;have V:=J.nS H.2.1 d5;have K:=yN (B9 Y);refine Ak (zo H.1 (zZ (λe=>Av ⟨S,.d _ rfl (rq V (z9 e))⟩) λe=>Ak (zo K.1 ?_)));have R:ib+1<b.size:=Cj W.d (xF e);obtain⟨k1,p,c2,c3,c4⟩:=l9 (a₀:=a₀) (key:=key) (left:=true) (x:=a.getD X (Af,Af)) (arr:=b) (base:=ib+1) (Em R) sb mb;refine Ak (xr L (Nat.sub_pos_of_lt R) p c2 (ma _ K.2.2) (S.d.trans Z) ?_);clear_value jp2;dsimp -zeta only
     extract_lets bk ia3 jp3 out3 ib3
     have J3:=V.TU (k:=k1) λu T v U=>Be (c3 u T) (xU sa K.2.1 v U);refine have h3:∀o D,Mg key a.toList b.toList o X D->D<b.size->(∀u∈b.toList.drop D,key (a.getD X (Af,Af))<=key u)->ib<=D->wpS (model prog w) A E s (jp3 () o D) _ C:=?_
      zZ (λ_=>zZ (λe=>Av ⟨S,.d _ rfl (rq J3 (z9 e))⟩) λe=>h3 _ _ J3 (lt3 p R (xF e)) c4 (Au (CZ _) (EJ _ _)))
       λZ=>h3 _ _ V R (by rw[Eg Z]at c4;exact c4) (CZ _)
     intro out4 ib4 J' lb4 d6 g4;have J4:=J'.pushX K.2.1 d6;refine Ak (zo K.1 (zZ (λe=>Av ⟨S,.d _ rfl (J4.oJ (n (z9 e)) t)⟩) λe=>?_));have I4:LoI key a b none _ _ _ (c.2.2.1+c.2.2.2.1+1):=⟨rfl,J4,Cj Y (xF e),lb4,Au gl0 (Ii (CZ _) g4)⟩;exact zZ (λ_=>Av ⟨S,.e I4⟩) λ_=>Av ⟨S,I4⟩
end
section
variable {prog:Program}{w:World}{A:Around}{E:Value->Shared->Prop}{s:Shared}{κ:DG}{a₀:Array Keyed}{key:Keyed->Int}
structure Mh(key:Keyed->Int)(X Y:List Keyed)(out:Array Keyed)(na nb:Nat):Prop where
 d:Srt key (X.take na++out.toList.reverse)
 e:Srt key (Y.take nb++out.toList.reverse)
 c:out.toList.reverse.Perm (X.drop na++Y.drop nb)
def jZ(g:Srt key ((p++q)++o))(f:Srt key (r++o))(h:∀u∈r,∀v∈q,key u<=key v):Srt key (r++(q++o)):=by
 unfold Srt at *;rw[Aq]at g;rw[DM]at g f ⊢;refine⟨f.1,g.2.1,λa i b c=>?_⟩;rcases AS.mp c with c|c
 . exact h a i b c
 . exact f.2.2 a i b c
def Mh.nK(h:Mh key X Y out na nb)(f:X.take na=X.take na'++mid)(g:X.drop na'=mid++X.drop na)(b:∀u∈Y.take nb,∀v∈mid,key u<=key v)(a:out'.toList.reverse=mid++out.toList.reverse):Mh key X Y out' na' nb:=by
 have s:=h.d;rw[f]at s;refine⟨?_,?_,?_⟩
 . rw[a,<-Aq];exact s
 . rw[a];exact jZ s h.e b
 . rw[a,g,Aq];exact h.c.append_left _
def Mh.kg(h:Mh key X Y out na nb)(f:Y.take nb=Y.take nb'++mid)(g:Y.drop nb'=mid++Y.drop nb)(b:∀u∈X.take na,∀v∈mid,key u<=key v)(a:out'.toList.reverse=mid++out.toList.reverse):Mh key X Y out' na nb':=by
 have s:=h.e;rw[f]at s;refine⟨?_,?_,?_⟩
 . rw[a];exact jZ s h.d b
 . rw[a,<-Aq];exact s
 . rw[a,g]
   refine(h.c.append_left mid).trans ?_;rw[<-Aq,<-Aq];exact Es.append_right _
def jJ{o:Array Keyed}:(o.push x).toList.reverse=[x]++o.toList.reverse:=by rw[De,List.reverse_append];rfl
def uq{X:List Keyed}(b:0<na)(a:X[na-1]?=some x):X.take na=X.take (na-1)++[x]/\X.drop (na-1)=[x]++X.drop na:=by
 obtain⟨h,e⟩:=Ar.mp a;refine⟨?_,?_⟩
 . have:=Fi (l:=X) (i:=na-1)
   rw[show na-1+1=na by omega,a]at this
   exact this
 . rw[BA h,e,show na-1+1=na by omega];rfl
def Mh.pushX(h:Mh key X Y out na nb)(c:0<na)(b:X[na-1]?=some x)(a:∀u∈Y.take nb,key u<=key x):Mh key X Y (out.push x) (na-1) nb:=
 h.nK (uq c b).1 (uq c b).2 (λu g v f=>by rw[Al.mp f];exact a u g) jJ
def Mh.nS(h:Mh key X Y out na nb)(c:0<nb)(b:Y[nb-1]?=some y)(a:∀u∈X.take na,key u<=key y):Mh key X Y (out.push y) na (nb-1):=
 h.kg (uq c b).1 (uq c b).2 (λu g v f=>by rw[Al.mp f];exact a u g) jJ
def g8{o a:Array Keyed}:(o++(a.extract i n).reverse).toList.reverse=(a.toList.take n).drop i++o.toList.reverse:=by rw[Bb,EK,List.reverse_append,DO,DN,CY,<-Ij]
def wG{X:List Keyed}(h:i<=n):X.take n=X.take i++(X.take n).drop i/\X.drop i=(X.take n).drop i++X.drop n:=by
 refine⟨?_,?_⟩
 . have:=(A8 i (X.take n)).symm
   rwa [Et,D7 h]at this
 . have:X.drop n=(X.drop i).drop (n-i):=by rw[DS];congr 1;omega
   rw[Ij,this,A8]
def Mh.TR{a b o:Array Keyed}(h:Mh key a.toList b.toList o na nb)(f:k<=na)(c:∀u∈b.toList.take nb,∀v∈(a.toList.take na).drop k,key u<=key v):Mh key a.toList b.toList (o++(a.extract k na).reverse) k nb:=
 h.nK (wG f).1 (wG f).2 c g8
def Mh.TU{a b o:Array Keyed}(h:Mh key a.toList b.toList o na nb)(f:k<=nb)(c:∀u∈a.toList.take na,∀v∈(b.toList.take nb).drop k,key u<=key v):Mh key a.toList b.toList (o++(b.extract k nb).reverse) na k:=
 h.kg (wG f).1 (wG f).2 c g8
def Mh.oJ(h:Mh key X Y out na nb)(b:na=0)(a:r.toList=Y.take nb++out.toList.reverse):Res key X Y r:=by
 subst b;refine⟨by rw[a];exact h.e,?_⟩
 rw[a];refine(h.c.append_left _).trans ?_;rw[CT,<-Aq];refine(Es.append_right _).trans ?_;rw[Aq,A8]
def Mh.QP(h:Mh key X Y out na nb)(b:nb=0)(a:r.toList=X.take na++out.toList.reverse):Res key X Y r:=by
 subst b;refine⟨by rw[a];exact h.d,?_⟩
 rw[a];refine(h.c.append_left _).trans ?_;rw[CT,<-Aq,A8]
def Mh.rq(h:Mh key X Y out na nb)(f:∀u∈Y.take nb,∀v∈X,key u<=key v)(c:r.toList=Y.take nb++X.take na++out.toList.reverse):Res key X Y r:=by
 have m:=h.nK (na':=0) (mid:=X.take na) (by simp) (by rw[CT,A8]) (λu b v a=>f u b v (Bq a)) (out':=(X.take na++out.toList.reverse).reverse.toArray) (by simp)
 refine m.oJ rfl ?_;rw[c];simp
def xV(h:Srt key l)(b:l[i]?=some x):∀u∈l.take (i+1),key u<=key x:=λu c=>by
 obtain⟨a,e⟩:=Ar.mp b;obtain⟨j,f,rfl⟩:=Bz c;rw[Bu]at f;rw[Dg,<-e];by_cases hji:j=i
 . subst hji;exact CA _
 . exact BB.mp h j i ⋯ a ⋯
def vA{a:Array Keyed}:(a.extract 0 n).toList=a.toList.take n:=by rw[DN,CY,CT,F3]
noncomputable def ka:Array Keyed->Array Keyed->StateT SortSt Sem (Array Keyed):=sortPriv% PySem.Builtin.mergeHi
def le0(h:0<m):m-1+n+(0+1)<=m+n:=by omega
def le1(h:0<m)(a:m+n+y<=t):m-1+n+(y+1)<=t:=by omega
def le2(h:1<n)(a:m+n+y<=t):m+(n-1)+(y+1)<=t:=by omega
def le3(h:m+1<=t)(a:t+(x+1)<=u):m+(x+1+1)<=u:=by omega
def le4(h:m'<=m)(a:n'<=n-1)(g:m+n+1<=t):m'-1+n'+1<=t:=by omega
def gt1(h:1<n)(a:n-1≠1):1<n-1:=by omega
def eG{l:List Keyed}(h:0<n)(a:u∈l.take n):u∈l.take (n-1+1):=by rwa [Nat.sub_add_cancel h]
structure HiI(key:Keyed->Int)(a b:Array Keyed)(c:Option (Array Keyed))(na nb:Nat)(out:Array Keyed)(x t:Nat):Prop where
 l:c=none
 i:Mh key a.toList b.toList out na nb
 e:0<na
 d:1<nb
 j:na<=a.size
 f:nb<=b.size
 g:na+nb+x<=t
def HiI.mono(h:HiI key a b c na nb out x t)(k:x'<=x):HiI key a b c na nb out x' t:=⟨h.l,h.i,h.e,h.d,h.j,h.f,Au (E2 k _) h.g⟩
inductive HiQ(key:Keyed->Int)(a b:Array Keyed)(c:Option (Array Keyed))(na nb:Nat)(out:Array Keyed)(x t:Nat):Prop where
 |d (r:Array Keyed) (h:c=some r) (hr:Res key a.toList b.toList r):HiQ key a b c na nb out x t
 |e (h:HiI key a b c na nb out x t):HiQ key a b c na nb out x t
def OQ(L:rm prog w A E s κ a₀ key)(ha:0<a.size)(hb:0<b.size)(ma:∀x∈a.toList,x∈a₀.toList)(mb:∀x∈b.toList,x∈a₀.toList)(sa:Srt key a.toList)(sb:Srt key b.toList)
 (h1:∀u∈a.toList,key (b.getD 0 (Af,Af))<=key u) (h2:∀u∈b.toList,key u<=key (a.getD (a.size-1) (Af,Af))) {Z:SortSt} (hk:kindOf Z=κ)  (q:∀r F,Sm Z F->Res key a.toList b.toList r->Q r F) :
 wpS (model prog w) A E s (ka a b) Q Z:=by
 have gb0:=yN hb;have p:∀{n:Nat},n<=1->∀u∈b.toList.take n,∀v∈a.toList,key u<=key v:=λ{n} hn u C v hv=>by
  have C:u∈b.toList.take 1:=Bq (i:=n) (by rwa [Et,D7 hn])
  have e:b.toList.take 1=[b.getD 0 (Af,Af)]:=by have:=Fi (l:=b.toList) (i:=0);rw[gb0.2.1]at this;exact this
  rw[e,Al]at C;rw[C];exact h1 v hv
 have H:∀{o:Array Keyed} {n m:Nat},n=0->(a.extract 0 n++b.extract 0 m++o.reverse).toList=b.toList.take m++o.toList.reverse:=λ{o n m} hn=>by subst hn;rw[Bb,Bb,vA,vA,EK,Ik,D6]
 have endZ:∀{o:Array Keyed} {n m:Nat},m=0->(a.extract 0 n++b.extract 0 m++o.reverse).toList=a.toList.take n++o.toList.reverse:=λ{o n m} hn=>by subst hn;rw[Bb,Bb,vA,vA,EK,Ik,A5]
 have G:∀{o:Array Keyed} {n m:Nat},(b.extract 0 m++a.extract 0 n++o.reverse).toList=b.toList.take m++a.toList.take n++o.toList.reverse:=λ{o n m}=>by rw[Bb,Bb,vA,vA,EK]
 have ga0:=yN (show a.size-1<a.size by omega)
 have J0:Mh key a.toList b.toList #[a.getD (a.size-1) (Af,Af)] (a.size-1) b.size:=by
  have:Mh key a.toList b.toList #[] a.size b.size:=by
   have ea:a.toList.take a.size=a.toList:=B4 (by rw[Ax];exact Ad _)
   have eb:b.toList.take b.size=b.toList:=B4 (by rw[Ax];exact Ad _)
   refine⟨?_,?_,?_⟩
   . rw[ea];simpa using sa
   . rw[eb];simpa using sb
   . rw[Cp (by rw[Ax];exact Ad _),Cp (by rw[Ax];exact Ad _)];exact .refl _
  exact this.pushX ha ga0.2.1 λu C=>h2 u (Bq C)
 unfold ka;refine Ak (FN (B8 ⟨rfl,?_⟩));refine Ak (zo ga0.1 ?_);refine zZ (λe1=>Av (q _ _ .refl (J0.oJ (z9 e1) (H (z9 e1))))) λe1=>?_;refine zZ (λe2=>Av (q _ _ .refl (J0.rq (p (Ce (z9 e2))) G))) λe2=>?_;refine Ak (wpS_get ?_);refine Ak (C7 (BI (I:=λx c F=>Sm Z F/\HiI key a b c.1 c.2.1 c.2.2.1 c.2.2.2.1 (x+1) (a.size+b.size)) (Q:=λc F=>Sm Z F/\∃r,c.1=some r/\Res key a.toList b.toList r) ?step ?fin ⟨.refl,⟨rfl,J0,D8 (xF e1),Cj hb (xF e2).symm,He _ _,Ad _,le0 ha⟩⟩) ?post)
 case fin=>
  intro c F h;have h3:=h.2.g;omega
 case post=>
  rintro ⟨D,c⟩ F ⟨hS,r,hr,hR⟩;cases hr;exact Av (q r _ hS hR)
 case step=>
  rintro x c F _ hx ⟨hS,I⟩;refine Ak (C7 (BI (I:=λy X z=>Sm Z z/\HiI key a b X.1 X.2.1 X.2.2.1 X.2.2.2.1 y (c.2.1+c.2.2.1)) (Q:=λX z=>Sm Z z/\HiQ key a b X.1 X.2.1 X.2.2.1 X.2.2.2.1 1 (c.2.1+c.2.2.1)) ?istep ?ifin ⟨hS,⟨rfl,I.i,I.e,I.d,I.j,I.f,Ad _⟩⟩) ?ipost)
  case ifin=>exact λc z h=>⟨h.1,.e (h.2.mono (Au ha (Au (EJ _ _) (Nat.le_max_right _ _))))⟩
  case istep=>
   rintro y X z _ hy ⟨t,B⟩;have V:=yN (AK (F8 B.e Fz) B.j);have T:=yN (AK (F8 (B9 B.d) Fz) B.f);refine Ak (zo T.1 (Ak (zo V.1 (Ak (L _ _ _ _ (mb _ T.2.2) (ma _ V.2.2) (t.d.trans hk) ?_)))));refine zZ (λhlt=>Ak (zo V.1 ?_)) (λhlt=>Ak (zo T.1 ?_))
   . have U:=B.i.pushX B.e V.2.1 λu C=>Be (xV sb T.2.1 u (eG (B9 B.d) C)) (Fc (of_decide_eq_true hlt))
     refine zZ (λW=>Av ⟨t,.d _ rfl (U.oJ (z9 W) (H (z9 W)))⟩) λW=>?_;have I2:HiI key a b none _ _ _ (y+1) (c.2.1+c.2.2.1):=⟨rfl,U,D8 (xF W),B.d,Au (He _ _) B.j,B.f,le1 B.e B.g⟩;exact zZ (λ_=>Av ⟨t,.e (I2.mono (F7 1 y))⟩) λ_=>Av ⟨t,I2⟩
   . have U:=B.i.nS (B9 B.d) T.2.1 λu C=>Be (xV sa V.2.1 u (eG B.e C)) (Iv.mp (of_decide_eq_false (G9.mpr hlt)))
     refine zZ (λW=>Av ⟨t,.d _ rfl (U.rq (p (Ce (z9 W))) G)⟩) λW=>?_;have I2:HiI key a b none _ _ _ (y+1) (c.2.1+c.2.2.1):=⟨rfl,U,B.e,gt1 B.d (xF W),B.j,Au (He _ _) B.f,le2 B.d B.g⟩;exact zZ (λ_=>Av ⟨t,.e (I2.mono (F7 1 y))⟩) λ_=>Av ⟨t,I2⟩
  case ipost=>
   rintro ⟨D,X⟩ z ⟨t,hQ⟩;cases hQ with
   |d r hr hR=>cases hr;exact Av ⟨t,r,rfl,hR⟩
   |e B=>
    have hc:=B.l;cases hc;refine Ak (FN (B8 ⟨rfl,?_⟩));refine Ak (C7 (BI (I:=λy D K=>Sm Z K/\HiI key a b D.1 D.2.1 D.2.2.1 D.2.2.2.1 1 (c.2.1+c.2.2.1)) (Q:=λD K=>Sm Z K/\HiQ key a b D.1 D.2.1 D.2.2.1 D.2.2.2.1 1 (c.2.1+c.2.2.1)) ?gstep (λc K h=>⟨h.1,.e h.2⟩) ⟨t,⟨rfl,B.i,B.e,B.d,B.j,B.f,B.g⟩⟩) ?gpost)
    case gpost=>
     rintro ⟨c2,c3⟩ K ⟨hS3,hQ⟩;cases hQ with
     |d r hr hR=>cases hr;exact Av ⟨hS3,r,rfl,hR⟩
     |e I3=>
      have hc:=I3.l;cases hc;exact Ak (CN (Av ⟨hS3.trans ⟨rfl,rfl,rfl,rfl⟩,⟨rfl,I3.i,I3.e,I3.d,I3.j,I3.f,le3 I3.g I.g⟩⟩))
    case gstep=>
     rintro y D st1 _ hy ⟨Sm1,M⟩;have T:=yN (AK (F8 (B9 M.d) Fz) M.f)
     extract_lets s1 na s2 nb s3 o s4 mg s5 ac bc nb1 jp mg1
     have gl:na+nb+1<=c.2.1+c.2.2.1:=M.g;have la:0<na:=M.e;have lb:0<nb:=B9 M.d;have ua:na<=a.size:=M.j;refine have hjp:∀g N,Sm Z N->wpS (model prog w) A E s (jp () g) _ N:=?_;zZ (λ_=>hjp _ _ Sm1) λ_=>hjp _ _ Sm1;intro g st0 Sm0;refine Ak (eW λN Sm2=>?_);have S:=Sm0.trans Sm2;obtain⟨k,d1,d2,d3,d4⟩:=sE (a₀:=a₀) (key:=key) (left:=false) (x:=b.getD (nb-1) (Af,Af)) (arr:=a) (base:=0) (n:=na) (Au (Ce (BS _)) ua) (sa.sublist (Dd _ _)) (λu C=>ma u (Bq C));refine Ak (zo T.1 (Ak (xr L (F8 la Fz) d1 d2 (mb _ T.2.2) (S.d.trans hk) ?_)));clear_value jp;dsimp -zeta only
     extract_lets kk ak jp2 out1 na1
     have J1:=M.i.TR d1 λu C v hv=>Be (xV sb T.2.1 u (eG lb C)) (d4 v hv);refine have h2:∀R o,Mh key a.toList b.toList o R nb->0<R->(∀u∈a.toList.take R,key u<=key (b.getD (nb-1) (Af,Af)))->R<=na->wpS (model prog w) A E s (jp2 () R o) _ N:=?_
      zZ (λ_=>zZ (λe=>Av ⟨S,.d _ rfl (J1.oJ (z9 e) (H (z9 e)))⟩) λe=>h2 _ _ J1 (D8 (xF e)) d3 d1)
       λhk=>h2 _ _ M.i la (F9 d1 (Nat.le_of_sub_eq_zero (Eg hk))▸d3) (Ad _)
     intro O out0 J Y d5 g0;have U:=J.nS lb T.2.1 d5;have V:=yN (AK (F8 Y Fz) (Au g0 ua));refine Ak (zo T.1 (zZ (λe=>Av ⟨S,.d _ rfl (U.rq (p (Ce (z9 e))) G)⟩) λe=>Ak (zo V.1 ?_)));have lb1:1<nb-1:=gt1 M.d (xF e);have ub1:nb-1<=b.size:=Au (He _ _) M.f;obtain⟨k1,D,c2,c3,c4⟩:=sE (a₀:=a₀) (key:=key) (left:=true) (x:=a.getD (O-1) (Af,Af)) (arr:=b) (base:=0) (n:=nb-1) (Au (Ce (BS _)) ub1) (sb.sublist (Dd _ _)) (λu C=>mb u (Bq C));refine Ak (xr L (F8 (B9 lb1) Fz) D c2 (ma _ V.2.2) (S.d.trans hk) ?_);clear_value jp2;dsimp -zeta only
     extract_lets kk1 bk na3 jp3 out3 nb3
     have J3:=U.TU D λu C v hv=>Be (xV sa V.2.1 u (eG Y C)) (c4 v hv);refine have h3:∀P o,Mh key a.toList b.toList o O P->1<P->(∀u∈b.toList.take P,key u<=key (a.getD (O-1) (Af,Af)))->P<=nb-1->wpS (model prog w) A E s (jp3 () P o) _ N:=?_
      zZ (λ_=>zZ (λe=>Av ⟨S,.d _ rfl (J3.rq (p (Ce (z9 e))) G)⟩) λe=>zZ (λe'=>Av ⟨S,.d _ rfl (J3.QP (z9 e') (endZ (z9 e')))⟩) λe'=>h3 _ _ J3 (Cj (D8 (xF e')) (xF e).symm) c3 D)
       λhk=>h3 _ _ U lb1 ((congrArg (λn=>∀u∈b.toList.take n,key u<=key (a.getD (O-1) (Af,Af))) (F9 D (Nat.le_of_sub_eq_zero (Eg hk)))).mp c3) (Ad _)
     intro nb4 out4 J' lb4 d6 g4;have J4:=J'.pushX Y V.2.1 d6;refine Ak (zo V.1 (zZ (λe=>Av ⟨S,.d _ rfl (J4.oJ (z9 e) (H (z9 e)))⟩) λe=>?_));have I4:HiI key a b none _ _ _ 1 (c.2.1+c.2.2.1):=⟨rfl,J4,D8 (xF e),lb4,Au (He _ _) (Au g0 ua),Au g4 ub1,le4 g0 g4 gl⟩;exact zZ (λ_=>Av ⟨S,.e I4⟩) λ_=>Av ⟨S,I4⟩
end
def Vy{x}{Q}{st}(h:Q ⟨⟩ x):wpS M A E s (set x:StateT σ Sem PUnit) Q st:=by unfold wpS;rw[StateT.run_set];exact Ab ⟨rfl,h⟩
def mY h:kk key a i=key (a.toList[i]'(by rw[Ax];exact h)):=by unfold kk;congr 1;simp[Iu,h]
def xq{a:Array Keyed}{lo n}(h:lo+n<=a.size):((a.toList.drop lo).take n).length=n:=by rw[Bu,B3,Ax];omega
def XC{lo n}(h:lo+n<=a.size)(c:SIn key a lo n):Srt key ((a.toList.drop lo).take n):=by
 unfold Srt;rw[BB];intro i j g b f;rw[xq h]at g b;have k:=mY (key:=key) (a:=a) (i:=lo+i) ⋯
 have e:=mY (key:=key) (a:=a) (i:=lo+j) ⋯
 rw[Dg,Df,Dg,Df,<-k,<-e];exact c i j ⋯ b
def Zx{lo n}(h:lo+n<=a.size)(b:Srt key ((a.toList.drop lo).take n)):SIn key a lo n:=λi j c k=>by
 by_cases e:i=j
 . subst e;exact CA _
 . have:=BB.mp b i j (by rw[xq h];omega) (by rw[xq h];omega) ⋯
   have g:=mY (key:=key) (a:=a) (i:=lo+i) ⋯
   have f:=mY (key:=key) (a:=a) (i:=lo+j) ⋯
   rw[Dg,Df,Dg,Df,<-g,<-f]at this;exact this
theorem jK o:∀m j (a:Array Keyed),o+j+m.length<=a.size->((m.zipIdx j).foldl (λa p=>a.setIfInBounds (o+p.2) p.1) a).toList=a.toList.take (o+j)++m++a.toList.drop (o+j+m.length)
 |[],j,a,_=>by simp
 |x::t,j,a,h=>by
  rw[Ap]at h;rw[List.zipIdx_cons,HK,jK o t (j+1) _ (by rw[C9];omega)]
  have d:o+j<a.toList.length:=by rw[Ax];omega
  show ((a.setIfInBounds (o+j) x).toList.take (o+(j+1))++t)++_=_;rw[GY];have b:(a.toList.set (o+j) x).take (o+(j+1))=a.toList.take (o+j)++[x]:=by rw[show o+(j+1)=(o+j)+1 by omega,Fi,List.take_set_of_le (Ad _),B1 d];rfl
  have e:(a.toList.set (o+j) x).drop (o+(j+1)+t.length)=a.toList.drop (o+j+(x::t).length):=by rw[List.drop_set_of_lt ⋯,Ap];congr 1;omega
  rw[b,e,Aq,Aq,Aq];rfl
def XF{a b:Array Keyed}(f:sa+n<=a.size)(c:M.Perm ((a.toList.drop sa).take n))(e:b.toList=a.toList.take sa++M++a.toList.drop (sa+n)):b.Perm a/\(b.toList.drop sa).take n=M/\∀j,j<sa\/sa+n<=j->b[j]?=a[j]?:=by
 have k:M.length=n:=by rw[c.length_eq,xq f]
 have i:(a.toList.take sa).length=sa:=by rw[Bu,Ax];omega
 refine⟨?_,?_,λj h=>?_⟩
 . rw[CM,e]
   have g:a.toList=a.toList.take sa++(a.toList.drop sa).take n++a.toList.drop (sa+n):=by rw[Aq,<-tR,A8]
   refine GI.trans ?_ (.of_eq g.symm);exact(c.append_left _).append_right _
 . rw[e,Aq,List.drop_append_of_le_length ⋯,Cp ⋯,D6,Gf ⋯,B4 ⋯]
 . rw[<-Bi,<-Bi,e,Aq]
   rcases h with h|h
   . rw[A0 ⋯,BP h]
   . rw[AW ⋯,AW ⋯,CU]
     congr 1;omega
def lJ(b:Srt key l)(a:Srt key m)(h:∀u∈l,∀v∈m,key u<=key v):Srt key (l++m):=DM.mpr ⟨b,a,h⟩
def iY(L:rm prog w A E s κ a₀ key){st}(O:Bs κ a₀ st)(h1:(AU st)[i]?=some (sa,na,p1))(h2:(AU st)[i+1]?=some (sb,nb,p2))(hs:sb=sa+na)(ha:0<na)(hb:0<nb)(hz:sb+nb<=a₀.size)(sA:SIn key (arrOf st) sa na)(sB:SIn key (arrOf st) sb nb)
 (h:∀F,Bs κ a₀ F->AU F=((AU st).setIfInBounds i (sa,na+nb,p1)).eraseIdxIfInBounds (i+1)->SIn key (arrOf F) sa (na+nb)->(∀j,j<sa\/sa+(na+nb)<=j->(arrOf F)[j]?=(arrOf st)[j]?)->Q true F) :
 wpS (model prog w) A E s (mergeAt' i) Q st:=by
 subst hs;have hsz:=O.size;have t:∀x∈(arrOf st).toList,x∈a₀.toList:=λx D=>(CM.mp O.a).mem_iff.mp D;have q:=O.c;have H:=O.b;have G:=O.a;cases st with
 |mk kd a pd mg fl=>
 dsimp only[arrOf,AU,Gi,Fb]at *;have C:=XC ⋯ sA
 have B:=XC ⋯ sB
 have gb:=yN (a:=a) (i:=sa+na) ⋯
 have gl:=yN (a:=a) (i:=sa+na-1) ⋯
 obtain⟨k,d1,d2,d3,d4⟩:=sE (a₀:=a₀) (key:=key) (left:=false) (x:=a.getD (sa+na) (Af,Af)) (arr:=a) (base:=sa) (n:=na) ⋯ C (λu m=>t u (BJ (Bq m)))
 obtain⟨o,c1,c2,c3,c4⟩:=sE (a₀:=a₀) (key:=key) (left:=true) (x:=a.getD (sa+na-1) (Af,Af)) (arr:=a) (base:=sa+na) (n:=nb) ⋯ B (λu m=>t u (BJ (Bq m)))
 have U:(a.toList.drop sa).take (na+nb)=(a.toList.drop sa).take na++(a.toList.drop (sa+na)).take nb:=by rw[GX,DS]
 have I:∀u∈(a.toList.drop (sa+na)).take nb,key (a.getD (sa+na) (Af,Af))<=key u:=λu m=>by
  have e0:((a.toList.drop (sa+na)).take nb)[0]?=some (a.getD (sa+na) (Af,Af)):=by rw[BP hb,CU,Fd];exact gb.2.1
  exact xU B e0 u m
 have P:∀u∈(a.toList.drop sa).take na,key u<=key (a.getD (sa+na-1) (Af,Af)):=λu m=>by
  have e0:((a.toList.drop sa).take na)[na-1]?=some (a.getD (sa+na-1) (Af,Af)):=by rw[BP ⋯,CU,show sa+(na-1)=sa+na-1 by omega];exact gl.2.1
  exact xV C e0 u (by rw[show na-1+1=na by omega,Et,Nat.min_self];exact m)
 have z:(∀u∈(a.toList.drop sa).take na,∀v∈(a.toList.drop (sa+na)).take nb,key u<=key v)->SIn key a sa (na+nb):=λhh=>Zx ⋯ (by rw[U];exact lJ C B hh)
 unfold mergeAt';refine Ak (wpS_get ?_);dsimp only;rw[h1,h2];dsimp only;refine Ak (Vy ?_);refine Ak (zo gb.1 (Ak (xr L ha d1 d2 (t _ gb.2.2) q ?_)));dsimp only;by_cases e1:na-k=0
 . rw[if_pos (by simpa using e1)]
   refine Av (h _ ⟨q,G,H⟩ rfl (z λu m v y=>?_) λj _=>rfl);rw[show na=k by omega]at m
   exact Be (d3 u m) (I v y)
 . rw[if_neg (by simpa using e1)]
   rw[show sa+k+(na-k)-1=sa+na-1 by omega]
   refine Ak (zo gl.1 (Ak (xr L (show nb-1<nb by omega) c1 c2 (t _ gl.2.2) q ?_)))
   dsimp only;by_cases e2:o=0
   . rw[if_pos (by simpa using e2)]
     refine Av (h _ ⟨q,G,H⟩ rfl (z λu m v y=>?_) λj _=>rfl);rw[e2,CT]at c4;exact Be (P u m) (c4 v y)
   . rw[if_neg (by simpa using e2)]
     have N:(a.extract (sa+k) (sa+na)).toList=((a.toList.drop sa).take na).drop k:=by rw[DN,CY,Ij,DS,show sa+na-(sa+k)=na-k by omega]
     have K:(a.extract (sa+na) (sa+na+o)).toList=(a.toList.drop (sa+na)).take o:=mO;have J:(a.toList.drop (sa+na)).take o=((a.toList.drop (sa+na)).take nb).take o:=by rw[Et,D7 c1]
     have lx:(a.extract (sa+k) (sa+na)).size=na-k:=by rw[<-Ax,N,B3,xq ⋯]
     have ly:(a.extract (sa+na) (sa+na+o)).size=o:=by rw[<-Ax,K,xq ⋯]
     have y0:(a.extract (sa+na) (sa+na+o)).getD 0 (Af,Af)=a.getD (sa+na) (Af,Af):=by
      have:=(yN (a:=a.extract (sa+na) (sa+na+o)) (i:=0) ⋯).2.1
      rw[K,BP ⋯,CU,Fd,gb.2.1]at this
      exact(AL this).symm
     have xl:(a.extract (sa+k) (sa+na)).getD ((a.extract (sa+k) (sa+na)).size-1) (Af,Af)=a.getD (sa+na-1) (Af,Af):=by
      have:=(yN (a:=a.extract (sa+k) (sa+na)) (i:=(a.extract (sa+k) (sa+na)).size-1) ⋯).2.1
      rw[lx]at this ⊢;rw[N,CU,BP ⋯,CU,show sa+(k+(na-k-1))=sa+na-1 by omega,gl.2.1]at this
      exact(AL this).symm
     have W:∀(r:Array Keyed) (l:SortSt),Sm (F6 kd a ((pd.setIfInBounds i (sa,na+nb,p1)).eraseIdxIfInBounds (i+1)) mg fl) l->Res key (a.extract (sa+k) (sa+na)).toList (a.extract (sa+na) (sa+na+o)).toList r ->
      Q (Fb l).isNone (F6 (Gi l) (r.toList.zipIdx.foldl (λa p=>a.setIfInBounds (sa+k+p.2) p.1) (arrOf l)) (AU l) (gallopOf l) (Fb l)):=λr l S R=>by
      have f1:=S.e;have f2:=S.g;have f3:=S.f;have f4:=S.d;dsimp only[arrOf,AU,Gi,Fb]at f1 f2 f3 f4;have hrl:r.toList.length=na-k+o:=by rw[R.a.length_eq,Aw,Ax,Ax,lx,ly]
      have pl:=jK (sa+k) r.toList 0 a ⋯
      rw[Fd,hrl,show sa+k+(na-k+o)=sa+na+o by omega]at pl
      have sp:a.toList.take (sa+k)=a.toList.take sa++(a.toList.drop sa).take k:=GX;have sq:a.toList.drop (sa+na+o)=((a.toList.drop (sa+na)).take nb).drop o++a.toList.drop (sa+(na+nb)):=by have:=(wG (X:=a.toList.drop (sa+na)) c1).2;rw[DS,DS]at this;rw[this];congr 2;omega
      rw[sp,sq]at pl;have pl2:(r.toList.zipIdx.foldl (λa p=>a.setIfInBounds (sa+k+p.2) p.1) a).toList=a.toList.take sa++((a.toList.drop sa).take k++r.toList++((a.toList.drop (sa+na)).take nb).drop o)++a.toList.drop (sa+(na+nb)):=by rw[pl];simp only[Aq]
      have rp:=R.a;rw[N,K,J]at rp;have Y:(a.toList.drop sa).take k=((a.toList.drop sa).take na).take k:=by rw[Et,D7 d1]
      have hMp:((a.toList.drop sa).take k++r.toList++((a.toList.drop (sa+na)).take nb).drop o).Perm ((a.toList.drop sa).take (na+nb)):=by rw[U];refine((rp.append_left _).append_right _).trans ?_;rw[Y,<-Aq,A8,Aq,A8]
      obtain⟨w1,w2,w3⟩:=XF (n:=na+nb) ⋯ hMp pl2
      have M:Srt key ((a.toList.drop sa).take k++r.toList++((a.toList.drop (sa+na)).take nb).drop o):=by
       have T:∀u∈r.toList,u∈((a.toList.drop sa).take na).drop k\/u∈((a.toList.drop (sa+na)).take nb).take o:=λu m=>AS.mp (rp.mem_iff.mp m);refine lJ (lJ (by rw[Y];exact C.sublist (Dd _ _)) R.b λu m v y=>?_) (B.sublist (G8 _ _)) λu m v y=>?_
       . rcases T v y with y|y
         . exact Be (d3 u m) (d4 v y)
         . exact Be (d3 u m) (I v (Bq y))
       . rcases AS.mp m with m|m
         . exact Be (d3 u m) (I v (BJ y))
         . rcases T u m with m|m
           . exact Be (P u (BJ m)) (c4 v y)
           . rw[<-J]at m
             exact Be (c3 u m) (c4 v y)
      have f0:Fb l=none:=f1.trans H;have q0:(Fb l).isNone=true:=by rw[f0];rfl
      rw[q0];refine h _ ⟨f4.trans q,?_,f0⟩ f3 ?_ ?_
      . show (r.toList.zipIdx.foldl _ (arrOf l)).Perm a₀
        rw[show arrOf l=a from f2];exact w1.trans G
      . show SIn key (r.toList.zipIdx.foldl _ (arrOf l)) sa (na+nb)
        rw[show arrOf l=a from f2];exact Zx (by rw[w1.size_eq];omega) (by rw[w2];exact M)
      . show ∀j,_->(r.toList.zipIdx.foldl _ (arrOf l))[j]?=_
        rw[show arrOf l=a from f2];exact w3
     have mx:∀x∈(a.extract (sa+k) (sa+na)).toList,x∈a₀.toList:=λx D=>t x (by rw[N]at D;exact BJ (Bq (BJ D)))
     have my:∀x∈(a.extract (sa+na) (sa+na+o)).toList,x∈a₀.toList:=λx D=>t x (by rw[K]at D;exact BJ (Bq D))
     have sx:Srt key (a.extract (sa+k) (sa+na)).toList:=by rw[N];exact C.sublist (G8 _ _)
     have sy:Srt key (a.extract (sa+na) (sa+na+o)).toList:=by rw[K,J];exact B.sublist (Dd _ _)
     have Z:∀u∈(a.extract (sa+k) (sa+na)).toList,key ((a.extract (sa+na) (sa+na+o)).getD 0 (Af,Af))<=key u:=by rw[y0,N];exact d4
     have V:∀u∈(a.extract (sa+na) (sa+na+o)).toList,key u<=key ((a.extract (sa+k) (sa+na)).getD ((a.extract (sa+k) (sa+na)).size-1) (Af,Af)):=by rw[xl,K];exact c3
     refine zZ (λ_=>?_) λ_=>?_
     . exact Ak (OR L ⋯ ⋯ mx my sx sy Z V q λr l S R=>Ak (CN (Ak (wpS_get (Av (W r l S R))))))
     . exact Ak (OQ L ⋯ ⋯ mx my sx sy Z V q λr l S R=>Ak (CN (Ak (wpS_get (Av (W r l S R))))))
section
variable {prog:Program}{w:World}{A:Around}{E:Value->Shared->Prop}{s:Shared}{κ:DG}{a₀:Array Keyed}{key:Keyed->Int}
def Runs(key:Keyed->Int)(a:Array Keyed):Nat->List (Nat × Nat × Nat)->Nat->Prop
 |st,[],fin=>st=fin
 |st,(x,n,_)::r,fin=>x=st/\0<n/\SIn key a x n/\Runs key a (st+n) r fin
theorem se:∀{l r} {st fin},Runs key a st (l++r) fin↔∃m,Runs key a st l m/\Runs key a m r fin
 |[],r,st,fin=>⟨λh=>⟨st,rfl,h⟩,λ⟨m,h1,h2⟩=>by cases h1;exact h2⟩
 |(x,n,p)::l,r,st,fin=>by show (x=st/\0<n/\SIn key a x n/\Runs key a (st+n) (l++r) fin)↔_;rw[se (l:=l)];exact⟨λ⟨h1,h2,h3,m,h4,h5⟩=>⟨m,⟨h1,h2,h3,h4⟩,h5⟩,λ⟨m,⟨h1,h2,h3,h4⟩,h5⟩=>⟨h1,h2,h3,m,h4,h5⟩⟩
theorem sg:∀{l} {st fin},Runs key a st l fin->st+l.length<=fin
 |[],st,fin,h=>by cases h;exact Ad _
 |(x,n,p)::l,st,fin,h=>by have:=sg h.2.2.2;have:=h.2.1;rw[Ap];omega
theorem wD:∀{l} {st fin},(∀j,st<=j->j<fin->b[j]?=a[j]?)->Runs key a st l fin->Runs key b st l fin
 |[],st,fin,_,h=>h
 |(x,n,p)::l,st,fin,hc,h=>by
  have d:=sg h.2.2.2;refine⟨h.1,h.2.1,λi j c f=>?_,wD (λj m g=>hc j ⋯ g) h.2.2.2⟩
  have k:=h.1;rw[y7 (hc (x+i) ⋯ ⋯),y7 (hc (x+j) ⋯ ⋯)]
  exact h.2.2.1 i j c f
structure Rn(κ:DG)(a₀:Array Keyed)(key:Keyed->Int)(lo:Nat)(st:SortSt):Prop where
 b:Bs κ a₀ st
 a:Runs key (arrOf st) 0 (AU st).toList lo
def nV{lo n}(h:∀j,lo<=j->b[j]?=a[j]?)(f:SIn key a lo n):SIn key b lo n:=λi j c g=>by rw[y7 (h (lo+i) ⋯),y7 (h (lo+j) ⋯)];exact f i j c g
theorem nU:∀{l l'} {st fin},l.map (λx=>(x.1,x.2.1))=l'.map (λx=>(x.1,x.2.1))->Runs key a st l fin->Runs key a st l' fin
 |[],[],st,fin,_,h=>h
 |[],_::_,st,fin,e,h=>by cases e
 |_::_,[],st,fin,e,h=>by cases e
 |(x,n,p)::l,(x',n',p')::l',st,fin,e,h=>by
  rw[AG,AG]at e;injection e with e1 e2
  injection e1 with e3 e4
  dsimp only at e3 e4;subst e3 e4;exact⟨h.1,h.2.1,h.2.2.1,nU e2 h.2.2.2⟩
def qR{st}{lo n}(h:Rn κ a₀ key lo st)(f:SIn key (arrOf st) lo n)(g:0<n):Rn κ a₀ key (lo+n) (setPending st ((AU st).push (lo,n,0))):=by refine⟨⟨h.b.c,h.b.a,h.b.b⟩,?_⟩;show Runs key (arrOf st) 0 ((AU st).push (lo,n,0)).toList (lo+n);rw[De,se];exact⟨lo,h.a,rfl,g,f,rfl⟩
def YO{st}{lo k pw}(h:Rn κ a₀ key lo st):Rn κ a₀ key lo (setPending st ((AU st).modify k λx=>(x.1,x.2.1,pw))):=by
 refine⟨⟨h.b.c,h.b.a,h.b.b⟩,?_⟩;show Runs key (arrOf st) 0 ((AU st).modify k λx=>(x.1,x.2.1,pw)).toList lo;refine nU ?_ h.a;rw[Array.toList_modify];refine Ha λi=>?_;rw[An,An,List.getElem?_modify];cases (AU st).toList[i]? with
 |none=>rfl
 |some v=>
  show some (v.1,v.2.1)=some ((if k=i then (v.1,v.2.1,pw) else v).1,(if k=i then (v.1,v.2.1,pw) else v).2.1)
  split<;>rfl
def ZG [Decidable c] (g:a+1<n)(f:b+1<n):(if c then a else b)+1<n:=by
 by_cases h:c
 . rw[if_pos h];exact g
 . rw[if_neg h];exact f
def Ra{a:Type}{l:List a}(h:i+1<l.length):∃d x y e,l=d++x::y::e/\d.length=i:=by
 refine⟨l.take i,l[i],l[i+1],l.drop (i+2),?_,by rw[Bu];omega⟩
 rw[<-BA,<-BA,A8]
def pP(L:rm prog w A E s κ a₀ key){st}{i lo}(h:Rn κ a₀ key lo st)(K:lo<=a₀.size)(k:i+1<(AU st).size)
 (q:∀d,Rn κ a₀ key lo d->(AU d).size+1=(AU st).size->(∀j,lo<=j->(arrOf d)[j]?=(arrOf st)[j]?)->Q true d):wpS (model prog w) A E s (mergeAt' i) Q st:=by
 obtain⟨G,⟨x,n,t⟩,⟨F,v,C⟩,D,e,c⟩:=Ra (l:=(AU st).toList) (i:=i) (by rw[Ax];exact k)
 have y:=h.a;rw[e,se]at y;obtain⟨m,p,Z,P,B,X,N,u,r⟩:=y;subst Z;subst X;have I:=sg r;have J:=sg p;have T:(AU st)[i]?=some (x,n,t):=by rw[<-Bi,e,AW ⋯,c,Eu];rfl
 have R:(AU st)[i+1]?=some (x+n,v,C):=by rw[<-Bi,e,AW ⋯,c,Fm];rfl
 refine iY L h.b T R rfl P N ⋯ B u λd o z H f=>q d ⟨o,?_⟩ ?_ λj g=>f j (.inr ⋯)
 . have V:(AU d).toList=G++(x,n+v,t)::D:=by
    rw[z,Ht,dif_pos (by rw[C9];exact k),Array.toList_eraseIdx,GY,e]
    rw[List.set_append_right _ _ ⋯,c,Eu,List.set_cons_zero,List.eraseIdx_append_of_length_le ⋯,c,Fm]
    rfl
   rw[V,se];refine⟨x,wD (λj _ g=>f j (.inl g)) p,rfl,⋯,H,?_⟩
   rw[<-Nat.add_assoc];exact wD (λj g _=>f j (.inr ⋯)) r
 . rw[z,Ht,dif_pos (by rw[C9];exact k),Array.size_eraseIdx,C9]
   omega
def eK(L:rm prog w A E s κ a₀ key)(D:Dis key a₀){st}(M:Bs κ a₀ st)(hp:AU st=#[])(h2:2<=a₀.size)
 (q:∀d,Bs κ a₀ d->SIn key (arrOf d) 0 a₀.size->Q () d):wpS (model prog w) A E s sortRuns' Q st:=by
 rw[sortRuns'_eq];refine Ak (wpS_get ?_);dsimp only;rw[M.size];generalize minRun' a₀.size a₀.size 0=mr;refine Ak (C7 (BI (I:=λx c d=>∃l,c=(none,l)/\x<=l/\l<=a₀.size/\Rn κ a₀ key l d) (Q:=λc d=>c=(none,a₀.size)/\Rn κ a₀ key a₀.size d) ?step ?fin ⟨0,rfl,Ad _,AV _,M,by rw[hp];rfl⟩) ?post)
 case fin=>
  rintro c d ⟨l,rfl,o,h2,r⟩;have:l=a₀.size:=by omega
  subst this;exact⟨rfl,r⟩
 case step=>
  rintro x c d _ hx ⟨l,rfl,o,hlo,r⟩;dsimp only;by_cases hge:l ≥ a₀.size
  . rw[if_pos hge]
    have:l=a₀.size:=by omega
    subst this;exact Av ⟨rfl,r⟩
  . rw[if_neg hge]
    refine Ak (XY L D ⋯ ⋯ r.b λm C N H T m1 m2 P=>?_)
    dsimp only;have e:Rn κ a₀ key l C:=⟨N,by rw[T];exact wD (λj _ z=>H j z) r.a⟩
    by_cases hm:m<mr
    . rw[if_pos hm]
      refine Ak (FN (B8 ⟨rfl,?_⟩));refine Ak (Ry L (show l+min (a₀.size-l) mr<=a₀.size by omega) ⋯ N P λB Z G R F=>?_)
      rw[if_neg (by simp)]
      have K:Rn κ a₀ key l B:=⟨Z,by rw[R];exact wD (λj _ z=>G j z) e.a⟩
      refine Ak (wpS_get ?_);cases hbk:(AU B).back? with
      |none=>
       dsimp only;exact Ak (CN (Av ⟨l+min (a₀.size-l) mr,rfl,⋯,⋯,qR K F ⋯⟩))
      |some v=>
       obtain⟨O,U,S⟩:=v;dsimp only;refine Ak (C7 (BI (I:=λy c f=>c=(none,())/\Rn κ a₀ key l f/\SIn key (arrOf f) l (min (a₀.size-l) mr)) (Q:=λc f=>c=(none,())/\Rn κ a₀ key l f/\SIn key (arrOf f) l (min (a₀.size-l) mr)) (λy c f _ _ i=>?_) (λc f i=>i) ⟨rfl,K,F⟩) ?_)
       . obtain⟨rfl,h,g⟩:=i
         refine Ak (wpS_get ?_);by_cases hp1:(AU f).size > 1
         . rw[if_pos hp1,getElem?_pos (AU f) ((AU f).size-2) ⋯]
           dsimp only;refine zZ (λ_=>Av ⟨rfl,h,g⟩) λ_=>Ak (pP L h ⋯ ⋯ λu k _ t=>?_)
           rw[if_neg (by simp)]
           exact Av ⟨rfl,k,nV (λj z=>t j z) g⟩
         . rw[if_neg hp1]
           exact Av ⟨rfl,h,g⟩
       . rintro c f ⟨rfl,h,g⟩
         dsimp only;exact Ak (CN (Ak (CN (Av ⟨l+min (a₀.size-l) mr,rfl,⋯,⋯,qR (YO h) g ⋯⟩))))
    . rw[if_neg hm]
      refine Ak (wpS_get ?_);cases hbk:(AU C).back? with
      |none=>
       dsimp only;exact Ak (CN (Av ⟨l+m,rfl,⋯,⋯,qR e P ⋯⟩))
      |some v=>
       obtain⟨O,U,S⟩:=v;dsimp only;refine Ak (C7 (BI (I:=λy c f=>c=(none,())/\Rn κ a₀ key l f/\SIn key (arrOf f) l (m)) (Q:=λc f=>c=(none,())/\Rn κ a₀ key l f/\SIn key (arrOf f) l (m)) (λy c f _ _ i=>?_) (λc f i=>i) ⟨rfl,e,P⟩) ?_)
       . obtain⟨rfl,h,g⟩:=i
         refine Ak (wpS_get ?_);by_cases hp1:(AU f).size > 1
         . rw[if_pos hp1,getElem?_pos (AU f) ((AU f).size-2) ⋯]
           dsimp only;refine zZ (λ_=>Av ⟨rfl,h,g⟩) λ_=>Ak (pP L h ⋯ ⋯ λu k _ t=>?_)
           rw[if_neg (by simp)]
           exact Av ⟨rfl,k,nV (λj z=>t j z) g⟩
         . rw[if_neg hp1]
           exact Av ⟨rfl,h,g⟩
       . rintro c f ⟨rfl,h,g⟩
         dsimp only;exact Ak (CN (Ak (CN (Av ⟨l+m,rfl,⋯,⋯,qR (YO h) g ⋯⟩))))
 case post=>
  rintro c d ⟨rfl,r⟩;dsimp only;have V:=sg r.a;rw[Ax]at V;refine Ak (C7 (BI (I:=λx c f=>c=(none,())/\Rn κ a₀ key a₀.size f/\((AU f).size<=1\/(AU f).size+x<=a₀.size)) (Q:=λc f=>c=(none,())/\Rn κ a₀ key a₀.size f/\(AU f).size<=1) (λy c f _ _ i=>?_) (λc f i=>⟨i.1,i.2.1,by have:=i.2.2;omega⟩) ⟨rfl,r,.inr ⋯⟩) ?_)
  . obtain⟨rfl,h,g⟩:=i
    refine Ak (wpS_get ?_);refine zZ (λo=>Av ⟨rfl,h,o⟩) λo=>Ak (pP L h (Ad _) (ZG ⋯ ⋯) λu k W _=>?_)
    rw[if_neg (by simp)]
    exact Av ⟨rfl,k,.inr ⋯⟩
  . rintro c f ⟨rfl,h,o⟩
    refine Av (q f h.b ?_);have J:=h.a;rw[<-Ax]at o
    match hl:(AU f).toList,J,o with
    |[],J,_=>exact absurd (show 0=a₀.size from J) ⋯
    |[(x,n,p)],J,_=>
     obtain⟨rfl,_,Y,he⟩:=J;have X:0+n=a₀.size:=he;rw[<-X,BS];exact Y
    |_::_::_,_,o=>rw[Ap,Ap]at o;omega
end
end L2.Tim
end
section
namespace L2
open PySem PySem.W PySem.Calls PyProof PyProof.Rows
noncomputable def yi:List Int->List Int->Bool
 |x::xs,y::ys=>if x=y then yi xs ys else decide (x<y)
 |[],_::_=>true
 |_,[]=>false
noncomputable def Zg(d:Bool):List Int->List Int->Bool
 |x::xs,y::ys=>if x=y then Zg d xs ys else decide (x<y)
 |_,_=>d
theorem me:∀u d:List Int,Zg (decide (u.length<d.length)) u d=yi u d
 |[],[]=>rfl
 |[],_::_=>decide_eq_true (Fe _)
 |_::_,[]=>rfl
 |x::u,y::d=>by have:=me u d;have e:decide ((x::u).length<(y::d).length)=decide (u.length<d.length):=decide_eq_decide.mpr Nat.add_lt_add_iff_right;unfold Zg yi;rw[e,this]
theorem tY{c b:Type}{f}:∀{l} {d:List b},d.Perm (l.map f)->∃m:List c,m.Perm l/\m.map f=d
 |[],d,h=>⟨[],.refl _,(List.perm_nil.mp h).symm⟩
 |a::t,d,h=>by
  obtain⟨s,r,rfl⟩:=List.append_of_mem (h.mem_iff.mpr (.head _));obtain⟨m,k,j⟩:=tY (l:=t) (List.perm_cons (f a) |>.mp ((Hu.symm).trans h))
  obtain⟨i,g,rfl,rfl,rfl⟩:=List.map_eq_append_iff.mp j;exact⟨i++a::g,Hu.trans (k.cons a),by rw[Dc,AG]⟩
section
variable {prog:Program}{w:World}{A:Around}{E:Value->Shared->Prop}{κ:DG}{s:Shared}
theorem pM:∀{us vs} {xs ys} i,v8 us xs->v8 vs ys->Q (Zg d xs ys) s->KatLex prog w A true d Q (us.zip vs) i s
 |_,_,_,_,i,.b,.b,h=>h
 |_,_,_,_,i,.b,.a _,h=>h
 |_,_,_,_,i,.a _,.b,h=>h
 |_,_,_,_,i,.a (i:=a) (t:=t) (us:=us) (ns:=xs) r,.a (i:=b) (t:=u) (us:=vs) (ns:=ys) r',h=>by
  show KatLex prog w A true d Q ((Dr a t,Dr b u)::us.zip vs) i s;unfold Zg at h;refine kat_cons (wpAny_eqBool_int (kat_go (λe=>?_) λe=>?_))
  . rw[if_pos (of_decide_eq_true e)]at h
    exact kat_yes (pM (i+1) r r' h)
  . rw[if_neg (of_decide_eq_false e)]at h
    refine kat_no ?_;cases i with
    |zero=>exact oneLt_int h
    |succ i=>exact kat_one _ _ (lt_int h)
noncomputable def itm(v:List Value)(i:Nat):Keyed:=(v.getD i Af,v.getD i Af)
def qK vs:(vs.toArray.zip vs.toArray).toList=(Ag vs.length).map (itm vs):=by
 rw[Array.toList_zip];apply DV
 . simp
 . intro i b a
   have h:i<vs.length:=by simpa using a
   simp[itm,Aa,dS h]
def XA{key:Keyed->Int}(hl:s.heap.IsList l vs.toArray)(h2:2<=vs.length)(hz:vs.length<=16777216)
 (T:∀d (Q':DG->Shared->Prop),(∀b o,s.heap.get? b=some o->d.get? b=some o)->Q' κ {s with heap:=d}->wpAny (model prog w) A.in1.in1 (keyKind' vs.toArray) Q' (λ_ _=>False) {s with heap:=d})
 (W:∀d i j C,(∀b o,s.heap.get? b=some o->d.get? b=some o)->i<vs.length->j<vs.length->C (decide (key (itm vs i)<key (itm vs j))) {s with heap:=d}->wpAny (model prog w) A.in1.in1 (keyLt' κ (vs.getD i Af) (vs.getD j Af)) C (λ_ _=>False) {s with heap:=d})
 (M:∀i j,i<vs.length->j<vs.length->key (itm vs i)=key (itm vs j)->i=j)
 (h:∀d c (ix:List Nat),(∀b o,s.heap.get? b=some o->d.get? b=some o)->ix.Perm (Ag vs.length)->ix.Pairwise (λi j=>key (itm vs i)<key (itm vs j)) ->
  d.get? (s.heap.objs.size+1)=some (seqObj "list" (ix.map λi=>vs.getD i Af).toArray c)->Q (.ref (s.heap.objs.size+1)) {s with heap:=d}) :
 wpAny (model prog w) A (call (.builtin "sorted") [.ref l]) Q E s:=by
 have K:(vs.toArray.zip vs.toArray).size=vs.length:=by simp
 have Y:∀{a:Array Keyed},a.Perm (vs.toArray.zip vs.toArray)->∃ix:List Nat,ix.Perm (Ag vs.length)/\ix.map (itm vs)=a.toList:=λ{a} N=>tY (by rw[<-qK];exact CM.mp N)
 have k:∀{a:Array Keyed} {ix:List Nat} (i:Nat) (hi:i<ix.length),ix.map (itm vs)=a.toList->Tim.kk key a i=key (itm vs ix[i]):=λ{a ix} i hi e=>by unfold Tim.kk;rw[AJ,<-Bi,<-e,An,dS hi];rfl
 have I:∀{ix:List Nat},ix.Perm (Ag vs.length)->ix.length=vs.length:=λN=>by rw[N.length_eq,AQ]
 have u:∀{ix:List Nat},ix.Perm (Ag vs.length)->∀i (hi:i<ix.length),ix[i]<vs.length:=λN i hi=>Ah.mp (N.mem_iff.mp (Bv hi));have hD:Tim.Dis key (vs.toArray.zip vs.toArray):=λa N i j hi D G e=>by obtain⟨ix,t,R⟩:=Y N;rw[K,<-I t]at hi D;rw[k i hi R,k j D R]at e;exact G ((ED (t.nodup_iff.mpr B5)).mp (M _ _ (u t i hi) (u t j D) e))
 refine E3 kind_sorted plain_sorted entry_sorted (args_sorted1 _) ?_;unfold Builtin.«sorted»;refine dm (m:=checkCount "sorted" 1 1 _) (Ab ?_);refine dm (collect_list hl ?_ (by rw[AX];omega))
 refine dm (DE ?_ (by rw[AX];omega))
 have J:((s.heap.push (seqObj "list" #[] 0)).update s.heap.objs.size (A1 (·++vs.toArray))).objs.size=s.heap.objs.size+1:=by rw[Heap.size_update,size_push']
 have v:(((s.heap.push (seqObj "list" #[] 0)).update s.heap.objs.size (A1 (·++vs.toArray))).push (seqObj "list" vs.toArray 0)).get? (s.heap.objs.size+1)=some (seqObj "list" vs.toArray 0):=by rw[<-J];exact Az _ rfl
 have H:∀b o,s.heap.get? b=some o->(((s.heap.push (seqObj "list" #[] 0)).update s.heap.objs.size (A1 (·++vs.toArray))).push (seqObj "list" vs.toArray 0)).get? b=some o:=λb o q=>by
  have n:b<s.heap.objs.size:=Am q;rw[Fs _ _ _ (by rw[J];exact Ay (BD n)),BU _ _ _ _ (Ay n),Fs _ _ _ (Ay n)]
  exact q
 show wpAny _ _ _ _ _ {s with heap:=((s.heap.push (seqObj "list" #[] 0)).update s.heap.objs.size (A1 (·++vs.toArray))).push (seqObj "list" vs.toArray 0)}
 rw[J];generalize hg:((s.heap.push (seqObj "list" #[] 0)).update s.heap.objs.size (A1 (·++vs.toArray))).push (seqObj "list" vs.toArray 0)=g at v H ⊢
 refine dm (Bh (BC Gq ⟨_,v,rfl⟩ F4 ?body (Gr _)))
 case body=>
  rw[F5];refine dm (Hs v rfl ?_);refine dm (DF v rfl ?_ (by rw[Ae,AX];omega) (AV _))
  obtain⟨U,X⟩:∃U,(g.update (s.heap.objs.size+1) (A1 λ_=>(#[]:Array Value))).get? (s.heap.objs.size+1)=some (seqObj "list" #[] U):=⟨_,C6 v λ_=>#[]⟩;refine dm (Ef X rfl ?_);refine dm (Gs ?_ (by show vs.length<=_;rw[AX];omega))
  refine dm (DE ?_ (AV _));refine Bh ?_;have f:∀b o,s.heap.get? b=some o->(((g.update (s.heap.objs.size+1) (A1 λ_=>(#[]:Array Value))).push (seqObj "tuple" vs.toArray 0)).push (seqObj "list" #[] 0)).get? b=some o:=λb o e=>by have n:b<s.heap.objs.size:=Am e;refine xd _ (xd _ ?_);rw[BU _ _ _ _ (Ay (BD n))];exact H b o e
  have B:(((g.update (s.heap.objs.size+1) (A1 λ_=>(#[]:Array Value))).push (seqObj "tuple" vs.toArray 0)).push (seqObj "list" #[] 0)).get? (s.heap.objs.size+1)=some (seqObj "list" #[] U):=
   xd _ (xd _ X)
  show wpAny (model prog w) _ _ _ _ {s with heap:=((g.update (s.heap.objs.size+1) (A1 λ_=>(#[]:Array Value))).push (seqObj "tuple" vs.toArray 0)).push (seqObj "list" #[] 0)}
  generalize ((g.update (s.heap.objs.size+1) (A1 λ_=>(#[]:Array Value))).push (seqObj "tuple" vs.toArray 0)).push (seqObj "list" #[] 0)=g6 at B f ⊢;dsimp only;have F:¬vs.toArray.size<2:=by rw[Ae];omega
  rw[if_neg F,if_neg F];refine dm (B0 (T g6 (λr P=>r=κ/\P={s with heap:=g6}) f ⟨rfl,rfl⟩) (λr P O=>?_) λ_ _ x=>x.elim)
  obtain⟨rfl,rfl⟩:=O;have L:Tim.rm prog w A.in1.in1 (λ_ _=>False) {s with heap:=g6} r (vs.toArray.zip vs.toArray) key:=λx y st Q' hx hy O hq=>by
   rw[qK]at hx hy;obtain⟨i,hi,rfl⟩:=AE.mp hx;obtain⟨j,D,rfl⟩:=AE.mp hy;rw[lt'_eq];refine Ak (wpS_get ?_);rw[O];refine Ak (FN (GZ (B0 (W g6 i j (λc P=>P={s with heap:=g6}/\c=decide (key (itm vs i)<key (itm vs j))) f (Ah.mp hi) (Ah.mp D) ⟨rfl,rfl⟩) (λc P hc=>?_) λ_ _ hF=>hF.elim)))
   obtain⟨rfl,rfl⟩:=hc;exact⟨rfl,Av hq⟩
  refine dm (B0 (Tim.eK L hD (st:=F6 r (vs.toArray.zip vs.toArray) #[] 7 none) (Q:=λ_ p=>Tim.Bs r (vs.toArray.zip vs.toArray) p/\Tim.SIn key (arrOf p) 0 (vs.toArray.zip vs.toArray).size) ⟨rfl,.refl _,rfl⟩ rfl (by rw[K];exact h2) λp a b=>⟨a,b⟩) ?_ λ_ _ x=>x.elim)
  rintro ⟨⟨⟩,p⟩ P ⟨rfl,S,hS⟩;dsimp only at S hS ⊢;obtain⟨ix,t,R⟩:=Y S.a;have V:(arrOf p).map (·.2)=(ix.map λi=>vs.getD i Af).toArray:=by apply EI.mp;rw[Array.toList_map,<-R,A7];rfl
  have Z:(ix.map λi=>vs.getD i Af).toArray.size<=AI:=by rw[Ae,Ac,I t,AX];omega
  rw[show (arrOf p).map (·.2)=_ from V]
  refine dm (Ef B rfl ?_);refine dm (DF B rfl ?_ (AV _) (Nat.le_succ_of_le Z));rw[S.b];simp only[bne_self_eq_false,As,if_false];refine Ab ⟨_,rfl,Ab ⟨_,rfl,?_⟩⟩;refine h _ _ ix (λb o e=>?_) t (BB.mpr λi j hi D G=>?_) (C6 B λ_=>(ix.map λi=>vs.getD i Af).toArray)
  . have n:b<s.heap.objs.size:=Am e
    rw[BU _ _ _ _ (Ay (BD n))];exact f b o e
  . have:=hS i j (Em G) (by rw[K,<-I t];exact D)
    rw[BS,BS,k i hi R,k j D R]at this;rcases GJ this with z|z
    . exact z
    . have:=(ED (t.nodup_iff.mpr B5)).mp (M _ _ (u t i hi) (u t j D) z)
      exact absurd this (Ay G)
end
def dQ:∀{a b},v8 us a->v8 us b->a=b:=by
 induction us with
 |nil=>intro a b h k;cases h;cases k;rfl
 |cons u us i=>
  intro a b h k;cases h with
  |a h=>
   cases k with
   |a k=>rw[i h k]
noncomputable def keyOf(i:List Value)(z:List (List Int))(K:List Int->Int)(x:Keyed):Int:=
 open Classical in K (z.getD (i.findIdx λv=>decide (v=x.1)) [])
def yU{K}(t:TV h its zs)(m:zs[i]?=some z):keyOf its zs K (itm its i)=K z:=by
 classical
 obtain⟨b,o,n,l,k,y,E,x,s⟩:=t.2 i z m;have e:its.getD i Af=.ref b:=by rw[Aa,k];rfl
 have c:its.findIdx (λv=>decide (v=its.getD i Af))<its.length:=List.findIdx_lt_length_of_exists ⟨.ref b,AD k,by rw[e];exact decide_eq_true rfl⟩
 have p:=List.findIdx_getElem (w:=c);have q:=of_decide_eq_true p;have a:its.findIdx (λv=>decide (v=its.getD i Af))<zs.length:=by rw[<-t.1];exact c
 obtain⟨A,B,C,u,j,f,D,g,r⟩:=t.2 _ _ (dS a);have d:Bk A=.ref b:=by rw[dS c]at j;rw[<-e,<-q];exact(AL j).symm
 cases d;rw[y]at f;cases f;rw[x]at g;injection g with g
 have g:=EI.mpr g;have g:l=u:=g;subst g;unfold keyOf;show K (zs.getD (its.findIdx λv=>decide (v=its.getD i Af)) [])=K z;rw[Aa,dS a,FL,dQ r s]
def TV.up(t:TV h its zs)(k:∀b o,h.get? b=some o->h'.get? b=some o):TV h' its zs:=⟨t.1,λi z e=>by obtain⟨b,o,n,u,c,a,f⟩:=t.2 i z e;exact⟨b,o,n,u,c,k _ _ a,f⟩⟩
def qe:yJ X (.builtin "sorted") (λxs H Q=>∃p F d,∃K:List Int->Int,xs=[.c p]/\SqL X.K H p F/\Xg X.K H F d/\(d.length<2\/∀z∈d,z≠[])/\d.Nodup/\(∀a∈d,∀b∈d,yi a b=decide (K a<K b))/\(∀a∈d,∀b∈d,K a=K b->a=b) /\
 ∀l (ix:List Nat),H l=none->ix.Perm (Ag d.length)->(ix.map λi=>d.getD i []).Pairwise (λa b=>K a<K b)->Q (.c l) (upd H l (.b (ix.map λi=>F.getD i .f)))):=by
 intro pins s σ H xs us Q I r h;obtain⟨p,F,d,K,rfl,hq,hP,B,hnd,hK,hKi,q⟩:=h;obtain⟨u,rfl,rx⟩:=vals1 r;cases rx;obtain⟨g,M,pl,hz⟩:=I.list hq;have P:=M.length;have hl:s.heap.IsList p g.toArray:=pl.isList;have y:=hP.tv I M;have hn:g.length=d.length:=y.1;have hD:s.heap.get? (s.heap.objs.size+1)=none:=Heap.get?_none_of_le (CZ _);by_cases h2:g.length<2
 . refine lI hl h2 λA c k e=>?_
   obtain⟨D,I'⟩:=I.j5 (h':=A) hz M hD (λb o _ e=>k b o e) (λm ⟨o,es,ep,ho,r⟩=>⟨o,es,ep,k _ o ho,r⟩) e;have ey:(Ag d.length).map (λi=>F.getD i .f)=F:=by rw[<-hn,<-P];exact um _
   have:=q _ (Ag d.length) D (.refl _) (by
    rw[um]
    match d,show d.length<2 by omega with
    |[],_=>exact .nil
    |[_],_=>exact Di _ _)
   rw[ey]at this;exact⟨V.c _,_,I',rfl,this⟩
 . have B:∀z∈d,z≠[]:=B.resolve_left ⋯
   have U:g.length<=16777216:=by rw[AX]at hz;omega
   have L:∀{i:Nat},i<g.length->∃z,d[i]?=some z/\d.getD i []=z/\z∈d:=λ{i} x=>by rw[hn]at x;exact⟨d[i],dS x,by rw[Aa,dS x];rfl,Bv x⟩
   refine XA (κ:=tuples' true) (key:=keyOf g d K) hl ⋯ U (λA Q' k W=>?_) (λA i j C k x R hc=>?_) (λi j x R e=>?_) λA c ix k Y hw e=>?_
   . obtain⟨fs,kt,kl,ki⟩:=(y.up k).qA B
     refine kat_kind (s:={s with heap:=A}) (T:=.type "int") kt ⋯ (λv hv=>?_) rfl W
     obtain⟨i,t,rfl⟩:=ki v hv;exact Looks.of_pure rfl
   . obtain⟨z,J,a2,S⟩:=L x
     obtain⟨N,G,b2,O⟩:=L R;rw[yU y J,yU y G,<-hK z S N O,<-me]at hc;obtain⟨b,o,n,us,f1,f2,f3,f4,f5⟩:=(y.up k).2 i z J;obtain⟨b',o',n',us',f1',f2',f3',f4',Z⟩:=(y.up k).2 j N G;rw[Aa,Aa,f1,f1'];refine kat_lt (s:={s with heap:=A}) f2 f4 f2' f4' ?_
     rw[Ae,Ae,ug f5,ug Z];exact pM (s:={s with heap:=A}) 0 f5 Z hc
   . obtain⟨z,J,a2,S⟩:=L x
     obtain⟨N,G,b2,O⟩:=L R;rw[yU y J,yU y G]at e;have ez:=hKi z S N O e;subst ez;exact(List.getElem?_inj ⋯ hnd).mp (J.trans G.symm)
   . have E:∀i∈ix,i<g.length:=λi x=>Ah.mp (Y.mem_iff.mp x)
     obtain⟨D,I'⟩:=I.j5 (h':=A) (ys:=ix.map λi=>F.getD i .f) (by rw[Ac,Y.length_eq,AQ];omega) (nj M ix λi x=>by have:=E i x;omega) hD (λb o _ e=>k b o e) (λm ⟨o,es,ep,ho,r⟩=>⟨o,es,ep,k _ o ho,r⟩) e
     refine⟨V.c _,_,I',rfl,q _ ix D (by rw[<-hn];exact Y) ?_⟩
     rw[CF];refine hw.imp_of_mem λ{i j} x R w=>?_;obtain⟨z,J,a2,S⟩:=L (E i x);obtain⟨N,G,b2,O⟩:=L (E j R);rw[yU y J,yU y G]at w;rw[a2,b2];exact w
theorem sO:∀a:List Int,yi a a=false
 |[]=>rfl
 |x::xs=>by unfold yi;rw[if_pos rfl];exact sO xs
theorem kW:∀{a b},yi a b=false->a≠b->yi b a=true
 |[],[],_,h=>absurd rfl h
 |[],_::_,h,_=>by cases h
 |_::_,[],_,_=>rfl
 |x::xs,y::ys,h,n=>by
  unfold yi at h ⊢;by_cases e:x=y
  . subst e
    rw[if_pos rfl]at h ⊢;exact kW h λe=>n (by rw[e])
  . rw[if_neg e]at h
    rw[if_neg (λz=>e z.symm)];have:=of_decide_eq_false h;exact decide_eq_true ⋯
theorem mf:∀{a b c},yi a b=true->yi b c=true->yi a c=true
 |[],[],_,h,_=>by cases h
 |_::_,[],_,h,_=>by cases h
 |_,_::_,[],_,h=>by cases h
 |[],_::_,_::_,_,_=>rfl
 |x::xs,y::ys,z::zs,h,k=>by
  unfold yi at h k ⊢;by_cases e:x=y
  . subst e
    rw[if_pos rfl]at h;by_cases e':x=z
    . rw[if_pos e']at k ⊢;exact mf h k
    . rw[if_neg e']at k ⊢;exact k
  . rw[if_neg e]at h
    have h:=of_decide_eq_true h;by_cases e':y=z
    . subst e'
      rw[if_neg e];exact decide_eq_true h
    . rw[if_neg e']at k
      have k:=of_decide_eq_true k;rw[if_neg ⋯]
      exact decide_eq_true ⋯
def dP(z:List Int):List (List Int)->List (List Int)
 |[]=>[z]
 |y::ys=>if yi y z then y::dP z ys else z::y::ys
def zm:List (List Int)->List (List Int)
 |[]=>[]
 |z::zs=>dP z (zm zs)
theorem rJ z:∀l,(dP z l).Perm (z::l)
 |[]=>.refl _
 |y::ys=>by
  unfold dP;by_cases h:yi y z=true
  . rw[if_pos h];exact((rJ z ys).cons y).trans (.swap z y ys)
  . rw[if_neg h]
theorem zS:∀l,(zm l).Perm l
 |[]=>.refl _
 |z::zs=>(rJ z _).trans ((zS zs).cons z)
theorem fY z:∀l,z ∉ l->l.Pairwise (λa b=>yi a b=true)->(dP z l).Pairwise (λa b=>yi a b=true)
 |[],_,_=>Di _ _
 |y::ys,hz,h=>by
  rw[BK]at h;rw[Ao,not_or]at hz;unfold dP;by_cases e:yi y z=true
  . rw[if_pos e]
    refine BK.mpr ⟨λa d=>?_,fY z ys hz.2 h.2⟩;rcases Ao.mp ((rJ z ys).mem_iff.mp d) with q|q
    . rw[q];exact e
    . exact h.1 a q
  . rw[if_neg e]
    have e:=kW (G9.mpr e) λq=>hz.1 q.symm;refine BK.mpr ⟨λa d=>?_,BK.mpr h⟩;rcases Ao.mp d with q|q
    . rw[q];exact e
    . exact mf e (h.1 a q)
theorem vN:∀{l},l.Nodup->(zm l).Pairwise (λa b=>yi a b=true)
 |[],_=>.nil
 |z::zs,h=>by rw[Bm]at h;exact fY z _ (λq=>h.1 ((zS zs).mem_iff.mp q)) (vN h.2)
def ui(h:yi a b=true):yi b a=false:=by
 cases e:yi b a with
 |false=>rfl
 |true=>rw[<-sO a];exact(mf h e).symm
def p4(j:zs.Nodup)(l:a∈zs)(k:b∈zs):yi a b=decide (((zm zs).idxOf a:Int)<(zm zs).idxOf b):=by
 have g:=vN j;have c:=Du ((zS zs).mem_iff.mpr l);have i:=Du ((zS zs).mem_iff.mpr k);have f:=D9 c;have e:=D9 i;rcases Ej ((zm zs).idxOf a) ((zm zs).idxOf b) with h|h|h
 . have:=BB.mp g _ _ c i h
   rw[f,e]at this;rw[this];exact(decide_eq_true ⋯).symm
 . have:a=b:=by rw[<-f,<-e];exact getElem_congr_idx h
   rw[this,sO];exact(decide_eq_false ⋯).symm
 . have:=BB.mp g _ _ i c h
   rw[f,e]at this;rw[ui this];exact(decide_eq_false ⋯).symm
def jX(g:a∈zs)(f:b∈zs)(h:((zm zs).idxOf a:Int)=(zm zs).idxOf b):a=b:=by have c:=Du ((zS zs).mem_iff.mpr g);have i:=Du ((zS zs).mem_iff.mpr f);rw[<-D9 c,<-D9 i];exact getElem_congr_idx ⋯
def pv(f:zs.Nodup)(c:l.Perm zs)(h:l.Pairwise λa b=>((zm zs).idxOf a:Int)<(zm zs).idxOf b):l=zm zs:=by
 refine Hv (le:=λa b=>yi a b=true) (λa b _ _ h k=>?_) (h.imp_of_mem λ{a b} ha hb w=>?_) (vN f) (c.trans (zS zs).symm)
 . rw[ui h]at k;cases k
 . rw[p4 f (c.mem_iff.mp ha) (c.mem_iff.mp hb)];exact decide_eq_true w
noncomputable def plI(z:Int × Int):List Int:=[z.1,z.2]
def Zd:List Int->Int
 |[a,b]=>yb (a,b)
 |_=>0
def Wk(c:0<=a.2/\a.2<1000)(h:0<=b.2/\b.2<1000):yi (plI a) (plI b)=decide (Zd (plI a)<Zd (plI b)):=by
 rw[show Zd (plI a)=yb a from rfl,show Zd (plI b)=yb b from rfl,decide_eq_decide.mpr (aJ c h)];unfold plI yi yi yi;by_cases h1:a.1=b.1
 . rw[if_pos h1]
   by_cases h2:a.2=b.2
   . rw[if_pos h2];exact(decide_eq_false ⋯).symm
   . rw[if_neg h2];exact decide_eq_decide.mpr ⋯
 . rw[if_neg h1];exact decide_eq_decide.mpr ⋯
def VQ(h:plI a=plI b):a=b:=by
 unfold plI at h;injection h with h1 h2
 injection h2 with h2 _
 exact E7 h1 h2
end L2
end
section
namespace L2
open PySem PyProof.Rows
def YS(n:X.g=true)(S:zd X N csc fr)(s:PI X tg iter wi)(t:∀C d F e,PG (X.comp N csc C d F e) tg g)(q:∀C d F e,PTs (X.comp N csc C d F e) ifs ts)
 (k:∀C d F e,PI (X.comp N csc C d F e) tg2 iter2 wi2) (l:∀C d F e,PG (X.comp N csc C d F e) tg2 g2) (h:∀C d F e,PTs (X.comp N csc C d F e) ifs2 ts2)
 (z:∀C d F e,PE (X.comp N csc C d F e) elt te) (u:X.N.Nodup) (o:X.N[i]?=some y) (p:Loc X.a.scope y)
 (f:FU (.ListComp elt [⟨tg,iter,ifs,0⟩,⟨tg2,iter2,ifs2,0⟩] csc cpos) (some (.Name y py)) spos.line X.a=pure true:=by rfl)
 (v:X.m y=true\/X.a.scope.names.lookup y=some .local:=by first|exact .inl rfl|exact .inr rfl|assumption)
 (r:∀x,AM iter X.a x=pure x:=by intro _;rfl)
 (j:∀b x,AM iter2 b x=pure x:=by intro _ _;rfl) :
 PS X (.Assign [.Name y py] (.ListComp elt [⟨tg,iter,ifs,0⟩,⟨tg2,iter2,ifs2,0⟩] csc cpos) spos) (oX (uR fr wi g ts λc=>tm wi2 g2 ts2 (rk c te)) (uF i)):=
 jG n S s (B:=λc b=>(do
        let x <-eval iter2 b
        standAt iter2.pos
        let x <-AM iter2 b x;let _ <-runOwn (.compStart (.ListComp elt [⟨tg,iter,ifs,0⟩,⟨tg2,iter2,ifs2,0⟩] csc cpos) 1 (<-holding [x] (pyIter x)) c b) b)) (Ug elt tg iter ifs tg2 iter2 ifs2 csc cpos) t q
  (λC d F e c=>kz rfl n (k C d F e) (l C d F e) (h C d F e) (qQ (z C d F e)) (j _)) u o p f v r
end L2
end
section
namespace L2
open PySem PySem.Calls PyProof PyProof.Rows
open AutoSeq1 (wpAny_loadPart')
def r9(h:s.heap.IsTupleIter it t i)(j:s.heap.IsTuple t items)(g:items[i]?=some x)
 (l:∀d,d.IsTupleIter it t (i+1)->Cu it s.heap d->Q x {s with heap:=d}):wpAny (model prog w) A (DP (.ref it)) Q E s:=by
 obtain⟨o,b,k,a⟩:=id h;obtain⟨m,c,_,n,f⟩:=j;unfold DP;refine dm (Ck (name:=Ep "__next__") h.typeIs DH
  (BC DH h.typeIs GK ?_ (Gu _)))
 show wpAny _ _ (field (.ref it) 0 >>= _) _ _ s;refine dm (Dq b a (x:=.ref t) rfl ?_);show wpAny _ _ (if (Bk t == Af)=true then _ else _) _ _ s
 rw[if_neg (show ¬((Bk t == Af)=true) from Aj)];show wpAny _ _ (field (.ref it) 1 >>= _) _ _ s;refine dm (Dq b a (x:=.int i 0) rfl ?_);show wpAny _ _ (seqItems? (.ref t) >>= _) _ _ s;refine dm (Gv c f ?_);simp only[Bx,g];refine dm (Ew b a (by simp) (Ab ⟨x,rfl,Ab (l _ ?_ (Cq ..))⟩))
 exact⟨_,Cd _ b (FW (Ff a _)),(Hb ..).trans k,by
  rw[Ff a];simp[rawInt]⟩
def pR(j:A.handled=none)(h:s.heap.IsTupleIter it t i)(l:s.heap.IsTuple t items)(k:items[i]?=none)
 (n:∀d e,Heap.ExtBut it s.heap d->(∃o,d.get? e=some o/\o.cls=.type "StopIteration")->E (.ref e) {s with heap:=d}):wpAny (model prog w) A (DP (.ref it)) Q E s:=by
 obtain⟨o,b,r,c⟩:=id h;obtain⟨p,f,_,q,g⟩:=l;unfold DP;refine dm (Ck (name:=Ep "__next__") h.typeIs DH
  (BC DH h.typeIs GK ?_ (Gu _)))
 show wpAny _ _ (field (.ref it) 0 >>= _) _ _ s;refine dm (Dq b c (x:=.ref t) rfl ?_);show wpAny _ _ (if (Bk t == Af)=true then _ else _) _ _ s
 rw[if_neg (show ¬((Bk t == Af)=true) from Aj)];show wpAny _ _ (field (.ref it) 1 >>= _) _ _ s;refine dm (Dq b c (x:=.int i 0) rfl ?_);show wpAny _ _ (seqItems? (.ref t) >>= _) _ _ s;refine dm (Gv f g ?_);simp only[Bx,k]
 first
  |refine dm (B8 (dm (Ew b c (by simp) ?_)))
  |refine dm (Ew b c (by simp) ?_)
 first
  |show wpAny _ _ (newExc (.type "StopIteration") [] >>= _) _ _ _
  |(refine dm (wpAny_letGo ?_);show wpAny _ _ (newExc (.type "StopIteration") [] >>= _) _ _ _)
 refine dm ?_;simp only[newExc,newTuple];refine dm (Bj ?_ (by size_fits))
 refine dm (m:=Gw _ _) (Ee (a:=Af) (by first|rfl|(simp only[Gw];rfl)) ?_)
 refine Bj ?_ (by size_fits)
 simp only[raiseNew];refine dm (wpAny_handled ?_)
 first|rw[show A.in1.handled=none from j]|rw[j]
 refine dm (Ab (wpAny_throw ?_));exact n _ _ (((Cq ..).extBut.push _).push _) ⟨_,Az _ rfl,rfl⟩
def nA(l:A.handled=none)it t(g:t≠it)items :
 Draws prog w A it [it,t] items.size (λi v=>items[i]?=some v) (λi h=>h.IsTupleIter it t i/\h.IsTuple t items) where
 live:=λ_ _ a=>let ⟨o,c,_⟩:=a.1;⟨o,c⟩
 frame:=λ_ _ _ a j=>⟨a.1.at λo e=>j it (by simp) o e,let ⟨o,c,r⟩:=a.2;⟨o,j t (by simp) o c,r⟩⟩
 item:=λi s Q E k a m=>by
  refine r9 a.1 a.2 (x:=items[i]) (by simp[k]) λp f b=>?_
  exact m _ p s.toks (by simp[k]) ⟨f,let ⟨o,c,r⟩:=a.2;⟨o,b.extBut t o g c,r⟩⟩ b
 done:=λs Q E a n=>pR l a.1 a.2 (by simp) n
def pO l items n dct sl :
 Meets (Builtin.«enumerate.__new__» ⟨[.type "enumerate",.ref l],[]⟩) (λ_ R s=>s.heap.get? l=some {cls:=.type "tuple",dict:=dct,data:=.seq items n,slots:=sl} /\
  R (.ok (.ret (.ref (s.heap.push {cls:=.type "tuple_iterator",data:=.fields #[.ref l,.int 0 0]}).objs.size)))
    {s with heap:=(s.heap.push {cls:=.type "tuple_iterator",data:=.fields #[.ref l,.int 0 0]}).push {cls:=.type "enumerate",data:=.fields #[.none,.bool false,.ref s.heap.objs.size,rawInt 0,.none,.none]}}):=
 .of_wp λp w A R s h=>by
  obtain⟨i,g,d,t,o⟩:=s;obtain⟨a,h⟩:=h;have f:=sub_enumerate;have b:Heap.IsTuple (Shared.heap ⟨i,g,d,t,o⟩) l items:=⟨_,a,rfl,n,rfl⟩
  wp_walk using BO a
  refine wpAny_stack_any λj=>Ab ?_;split
  . rename_i c _ _ _ _ _
    cases (c == D1 "enumerate")
    . wp_walk using BO a,Dt b
      exact⟨_,rfl,h⟩
    . wp_walk using BO a,Dt b
      exact⟨_,rfl,h⟩
  . wp_walk using BO a,Dt b
    exact⟨_,rfl,h⟩
def oG(q:s.heap.IsTuple l items)
 (h:∀d,IsEnum d (s.heap.objs.size+1) s.heap.objs.size 0 .none->d.IsTupleIter s.heap.objs.size l 0->d.objs.size=s.heap.objs.size+2 ->
  (∀b o,s.heap.get? b=some o->d.get? b=some o)->Q (.ref (s.heap.objs.size+1)) {s with heap:=d}) :
 wpAny (model prog w) A (call (.type "enumerate") [.ref l]) Q E s:=by
 obtain⟨⟨c,j,r,m⟩,p,i,n,g⟩:=q;replace i:c=.type "tuple":=i;replace g:r=.seq items n:=g;subst i g;refine callType_new F.called_enumerate (by decide) (F.typeCall_enumerate_1 _) (F.newCall_enumerate_1 _) (λa=>F.args_object_init_2 a _) F.entry_enumerate_new
  (pO l items n j m) ⟨p,?_⟩
 have f:(s.heap.push {cls:=.type "tuple_iterator",data:=.fields #[.ref l,.int 0 0]}).objs.size=s.heap.objs.size+1:=BL ..;show _/\_;rw[f];have k:IsEnum ((s.heap.push {cls:=.type "tuple_iterator",data:=.fields #[.ref l,.int 0 0]}).push
  {cls:=.type "enumerate",data:=.fields #[.none,.bool false,.ref s.heap.objs.size,rawInt 0,.none,.none]}) (s.heap.objs.size+1) s.heap.objs.size 0 .none:=by
  have:=Az (s.heap.push {cls:=.type "tuple_iterator",data:=.fields #[.ref l,.int 0 0]})
   (o:={cls:=.type "enumerate",data:=.fields #[.none,.bool false,.ref s.heap.objs.size,rawInt 0,.none,.none]}) rfl
  rw[f]at this;exact this
 refine⟨⟨_,k,rfl⟩,h _ k ⟨_,xd _ (Az _ rfl),rfl,rfl⟩ (by rw[BL,f]) λb o x=>xd _ (xd _ x)⟩
end L2
end
section
namespace L2
open PySem PySem.Calls PyProof PyProof.Rows
def Ite(K:AH)(a:Addr):It:=
 ⟨λi H=>∃b x,SqT K H a b/\b[i]?=some x,λi H x A=>∃t y,H t=none/\x=.c t/\(∀b,SqT K H a b->b[i]?=some y)/\A=upd H t (.c [.d (i:Nat),y]),λi H=>∃b,SqT K H a b/\b.length=i⟩
def Inv.eT(I:Inv X pins σ H s)(N:wI X pins H e)(L:wI X pins H it)
 (k:∀b o,b≠e->b≠it->s.heap.get? b=some o->h'.get? b=some o) (x:s.heap.objs.size<=T) (G:ys.length<=AI) (r:Vals ys its) (p:h'.get? T=some {cls:=.type "tuple",data:=.seq its.toArray n}) :
 Inv X pins σ (upd H T (.c ys)) {s with heap:=h',toks:=t'}:=by
 obtain⟨F,y,S,Z,V,R⟩:=N;obtain⟨E,t,O,D,B,A⟩:=L;have J:H T=none:=I.j.fresh x;have a:∀b u,H b=some u->b≠T:=λb u q z=>by rw[z,J]at q;cases q
 have l:∀b u,H b=some u->b≠e:=λb u q z=>by rw[z,F]at q;cases q
 have i:∀b u,H b=some u->b≠it:=λb u q z=>by rw[z,E]at q;cases q
 have g:∀b o,s.heap.get? b=some o->b≠T:=λb o q z=>absurd (AK (Am q) x) (by rw[z];exact BX _)
 refine I.step (g':=s.gens) (d':=s.drawn) (ch:=[e,it]) (λb f=>?_) (λb o _ _ h q _=>k b o (λz=>h (by simp[z])) (λz=>h (by simp[z])) q) (λb o _ _ h q _=>⟨o.slots,k b o (λz=>h (by simp[z])) (λz=>h (by simp[z])) q⟩)
  (λb o _ q m=>by rw[zM (g b o q)];exact m) (λb o h q=>⟨o,k b o (λz=>h (by simp[z])) (λz=>h (by simp[z])) q⟩) (λb d q=>by rw[zM (a b _ q)];exact q) (λb o u q=>by rw[zM (a b _ q)];exact q)
  (λb M q=>⟨#[],by rw[zM (a b _ q),q];simp⟩) (λm K=>?_) (λb u q=>?_) I.C
 . rcases Ao.mp f with z|f
   . subst z;exact⟨Z,y,V,R⟩
   . have z:=Al.mp f
     subst z;exact⟨D,t,B,A⟩
 . obtain⟨o,P,Q,p,r⟩:=K
   exact⟨o,P,Q,k _ o (Co y) (Co t) p,r⟩
 . by_cases f:b=T
   . subst f
     rw[zc]at q;cases q;exact⟨G,its,r,_,p,rfl,n,rfl,rfl⟩
   . rw[zM f]at q
     refine(I.j b u q).gJ (λc v h w=>k c v ?_ ?_ w) (λc h=>by rw[zM (a c _ h)];exact h) λc d h=>by rw[zM (a c _ h)];exact h
     . rcases h with z|z
       . rw[z];exact l b u q
       . exact l c _ z
     . rcases h with z|z
       . rw[z];exact i b u q
       . exact i c _ z
def Inv.eR(I:Inv X pins σ H s)(h:wI X pins H it)(k:∀b o,b≠it->s.heap.get? b=some o->h'.get? b=some o):Inv X pins σ H {s with heap:=h',toks:=t'}:=by obtain⟨g,f,j,c,a,i⟩:=h;exact I.turned k g f c a i
def bX{K}a e it(L:e≠it):Turn P w K (.Tuple elts x1 pos) (Ite K a) [e,it] e (λi h=>(∃F,IsEnum h e it (i:Nat) F)/\h.IsTupleIter it a i) where
 g:=by simp
 c:=λi h B b C=>by
  rcases Ao.mp C with z|C
  . subst z
    obtain⟨F,t⟩:=B.1;exact⟨_,t,λv z=>by cases (show HZ _=Data.cell v from z)⟩
  . have z:=Al.mp C
    subst z;obtain⟨o,q,c,d⟩:=B.2;exact⟨o,q,λv z=>by rw[d]at z;cases z⟩
 a:=λi h h' B k=>⟨let ⟨F,t⟩:=B.1;⟨F,k e (by simp) _ t⟩,B.2.at λo q=>k it (by simp) o q⟩
 f:=by
  intro X J hw hK hc i R s σ H E I Z B hg;subst J hw hK;obtain⟨xs,x,W,U⟩:=hg;obtain⟨⟨F,t⟩,r⟩:=B;obtain⟨l,S,p,hz⟩:=I.tuple W;obtain⟨u,hu,ru⟩:=S.get U;have V:=S.length;have hi:i<xs.length:=(Ar.mp U).1;have N:a≠it:=λz=>by obtain⟨o1,G,Q,_⟩:=id p;obtain⟨o2,q2,c2,_⟩:=id r;rw[z,q2]at G;cases G;rw[c2]at Q;exact absurd (Ey Q) (by decide)
  have hae:a≠e:=λz=>by obtain⟨o1,G,Q,_⟩:=id p;have he':s.heap.get? e=_:=t;rw[z,he']at G;cases G;exact absurd (Ey Q) (by decide)
  have D:=nA (prog:=X.f) (w:=X.w) (A:=X.A.in1) (I.y.g hc) it a N l.toArray;refine HE D t ⟨r,p⟩ (by rw[Ae];omega) L (λm=>?_) λv h1 O J ho hs1 hT hsz hk=>?_
  . rcases Ao.mp m with z|m
    . exact L z
    . exact hae (Al.mp m).symm
  . have J:l.toArray[i]?=some v:=J
    have ev:v=u:=by rw[Dy,hu]at J;exact(AL J).symm
    subst ev;refine⟨_,rfl,G0 (s:={s with heap:=h1,toks:=O+1}) ho λh2 he2 Y=>?_⟩
    have sz:s.heap.objs.size≠e:=E6 (Am t);refine⟨.c s.heap.objs.size,_,Inv.eT (s:=s) (h':=h2) (t':=O+1) (T:=s.heap.objs.size) (ys:=[.d (i:Nat),x]) (its:=[.int (i:Nat) O,v]) (n:=0) I (Z e (by simp)) (Z it (by simp)) (λb o M h2' q=>(Y.2 b M).trans (hk b o M h2' q)) (Ad _) (by rw[AX];show 2<=_;decide) (.cons ⟨O,rfl⟩ (.cons ru .nil)) ((Y.2 _ sz).trans hT),rfl,
     ⟨s.heap.objs.size,x,I.j.fresh (Ad _),rfl,λys hy=>by rw[I.nh hy W];exact U,rfl⟩,⟨⟨v,by simpa using he2⟩,hs1.1.at λo q=>(Y.2 it (Co L)).trans q⟩,λb C=>?_⟩
    rw[zM (λz=>?_)]
    . exact(Z b C).1
    . have hlt:b<s.heap.objs.size:=by
       rcases Ao.mp C with y|C
       . rw[y];exact Am t
       . rw[Al.mp C];obtain⟨o,q,_⟩:=r;exact Am q
      exact absurd z (Ay hlt)
 e:=by
  intro X J hw hK hc i R s σ H E I Z B hg;subst J hw hK;obtain⟨xs,W,U⟩:=hg;obtain⟨⟨F,t⟩,r⟩:=B;obtain⟨l,S,p,hz⟩:=I.tuple W;have V:=S.length;have N:a≠it:=λz=>by obtain⟨o1,G,Q,_⟩:=id p;obtain⟨o2,q2,c2,_⟩:=id r;rw[z,q2]at G;cases G;rw[c2]at Q;exact absurd (Ey Q) (by decide)
  have D:=nA (prog:=X.f) (w:=X.w) (A:=X.A.in1) (I.y.g hc) it a N l.toArray;have en:l.toArray.size=i:=by rw[Ae];omega
  exact wpAny_pyNext_enum_endD D t ⟨by rw[en];exact r,p⟩ λh' eb=>⟨rfl,I.eR (t':=s.toks) (Z it (by simp)) λb o C q=>eb b o C q⟩
 d:=λ_ _ _ _ _ B h=>let ⟨F,t⟩:=B.1;Ft t h
def Um(K:AH)(a:Addr):It:=
 ⟨λi H=>∃b x,SqL K H a b/\b[i]?=some x,λi H x A=>∃t y,H t=none/\x=.c t/\(∀b,SqL K H a b->b[i]?=some y)/\A=upd H t (.c [.d (i:Nat),y]),λi H=>∃b,SqL K H a b/\b.length=i⟩
def gS{K}a e it(L:e≠it):Turn P w K (.Tuple elts x1 pos) (Um K a) [e,it] e (λi h=>(∃F,IsEnum h e it (i:Nat) F)/\h.IsListIter it a i) where
 g:=by simp
 c:=λi h B b C=>by
  rcases Ao.mp C with z|C
  . subst z
    obtain⟨F,t⟩:=B.1;exact⟨_,t,λv z=>by cases (show HZ _=Data.cell v from z)⟩
  . have z:=Al.mp C
    subst z;obtain⟨o,q,c,d⟩:=B.2;exact⟨o,q,λv z=>by rw[d]at z;cases z⟩
 a:=λi h h' B k=>⟨let ⟨F,t⟩:=B.1;⟨F,k e (by simp) _ t⟩,B.2.at λo q=>k it (by simp) o q⟩
 f:=by
  intro X J hw hK hc i R s σ H E I Z B hg;subst J hw hK;obtain⟨xs,x,W,U⟩:=hg;obtain⟨⟨F,t⟩,r⟩:=B;obtain⟨l,S,p0,hz⟩:=I.list W;have p:=p0.isList;obtain⟨u,hu,ru⟩:=S.get U;have V:=S.length;have hi:i<xs.length:=(Ar.mp U).1;have N:a≠it:=λz=>by obtain⟨o1,G,Q,_⟩:=id p;obtain⟨o2,q2,c2,_⟩:=id r;rw[z,q2]at G;cases G;rw[c2]at Q;exact absurd (Ey Q) (by decide)
  have hae:a≠e:=λz=>by obtain⟨o1,G,Q,_⟩:=id p;have he':s.heap.get? e=_:=t;rw[z,he']at G;cases G;exact absurd (Ey Q) (by decide)
  have D:=Draws.list (prog:=X.f) (w:=X.w) (A:=X.A.in1) (I.y.g hc) it a N l.toArray;refine HE D t ⟨r,p⟩ (by rw[Ae];omega) L (λm=>?_) λv h1 O J ho hs1 hT hsz hk=>?_
  . rcases Ao.mp m with z|m
    . exact L z
    . exact hae (Al.mp m).symm
  . have J:l.toArray[i]?=some v:=J
    have ev:v=u:=by rw[Dy,hu]at J;exact(AL J).symm
    subst ev;refine⟨_,rfl,G0 (s:={s with heap:=h1,toks:=O+1}) ho λh2 he2 Y=>?_⟩
    have sz:s.heap.objs.size≠e:=E6 (Am t);refine⟨.c s.heap.objs.size,_,Inv.eT (s:=s) (h':=h2) (t':=O+1) (T:=s.heap.objs.size) (ys:=[.d (i:Nat),x]) (its:=[.int (i:Nat) O,v]) (n:=0) I (Z e (by simp)) (Z it (by simp)) (λb o M h2' q=>(Y.2 b M).trans (hk b o M h2' q)) (Ad _) (by rw[AX];show 2<=_;decide) (.cons ⟨O,rfl⟩ (.cons ru .nil)) ((Y.2 _ sz).trans hT),rfl,
     ⟨s.heap.objs.size,x,I.j.fresh (Ad _),rfl,λys hy=>by rw[I.kY hy W];exact U,rfl⟩,⟨⟨v,by simpa using he2⟩,hs1.1.at λo q=>(Y.2 it (Co L)).trans q⟩,λb C=>?_⟩
    rw[zM (λz=>?_)]
    . exact(Z b C).1
    . have hlt:b<s.heap.objs.size:=by
       rcases Ao.mp C with y|C
       . rw[y];exact Am t
       . rw[Al.mp C];obtain⟨o,q,_⟩:=r;exact Am q
      exact absurd z (Ay hlt)
 e:=by
  intro X J hw hK hc i R s σ H E I Z B hg;subst J hw hK;obtain⟨xs,W,U⟩:=hg;obtain⟨⟨F,t⟩,r⟩:=B;obtain⟨l,S,p0,hz⟩:=I.list W;have p:=p0.isList;have V:=S.length;have N:a≠it:=λz=>by obtain⟨o1,G,Q,_⟩:=id p;obtain⟨o2,q2,c2,_⟩:=id r;rw[z,q2]at G;cases G;rw[c2]at Q;exact absurd (Ey Q) (by decide)
  have D:=Draws.list (prog:=X.f) (w:=X.w) (A:=X.A.in1) (I.y.g hc) it a N l.toArray;have en:l.toArray.size=i:=by rw[Ae];omega
  exact wpAny_pyNext_enum_endD D t ⟨by rw[en];exact r,p⟩ λh' eb=>⟨rfl,I.eR (t':=s.toks) (Z it (by simp)) λb o C q=>eb b o C q⟩
 d:=λ_ _ _ _ _ B h=>let ⟨F,t⟩:=B.1;Ft t h
def QY(K:AH)(t:TA):TI:=λb H R=>t b H λv A=>∃a,v=[.c a]/\(((∃x,SqT K A a x)/\R (Ite K a) A)\/((∃x,SqL K A a x)/\R (Um K a) A))
def VP(Q:Gl X "enumerate")(P:X.d "enumerate"=none)(T:PA X [a] ta)(N:A6 [a] X.a=[(false,eval a X.a)]:=by rfl):PI X (.Tuple elts x1 tpos) (.Call (.Name "enumerate" p) [a] [] pos) (QY X.K ta):=by
 intro g s u H R I h;refine Call_ (uH I Q P boot_enumerate (Ci (thn (T pos g s u H _ I h) λF f w=>?_) N rfl));obtain⟨Z,B,A,G,J⟩:=w;obtain⟨c,e,q⟩:=J;subst e;cases G with
 |cons r E=>
  cases E;cases r;have y:∀b∈[f.heap.objs.size+1,f.heap.objs.size],wI X g B b:=λb x=>by
   have m:f.heap.objs.size<=b:=by
    rcases Ao.mp x with z|x
    . rw[z];exact CZ _
    . rw[Al.mp x];exact Ad _
   exact A.WA m (A.j.fresh m)
  rcases q with⟨⟨C,t⟩,q⟩|⟨⟨C,t⟩,q⟩
  . obtain⟨k,D,n,L⟩:=A.tuple t
    refine oG (show f.heap.IsTuple c k.toArray from n) λV l i o v=>Ft l ?_;exact⟨f.heap.objs.size+1,[f.heap.objs.size+1,f.heap.objs.size],_,_,B,rfl,A.kept (t':=f.toks) v,bX c _ _ (Nat.succ_ne_self _),⟨⟨_,l⟩,i⟩,y,q⟩
  . obtain⟨k,D,n,L⟩:=A.list t
    refine call_enumerate_list n.isList λV l i o v=>Ft l ?_;exact⟨f.heap.objs.size+1,[f.heap.objs.size+1,f.heap.objs.size],_,_,B,rfl,A.kept (t':=f.toks) v,gS c _ _ (Nat.succ_ne_self _),⟨⟨_,l⟩,i⟩,y,q⟩
end L2
end
section
namespace L2
open PySem PyProof.Rows
section
variable {X:Cx}{a b:Expr}{rest:List Expr}{ta tb:TE}{pos:Pos}
def NJ(K:AH)(ta tb:TE):TE:=λa H Q=>ta a H λx A=>∃c,Xf K x A c/\if c=true then Q x A else tb a A Q
def RH(n:PE X a ta)(m:PE X (.BoolOp .Or (b::rest) pos) tb):PE X (.BoolOp .Or (a::b::rest) pos) (NJ X.K ta tb):=by
 intro p s f H Q I h;refine BoolOp_or (thn (n p s f H _ I h) λv i z=>?_);obtain⟨x,D,C,r,c,l,j⟩:=z;refine thn (XQ p i f D x v (λk A=>if k=true then Q x A else tb f A Q) C r ⟨c,l,j⟩) λk g z=>?_
 obtain⟨A,B,q⟩:=z;cases k with
 |false=>exact m p g f A Q B q
 |true=>exact⟨x,A,B,r,q⟩
end
noncomputable def uC(n:Nat)(l h:Option Int)(c:Int):Int × Nat:=((BV l h (some c) n).1,(if c > 0 then (if (BV l h (some c) n).1<(BV l h (some c) n).2.1 then ((BV l h (some c) n).2.1-(BV l h (some c) n).1+c-1)/c else 0) else (if (BV l h (some c) n).1 > (BV l h (some c) n).2.1 then ((BV l h (some c) n).1-(BV l h (some c) n).2.1-c-1)/(-c) else 0):Int).toNat)
def uU its lo hi c:IK its.toArray lo hi (some c)=(zl its (uC its.length lo hi c).1 c (uC its.length lo hi c).2).toArray:=by unfold IK sliceRange zl uC;rw[CQ];refine congrArg List.toArray ?_;have e:(BV lo hi (some c) its.toArray.size).2.2=c:=rfl;rw[e];simp only[Ae];refine congrArg (λf=>List.filterMap f _) ?_;funext k;show its.toArray[_]?=_;rw[Dy,Int.mul_comm]
def Py(K:AH):V->Option Int->Option Int->Option Int->Hp->VK->Prop:=λx l h s H Q=>∃a f c,x=.c a/\SqL K H a f/\s=some c/\c≠0/\∀p,H p=none->Q (.c p) (upd H p (.b (zl f (uC f.length l h c).1 c (uC f.length l h c).2)))
def i6{lo hi}{st}(Y:PE X e te)(W:PO X lo tl)(U:PO X hi th)(hc:PO X (some st) tc):PE X (.Subscript e (.Slice lo hi (some st) p2) pos) (OL (Py X.K) te tl th tc):=by
 intro p s y H Q I h;refine Ip (thn (Y p s y H _ I h) λv R d=>?_);obtain⟨x,H1,I1,T,Z⟩:=d;refine wpAny_Slice (thn (W p R y H1 _ I1 Z) λE P ⟨l,H2,I2,pl,q2⟩=>thn (U p P y H2 _ I2 q2) λD N ⟨u,H3,I3,pu,q3⟩=>thn (hc p N y H3 _ I3 q3) λG m d=>?_);obtain⟨c,H4,I4,F,V⟩:=d;obtain⟨a,k,i,rfl,S,ec,h0,g⟩:=V;subst ec;cases T;have C:Inv X p y H4 {m with heap:=m.heap.push {cls:=.type "slice",data:=.fields #[E,D,G]}}:=I4.kept (t':=m.toks) λb M q=>xd _ q
 obtain⟨B,r,L,O⟩:=C.list S;have n:=r.length;show wpAny (model X.f X.w) X.A (GU e (.Slice lo hi (some st) p2) (.ref a) (.ref m.heap.objs.size)) (EP X p y Q) X.h {m with heap:=m.heap.push {cls:=.type "slice",data:=.fields #[E,D,G]}}
 refine tail_any (ops:=[.ref a,.ref m.heap.objs.size]) L.isList.typeIs G4.lookup (Hl L.isList (GD ..) pl pu F (λz=>h0 (AL z)) ?_ (by rw[Ae]<;>omega)) (by with_unfolding_all rfl)
 rw[uU,<-n];refine⟨.c _,_,C.laid (t':=m.toks) (o:=.b (zl k (uC k.length l u i).1 i (uC k.length l u i).2)) (λb M q=>xd _ q) (Ad _) ?_,rfl,g _ (C.j.fresh (Ad _))⟩;have J:=r.zl (uC k.length l u i).1 i (uC k.length l u i).2;have t:(zl k (uC k.length l u i).1 i (uC k.length l u i).2).length<=k.length:=by have:=slicePick_size_le B.toArray l u (some i);rw[uU,Ae,Ae,<-n,<-J.length]at this;exact this
 exact⟨Au t O,_,0,J,Az _ rfl⟩
end L2
end
section
namespace L2
open PySem PyProof PyProof.Rows
section
variable {X:Cx}
noncomputable def Qp(z:Str)(y:List Str):Str:=Txt.join z y
end
end L2
end
section
namespace L2
open PySem PySem.Spec PyProof PyProof.Rows
def kj:typeLookup (.type "tuple") (dunderI "add")=(pure none:Sem (Option Value)):=rfl
section
variable {X:Cx}
def dU:OpR X (E5 .Add) UX:=by
 intro L s σ H x y v u Q I U S h;obtain⟨a,b,K,J,rfl,rfl,Z,V,N,g⟩:=h;cases U;cases S;obtain⟨f,w,Y,_⟩:=I.tuple (.inl (.inl Z));obtain⟨i,r,W,_⟩:=I.tuple (.inl (.inl V));obtain⟨⟨cls,E,F,B⟩,A,T,n,R⟩:=id Y;obtain⟨⟨M,d,G,l⟩,k,p,C,m⟩:=id W;simp only at T R p m;subst T R p m;have e:f.toArray++i.toArray=(f++i).toArray:=by simp
 have t:s.TypeIs (.ref a) "tuple":=⟨_,A,rfl⟩;have O:s.TypeIs (.ref b) "tuple":=⟨_,k,rfl⟩;refine inplaceOp_concat t O kj FH GS ?_;by_cases hx:K=[]
 . subst hx
   cases w;exact Ct CL t CB (Cv _ _) (tuple_addW0 a b #[] i.toArray n C E d B l rfl) ⟨A,k,⟨.c b,H,I,rfl,g b H (rB.refl H) V⟩⟩
 . have P:f≠[]:=λz=>hx (w.wR.mp z)
   by_cases hy:J=[]
   . have D:i=[]:=r.wR.mpr hy
     subst hy;rw[A5]at g;exact Ct CL t CB (Cv _ _) (tuple_addW1 a b f.toArray i.toArray n C E d B l (by simpa using P) (by simp[D])) ⟨A,k,⟨.c a,H,I,rfl,g a H (rB.refl H) Z⟩⟩
   . have D:i≠[]:=λz=>hy (r.wR.mp z)
     refine Ct CL t CB (Cv _ _) (tuple_addW2 a b f.toArray i.toArray n C E d B l (by simpa using P) (by simpa using D) (by rw[Ae,Ae,<-w.length,<-r.length];exact N)) ⟨A,k,?_⟩
     rw[e];refine⟨.c s.heap.objs.size,_,I.laid (t':=s.toks) (o:=.c (K++J)) (λb ob q=>xd _ q) (Ad _) ?_,rfl,g.new _ (I.j.fresh (Ad _))⟩;exact⟨by rw[Aw];exact N,_,w.append r,tx.new _ _⟩
noncomputable def p5(a:List Int):Bool:=decide (a.length<=1000)&&a.all λn=>decide (-1000000<=n)&&decide (n<=1000000)
theorem pre_take(a:List Int):∀n,preSum (λi=>a.getD i 0) n=(a.take n).sum
 |0=>by rw[Ik];rfl
 |n+1=>by
  have e:preSum (λi=>a.getD i 0) (n+1)=preSum (λi=>a.getD i 0) n+a.getD n 0:=rfl;rw[e,pre_take a n,List.take_add_one,List.sum_append,Aa];cases a[n]? with
  |none=>rfl
  |some x=>show _+x=_+(x+0);rw[Int.add_zero]
theorem nR{v:Nat->Int}(h:∀i,-1000000<=v i/\v i<=1000000):∀n:Nat,-(1000000*(n:Int))<=preSum v n/\preSum v n<=1000000*(n:Int)
 |0=>by have e:preSum v 0=0:=rfl
        rw[e];omega
 |n+1=>by have e:preSum v (n+1)=preSum v n+v n:=rfl;have:=nR h n;have:=h n;rw[e];omega
def dC(Z:X.g=true):yJ X (.builtin "sum") (λF H Q=>∃a w,F=[.c a]/\SqL X.K H a (w.map V.d)/\p5 w=true/\Q (.d w.sum) H):=by
 intro G s O H F S Q I r h;obtain⟨a,w,rfl,M,k,q⟩:=h;obtain⟨u,rfl,N⟩:=vals1 r;cases N;obtain⟨f,E,B,W⟩:=I.list M;have m:=E.length;have p:a<s.heap.objs.size:=by obtain⟨o,l,_⟩:=B.isList;exact Am l
 have P:f.toArray.size=w.length:=by rw[Ae,<-m,Ac]
 have D:∀(i:Nat) (v:Value),f.toArray[i]?=some v->∃t,v=.int (w.getD i 0) t:=λi v z=>E.ints (by simpa using z)
 unfold p5 at k;rw[ub]at k;have h1:=of_decide_eq_true k.1;have z:∀i,-1000000<=w.getD i 0/\w.getD i 0<=1000000:=λi=>by
  rw[Aa];cases hi:w[i]? with
  |none=>exact⟨by decide,by decide⟩
  |some x=>
   have:=AZ.mp k.2 x (AD hi);rw[ub]at this;exact⟨of_decide_eq_true this.1,of_decide_eq_true this.2⟩
 refine call_sum_walk (Ei B.isList ?_);refine⟨s.heap.objs.size,_,_,_,_,_,λi=>w.getD i 0,rfl,Ir (A:=X.A.in1) (I.y.g Z) s.heap.objs.size a (Ay p) f.toArray,⟨⟨_,Az _ rfl,rfl,rfl⟩,?_⟩,λb J=>?_,D,λj Y=>?_,λh' U L R=>?_⟩
 . obtain⟨o,l,C,n,T⟩:=B.isList
   exact⟨o,xd _ l,C,n,T⟩
 . rw[BL]
   simp only[Ao,Cy,or_false]at J;rcases J with e|e
   . rw[e];exact Cz _
   . rw[e];exact BD p
 . have b1:=nR z (j+1)
   have b2:-1000000<=(λi=>w.getD i 0) j/\(λi=>w.getD i 0) j<=1000000:=z j;have:j+1<=1000:=by omega
   exact⟨⟨⋯,⋯⟩,⟨⋯,⋯⟩⟩
 . have e:preSum (λi=>w.getD i 0) f.toArray.size=w.sum:=by rw[P,pre_take,Ho]
   rw[e];refine⟨.d w.sum,H,I.kept λb o l=>R b o ?_ (xd _ l),⟨L,rfl⟩,q⟩;simpa using Ay (Am l)
end
end L2
end
section
namespace L2
open PySem PySem.W PySem.Calls PyProof PyProof.Rows
open AutoSeq1 (wpAny_loadPart')
open SeqAt
section
variable {X:Cx}
def YY(K:AH)(g:List Int->Int):List V->Hp->VK->Prop:=λx H Q=>∃(a:Addr) (ns:List Int),x=[.c a]/\SqT K H a (ns.map V.d)/\ns≠[]/\Q (.d (g ns)) H
def eu(V:X.g=true):yJ X (.builtin "max") (YY X.K (xh 0)):=by
 intro D s O H S U Q I r h;obtain⟨a,c,rfl,Z,w,q⟩:=h;obtain⟨u,rfl,J⟩:=vals1 r;cases J;obtain⟨f,C,z,Y⟩:=I.tuple Z;have l:=C.length;have p:a<s.heap.objs.size:=by obtain⟨o,k,_⟩:=id z;exact Am k
 have hl:f.toArray.size=c.length:=by rw[Ae,<-l,Ac]
 have E:0<c.length:=DY.mpr w;have m:∀(i:Nat) (v:Value),f.toArray[i]?=some v->∃t,v=.int (c.getD i 0) t:=λi v N=>C.ints (by simpa using N)
 refine call_max_walk (Dt z ?_);refine⟨s.heap.objs.size,_,_,_,_,_,_,rfl,Walks.tuple (A:=X.A.in1) (I.y.g V) s.heap.objs.size a (Ay p) f.toArray,⟨⟨_,Az _ rfl,rfl,rfl⟩,?_⟩,λb G=>?_,⋯,CmpOf.ints_gt (λi=>c.getD i 0) m,λv h' W F P=>?_⟩
 . obtain⟨o,k,B,n,T⟩:=id z
   exact⟨o,xd _ k,B,n,T⟩
 . rw[BL]
   simp only[Ao,Cy,or_false]at G;rcases G with e|e
   . rw[e];exact Cz _
   . rw[e];exact BD p
 . obtain⟨t,rfl⟩:=m _ _ F
   obtain⟨b1,M⟩:=argBest_gt (λi=>c.getD i 0) (f.toArray.size-1);have e:xh 0 c=c.getD (argBest (λi j=>decide (c.getD i 0 > c.getD j 0)) (f.toArray.size-1)) 0:=by
    refine sP ?_ λx L=>?_
    . have:argBest (λi j=>decide (c.getD i 0 > c.getD j 0)) (f.toArray.size-1)<c.length:=by omega
      rw[Aa,dS this];exact Bv this
    . obtain⟨i,R,rfl⟩:=Bz L
      have:=M i ⋯
      simpa [Aa,dS R] using this
   refine⟨.d (xh 0 c),H,I.kept λb o k=>P b o ?_ (xd _ k),⟨t,by rw[e]⟩,q⟩
   simpa using Ay (Am k)
def j7(V:X.g=true):yJ X (.builtin "min") (YY X.K (uP 0)):=by
 intro D s O H S U Q I r h;obtain⟨a,c,rfl,Z,w,q⟩:=h;obtain⟨u,rfl,J⟩:=vals1 r;cases J;obtain⟨f,C,z,Y⟩:=I.tuple Z;have l:=C.length;have p:a<s.heap.objs.size:=by obtain⟨o,k,_⟩:=id z;exact Am k
 have hl:f.toArray.size=c.length:=by rw[Ae,<-l,Ac]
 have E:0<c.length:=DY.mpr w;have m:∀(i:Nat) (v:Value),f.toArray[i]?=some v->∃t,v=.int (c.getD i 0) t:=λi v N=>C.ints (by simpa using N)
 refine call_min_walk (Dt z ?_);refine⟨s.heap.objs.size,_,_,_,_,_,_,rfl,Walks.tuple (A:=X.A.in1) (I.y.g V) s.heap.objs.size a (Ay p) f.toArray,⟨⟨_,Az _ rfl,rfl,rfl⟩,?_⟩,λb G=>?_,⋯,CmpOf.ints_lt (λi=>c.getD i 0) m,λv h' W F P=>?_⟩
 . obtain⟨o,k,B,n,T⟩:=id z
   exact⟨o,xd _ k,B,n,T⟩
 . rw[BL]
   simp only[Ao,Cy,or_false]at G;rcases G with e|e
   . rw[e];exact Cz _
   . rw[e];exact BD p
 . obtain⟨t,rfl⟩:=m _ _ F
   obtain⟨b1,M⟩:=argBest_lt (λi=>c.getD i 0) (f.toArray.size-1);have e:uP 0 c=c.getD (argBest (λi j=>decide (c.getD i 0<c.getD j 0)) (f.toArray.size-1)) 0:=by
    refine ke ?_ λx L=>?_
    . have:argBest (λi j=>decide (c.getD i 0<c.getD j 0)) (f.toArray.size-1)<c.length:=by omega
      rw[Aa,dS this];exact Bv this
    . obtain⟨i,R,rfl⟩:=Bz L
      have:=M i ⋯
      simpa [Aa,dS R] using this
   refine⟨.d (uP 0 c),H,I.kept λb o k=>P b o ?_ (xd _ k),⟨t,by rw[e]⟩,q⟩
   simpa using Ay (Am k)
end
end L2
end
section
namespace L2
open PySem PySem.W PySem.Calls PyProof PyProof.Rows
open AutoSeq1 (wpAny_loadPart')
open SeqAt
noncomputable def Qs:List Int->List Int->Bool
 |[],[]=>false
 |[],_::_=>true
 |_::_,[]=>false
 |x::xs,y::ys=>if x=y then Qs xs ys else decide (x<y)
end L2
namespace L2
open PySem PySem.W PySem.Calls PyProof PyProof.Rows
def Q1:List (List Int)->List Int
 |[]=>[]
 |z::t=>t.foldl (λm y=>if Qs y m then y else m) z
end L2
end
section
namespace L2
open PySem PySem.W PySem.Calls PyProof PyProof.Rows
noncomputable def dN(n:List Int):Nat:=(firstMet (λi=>n.getD i 0) n.length).length
end L2
end
section
namespace M.St
open PySem PySem.SetTable
def uu(x:Array Nat):Prop:=∀i j,i<j->j<x.size->x.getD i 0<x.getD j 0
theorem qa(h:uu xs):∀d u e,e-u<=d->u<=e->e<=xs.size->(∀i<u,xs.getD i 0<j)->(∀i,e<=i->i<xs.size->j<=xs.getD i 0) ->
 below.go xs j d u e<=xs.size/\(∀i<below.go xs j d u e,xs.getD i 0<j)/\∀i,below.go xs j d u e<=i->i<xs.size->j<=xs.getD i 0
 |0,u,e,hf,hl,hs,h1,h2=>by
  obtain rfl:u=e:=by omega
  exact⟨hs,h1,h2⟩
 |d+1,u,e,hf,hl,hs,h1,h2=>by
  unfold below.go;by_cases hlt:u<e
  . rw[if_pos hlt]
    simp only[];rw[show xs.getD ((u+e)/2) j=xs.getD ((u+e)/2) 0 by unfold Iu;rw[dif_pos ⋯,dif_pos ⋯]]
    by_cases hm:xs.getD ((u+e)/2) 0<j
    . rw[if_pos hm]
      refine qa h d _ _ ⋯ ⋯ hs (λi b=>?_) h2
      rcases Dv i ((u+e)/2) with q|q
      . exact Nat.lt_trans (h i _ q ⋯) hm
      . rwa [show i=(u+e)/2 by omega]
    . rw[if_neg hm]
      refine qa h d _ _ ⋯ ⋯ ⋯ h1 λi c a=>?_
      rcases Dv ((u+e)/2) i with q|q
      . have:=h _ i q a
        omega
      . rw[show i=(u+e)/2 by omega];omega
  . rw[if_neg hlt]
    obtain rfl:u=e:=by omega
    exact⟨hs,h1,h2⟩
def tL(h:uu xs)j:below xs j<=xs.size/\(∀i<below xs j,xs.getD i 0<j)/\∀i,below xs j<=i->i<xs.size->j<=xs.getD i 0:=
 qa h xs.size 0 xs.size ⋯ (AV _) (Ad _) (λi b=>⋯) (λi a q=>⋯)
def below_at(h:uu xs)(e:xs[i]?=some j):below xs j=i:=by
 obtain⟨k,c,b⟩:=tL h j;obtain⟨a,g⟩:=A2.mp e;have f:xs.getD i 0=j:=by rw[AJ,e];rfl
 rcases Ej (below xs j) i with q|q|q
 . have z:=b _ (Ad _) ⋯
   have:=h _ _ q a;omega
 . exact q
 . have:=c i q
   omega
def vM{t:BW}(h:uu t.place)(e:t.place[i]?=some j):t.slot j=.live i:=by unfold slot;simp only[below_at h e,e,beq_self_eq_true,if_true]
def pj{t:BW}(e:t.slot j=.live i):t.place[i]?=some j:=by
 unfold slot at e;simp only[]at e;split at e
 . rename_i q
   injection e with e
   subst e;exact beq_iff_eq.mp q
 . split at e<;>cases e
noncomputable def adv(m:Nat)(p:Probe):Probe:=advance ⟨m,#[],#[],0,true,0,true⟩ p
noncomputable def xf(m:Nat)(h:Int):Probe:=probeStart ⟨m,#[],#[],0,true,0,true⟩ h
noncomputable def it(m i:Nat):Nat:=(i*5+1)%(m+1)
def itn(m:Nat):Nat->Nat->Nat
 |0,i=>i
 |n+1,i=>itn m n (it m i)
theorem sM:∀a b i,itn m (a+b) i=itn m b (itn m a i)
 |0,b,i=>by rw[BS];rfl
 |a+1,b,i=>by rw[Nat.succ_add];exact sM a b (it m i)
def orb(m:Nat):Nat->Nat->List Nat
 |0,_=>[]
 |f+1,i=>i::orb m f (it m i)
theorem fv:∀{f i},b∈orb m f i->∃n,n<f/\itn m n i=b
 |f+1,i,h=>by
  rcases Ao.mp h with rfl|h
  . exact⟨0,Fe _,rfl⟩
  . obtain⟨n,e,d⟩:=fv h
    exact⟨n+1,⋯,d⟩
def wQ(m:Nat):Bool:=(Ag (m+1)).all (λb=>(orb m (m+1) 0).contains b)&&itn m (m+1) 0 == 0
def kK(h:wQ m=true)(i:a<=m)(f:b<=m):∃n,n<=m/\itn m n a=b:=by
 unfold wQ at h;rw[ub,AZ]at h;obtain⟨j,c⟩:=h;have c:=beq_iff_eq.mp c;have g:∀b,b<=m->∃n,n<m+1/\itn m n 0=b:=λb f=>fv (List.contains_iff_mem.mp (j b (Ah.mpr ⋯)))
 obtain⟨x,l,rfl⟩:=g a i;obtain⟨y,k,rfl⟩:=g b f;rcases Dv y x with q|q
 . refine⟨m+1-x+y,⋯,?_⟩
   rw[<-sM,show x+(m+1-x+y)=(m+1)+y by omega,sM,c]
 . refine⟨y-x,⋯,?_⟩
   rw[<-sM,show x+(y-x)=y by omega]
def UH:wQ 7=true:=by decide +kernel
def TN:wQ 31=true:=by decide +kernel
def WD:wQ 127=true:=by decide +kernel
def WE:wQ 511=true:=by decide +kernel
noncomputable def lp(m:Nat)(x:Nat × Nat):Nat × Nat:=leap m x.1 x.2
def lpn(m:Nat):Nat->Nat × Nat->Nat × Nat
 |0,x=>x
 |n+1,x=>lp m (lpn m n x)
theorem mi:∀n,(lpn m n x).2=x.2/32 ^ n
 |0=>(Nat.div_one _).symm
 |n+1=>by show (lpn m n x).2/32=_;rw[mi n,Nat.div_div_eq_div_mul,<-Nat.pow_succ]
theorem mh(h:(lpn m n0 x).2=0):∀n,lpn m (n0+n) x=(itn m n (lpn m n0 x).1,0)
 |0=>by rw[Fd];exact E7 rfl h
 |n+1=>by
  have e:itn m (n+1) (lpn m n0 x).1=it m (itn m n (lpn m n0 x).1):=by rw[sM];rfl
  show lp m (lpn m (n0+n) x)=_;rw[mh h n,e];simp[lp,leap,it]
def g7 h:bits h<2 ^ 64:=by unfold bits;omega
def iV(h:x.1<=m):∀n,(lpn m n x).1<=m
 |0=>h
 |n+1=>Fu (Hf _ (Fe m))
noncomputable def atP(m:Nat)(x:Nat × Nat):Probe:={j:=x.1,more:=runEnd m x.1-x.1,i:=x.1,perturb:=x.2,dummy:=none}
def wd(m:Nat):Nat->Probe->Probe
 |0,p=>p
 |n+1,p=>wd m n (adv m p)
theorem wx:∀a b p,wd m (a+b) p=wd m b (wd m a p)
 |0,b,p=>by rw[BS];rfl
 |a+1,b,p=>by rw[Nat.succ_add];exact wx a b (adv m p)
theorem lF:∀k p,p.more=k->p.dummy=none->wd m (k+1) p=atP m (lp m (p.i,p.perturb))
 |0,p,h,hd=>by
  show adv m p=_;unfold adv advance;rw[if_neg ⋯]
  obtain⟨j,u,i,d,w⟩:=p;subst hd;rfl
 |k+1,p,h,hd=>by
  have e:adv m p={p with j:=p.j+1,more:=p.more-1}:=by unfold adv advance;rw[if_pos ⋯]
  show wd m (k+1) (adv m p)=_;rw[lF k (adv m p) (by rw[e];show p.more-1=k;omega) (by rw[e];exact hd),e]
def RS:runEnd m i-i<=9:=by unfold runEnd;split<;>omega
theorem gw:∀n,∃k,k<=10*n/\wd m k (atP m x)=atP m (lpn m n x)
 |0=>⟨0,Ad _,rfl⟩
 |n+1=>by
  obtain⟨k,e,d⟩:=gw (m:=m) (x:=x) n;have r:=RS (m:=m) (i:=(lpn m n x).1);refine⟨k+(runEnd m (lpn m n x).1-(lpn m n x).1+1),⋯,?_⟩
  rw[wx,d];exact lF _ (atP m (lpn m n x)) rfl rfl
def Zj(g:wQ m=true)h(f:j<=m):∃k,k<10*turns m/\(wd m k (xf m h)).j=j:=by
 have a:(lpn m 13 (bits h%(m+1),bits h)).2=0:=by rw[mi];exact Nat.div_eq_of_lt (AK (g7 h) (by decide))
 obtain⟨n,i,b⟩:=kK g (iV (x:=(bits h%(m+1),bits h)) (Fu (Hf _ (Fe m))) 13) f;obtain⟨k,l,c⟩:=gw (m:=m) (x:=(bits h%(m+1),bits h)) (13+n);refine⟨k,by unfold turns;omega,?_⟩
 rw[show xf m h=atP m (bits h%(m+1),bits h) from rfl,c,mh a,b];rfl
abbrev lk(t:BW)(h:Int)(k:Nat):Probe:=wd t.mask k (xf t.mask h)
def eY:(adv m p).dummy=p.dummy:=by unfold adv advance;split<;>rfl
theorem qY:∀k p,(wd m k p).dummy=p.dummy
 |0,_=>rfl
 |k+1,p=>(qY k (adv m p)).trans eY
def Zh:(lk t h k).dummy=none:=(qY k _).trans rfl
def fm:t.advance (lk t h k)=lk t h (k+1):=by show adv t.mask (wd t.mask k (xf t.mask h))=_;rw[show lk t h (k+1)=wd t.mask (k+1) (xf t.mask h) from rfl,wx];rfl
theorem kL(a:∀j,t.slot j≠.dummy):∀d u K,u<=K->K<u+d->t.slot (lk t h K).j=.empty ->
 ∃k,u<=k/\k<=K/\(∀w,u<=w->w<k->∃i,t.slot (lk t h w).j=.live i/\at_ i≠h) /\
  ((t.slot (lk t h k).j=.empty/\probe.go t at_ h d (lk t h u)=some (.empty (lk t h k).j none)) \/
   ∃i,t.slot (lk t h k).j=.live i/\at_ i=h/\probe.go t at_ h d (lk t h u)=some (.candidate (lk t h k).j i (lk t h (k+1))))
 |0,u,K,h1,h2,_=>by omega
 |d+1,u,K,h1,h2,he=>by
  unfold probe.go;cases hs:t.slot (lk t h u).j with
  |empty=>exact⟨u,Ad _,h1,λw M F=>⋯,.inl ⟨hs,by simp only[];rw[Zh]⟩⟩
  |dummy=>exact absurd hs (a _)
  |live i=>
   simp only[];by_cases ha:at_ i=h
   . rw[if_pos (beq_iff_eq.mpr ha)]
     exact⟨u,Ad _,h1,λw M F=>⋯,.inr ⟨i,hs,ha,by rw[fm]⟩⟩
   . rw[if_neg λz=>ha (beq_iff_eq.mp z),fm]
     have O:u≠K:=λe=>by rw[e,he]at hs;cases hs
     obtain⟨k,g,f,c,b⟩:=kL a d (u+1) K ⋯ ⋯ he
     refine⟨k,⋯,f,λw M F=>?_,b⟩
     rcases Dv u w with q|q
     . exact c w q F
     . rw[show w=u by omega];exact⟨i,hs,ha⟩
structure Ok(hs:List Int)(t:BW):Prop where
 d:t.place.size=hs.length
 c:uu t.place
 g:t.dummies=#[]
 le:∀(i j:Nat),t.place[i]?=some j->j<=t.mask
 fl:t.place.size<=t.mask
 l:wQ t.mask=true
 m:∀(i j:Nat) (h:Int),t.place[i]?=some j->hs[i]?=some h->∃k,(lk t h k).j=j/\∀k'<k,∃i',t.slot (lk t h k').j=.live i'
def Ok.f6(o:Ok hs t)j:t.slot j≠.dummy:=λe=>by
 unfold slot at e;simp only[]at e;split at e
 . cases e
 . split at e
   . rename_i q
     rw[o.g]at q;unfold has at q;have:=beq_iff_eq.mp q;rw[EL]at this;cases this
   . cases e
theorem sS{b:Type} [BEq b] [LawfulBEq b]:∀{l m:List b},l.Nodup->(∀x∈l,x∈m)->l.length<=m.length
 |[],_,_,_=>AV _
 |a::t,m,hn,hs=>by rw[Bm]at hn;have d:=hs a (.head _);have:=sS (l:=t) (m:=m.erase a) hn.2 λx h=>(List.mem_erase_of_ne λ(e:x=a)=>hn.1 (e▸h)).mpr (hs x (.tail _ h));rw[List.length_erase_of_mem d]at this;have:=List.length_pos_of_mem d;rw[Ap];omega
def Ok.free(o:Ok hs t):∃j,j<=t.mask/\t.slot j=.empty:=by
 refine E4 λf=>?_;have b:∀j,j<t.mask+1->∃i,i<t.place.size/\t.place[i]?=some j:=λj c=>by
  cases hs':t.slot j with
  |empty=>exact absurd ⟨j,⋯,hs'⟩ f
  |dummy=>exact absurd hs' (o.f6 j)
  |live i=>
   have:=pj hs';exact⟨i,(A2.mp this).1,this⟩
 have k:∀n,n<=t.mask+1->n<=t.place.size:=λn g=>by
  have h:(Ag n).length<=t.place.toList.length:=by
   have a:(Ag n).Nodup:=B5;exact sS a λj c=>by
    obtain⟨i,_,e⟩:=b j (by have:=Ah.mp c;omega)
    exact F1.mpr (Array.mem_of_getElem? e)
  rw[AQ,Ax]at h;exact h
 have:=k (t.mask+1) (Ad _);have:=o.fl;omega
def Ok.meets(o:Ok hs t)(f:Nat->Int)h:∃K,K<10*turns t.mask/\t.slot (lk t h K).j=.empty:=by obtain⟨j,c,b⟩:=o.free;obtain⟨K,a,k⟩:=Zj o.l h c;exact⟨K,a,by rw[show (lk t h K).j=j from k];exact b⟩
def qJ(h:p<=xs.size)i:(insertAt xs p x)[i]?=if i<p then xs[i]? else if i=p then some x else xs[i-1]?:=by
 unfold insertAt;have e:((xs.extract 0 p).push x).size=p+1:=by rw[Array.size_push,Ea];omega
 rw[Array.getElem?_append,e];by_cases h1:i<p
 . rw[if_pos ⋯,if_pos h1,Array.getElem?_push,if_neg (by rw[Ea];omega),Array.getElem?_extract,if_pos ⋯,BS]
 . rw[if_neg h1]
   by_cases h2:i=p
   . rw[if_pos ⋯,if_pos h2,Array.getElem?_push,if_pos (by rw[Ea];omega)]
   . rw[if_neg ⋯,if_neg h2,Array.getElem?_extract]
     by_cases h3:i-1<xs.size
     . rw[if_pos ⋯];congr 1;omega
     . rw[if_neg ⋯,FA ⋯]
def q9(h:p<=xs.size):(insertAt xs p x).size=xs.size+1:=by unfold insertAt;rw[Array.size_append,Array.size_push,Ea,Ea];omega
def kN{b:Type}{a:List b}{x}(h:p<=a.length)i:(a.take p++x::a.drop p)[i]?=if i<p then a[i]? else if i=p then some x else a[i-1]?:=by
 have e:(a.take p).length=p:=by rw[Bu];omega
 by_cases h1:i<p
 . rw[if_pos h1,A0 ⋯,List.getElem?_take,if_pos h1]
 . rw[if_neg h1,AW ⋯,e]
   by_cases h2:i=p
   . rw[if_pos h2,show i-p=0 by omega];rfl
   . rw[if_neg h2,show i-p=(i-p-1)+1 by omega,Fo,CU];congr 1;omega
def sd:uu xs↔∀(i j a b:Nat),i<j->xs[i]?=some a->xs[j]?=some b->a<b:=by
 constructor
 . intro h i j a b c k g
   obtain⟨m,n⟩:=A2.mp k;obtain⟨l,e⟩:=A2.mp g;have:=h i j c l;rw[AJ,AJ,k,g]at this;exact this
 . intro h i j c f
   rw[AJ,AJ,AN (show i<xs.size by omega),AN f]
   exact h i j _ _ c (AN _) (AN f)
theorem Ok.put(o:Ok hs t)(K:t.slot (lk t h k).j=.empty)(L:(lk t h k).j<=t.mask)(Z:∀w<k,∃i,t.slot (lk t h w).j=.live i)(F:t.place.size+1<=t.mask) :
 (t.put (lk t h k).j).2<=hs.length/\Ok (hs.take (t.put (lk t h k).j).2++h::hs.drop (t.put (lk t h k).j).2) (t.put (lk t h k).j).1:=by
 generalize hjj:(lk t h k).j=j at K L;obtain⟨E,Q,P⟩:=tL o.c j;have B:∀i:Nat,t.place[i]?≠some j:=λi e=>by rw[vM o.c e]at K;cases K
 have M:(t.put j).2=below t.place j:=rfl;have O:(t.put j).1={t with place:=insertAt t.place (below t.place j) j}:=by
  unfold BW.put;have:has t.dummies j=false:=by rw[o.g];unfold has;rw[EL];rfl
  simp only[this,As,if_false]
 rw[M,O];generalize hp:below t.place j=p at E Q P;have A:p<=hs.length:=by rw[<-o.d];exact E
 have D:∀i:Nat,(insertAt t.place p j)[i]?=if i<p then t.place[i]? else if i=p then some j else t.place[i-1]?:=qJ E
 have C:∀{i a:Nat},t.place[i]?=some a->t.place.getD i 0=a:=λ{i a} e=>by rw[AJ,e];rfl
 have R:∀{i a:Nat},i<p->t.place[i]?=some a->a<j:=λ{i a} q e=>by have:=Q i q;rwa [C e]at this
 have N:∀{i a:Nat},p<=i->t.place[i]?=some a->j<a:=λ{i a} q e=>by have:=P i q (A2.mp e).1;rw[C e]at this;exact Cj this λz=>B i (z▸e)
 have u:∀{v:Nat},(∃i,t.slot v=.live i)->∃i,({t with place:=insertAt t.place p j}:BW).place[i]?=some v:=λ{v} ⟨i,e⟩=>by
  have e:=pj e;rcases Dv i p with q|q
  . exact⟨i,by show (insertAt t.place p j)[i]?=_;rw[D,if_pos q];exact e⟩
  . exact⟨i+1,by show (insertAt t.place p j)[i+1]?=_;rw[D,if_neg ⋯,if_neg ⋯,Nat.add_sub_cancel];exact e⟩
 have I:uu (insertAt t.place p j):=sd.mpr λi f a b J s n=>by
  rw[D]at s n;by_cases q1:i<p
  . rw[if_pos q1]at s
    have T:=R q1 s;by_cases q2:f<p
    . rw[if_pos q2]at n
      exact sd.mp o.c i f a b J s n
    . rw[if_neg q2]at n
      by_cases q3:f=p
      . rw[if_pos q3]at n
        cases n;exact T
      . rw[if_neg q3]at n
        have:=N (show p<=f-1 by omega) n
        omega
  . rw[if_neg q1]at s
    rw[if_neg ⋯,if_neg ⋯]at n
    by_cases q3:i=p
    . rw[if_pos q3]at s
      cases s;exact N (show p<=f-1 by omega) n
    . rw[if_neg q3]at s
      exact sd.mp o.c (i-1) (f-1) a b ⋯ s n
 refine⟨A,?_,I,o.g,λi a e=>?_,?_,o.l,λi v H e r=>?_⟩
 . show (insertAt t.place p j).size=_
   rw[q9 E,o.d,Aw,Ap,Bu,B3];omega
 . have e:(insertAt t.place p j)[i]?=some a:=e
   rw[D]at e;by_cases q1:i<p
   . rw[if_pos q1]at e;exact o.le _ _ e
   . rw[if_neg q1]at e
     by_cases q3:i=p
     . rw[if_pos q3]at e;cases e;exact L
     . rw[if_neg q3]at e;exact o.le _ _ e
 . show (insertAt t.place p j).size<=t.mask
   rw[q9 E];exact F
 . have e:(insertAt t.place p j)[i]?=some v:=e
   rw[D]at e;rw[kN A]at r;have y:∀{G:Nat},t.place[G]?=some v->hs[G]?=some H->∃k,(lk t H k).j=v/\∀w<k,∃f,({t with place:=insertAt t.place p j}:BW).slot (lk t H w).j=.live f:=λ{G} e r=>by obtain⟨k,X,V⟩:=o.m G v H e r;refine⟨k,X,λw x=>?_⟩;obtain⟨f,z⟩:=u (V w x);exact⟨f,vM I z⟩
   by_cases q1:i<p
   . rw[if_pos q1]at e r;exact y e r
   . rw[if_neg q1]at e r
     by_cases q3:i=p
     . rw[if_pos q3]at e r
       cases e;cases r;refine⟨k,hjj,λw x=>?_⟩;obtain⟨f,z⟩:=u (Z w x);exact⟨f,vM I z⟩
     . rw[if_neg q3]at e r;exact y e r
theorem ZC:∀k,k<=runEnd m y.1-y.1->wd m k (atP m y)={atP m y with j:=y.1+k,more:=runEnd m y.1-y.1-k}
 |0,_=>rfl
 |k+1,h=>by
  rw[wx,ZC k ⋯]
  show adv m _=_;unfold adv advance;rw[if_pos (show runEnd m y.1-y.1-k > 0 by omega)]
  rfl
noncomputable def h0(m:Nat)(h:Int):Nat × Nat:=(bits h%(m+1),bits h)
def a9:(h0 m h).1<=m:=Fu (Hf _ (Fe m))
def Xo(f:wQ m=true)h(c:j<=m):∃L,L<turns m/\(lpn m L (h0 m h)).1=j:=by
 have a:(lpn m 13 (h0 m h)).2=0:=by rw[mi];exact Nat.div_eq_of_lt (AK (g7 h) (by decide))
 obtain⟨n,g,b⟩:=kK f (iV (x:=h0 m h) a9 13) c;exact⟨13+n,by unfold turns;omega,by rw[mh a,b]⟩
def Occ(o:Array (Option Nat))(j:Nat):Prop:=∃a,o[j]?=some (some a)
def Fre(o:Array (Option Nat))(j:Nat):Prop:=o[j]?=some none
def mR:(ow.getD j (some 0)).isNone=true↔Fre ow j:=by
 unfold Fre;rw[AJ];cases ow[j]? with
 |none=>exact Iff.intro (λh=>by cases h) (λh=>by cases h)
 |some x=>cases x<;>simp
def ig(h:j<ow.size):Fre ow j\/Occ ow j:=by
 unfold Fre Occ;rw[AN h];cases ow[j] with
 |none=>exact .inl rfl
 |some a=>exact .inr ⟨a,rfl⟩
def tj(h:i<=m):runEnd m i<=m/\i<=runEnd m i:=by unfold runEnd;split<;>omega
abbrev lkm(m:Nat)(h:Int)(k:Nat):Probe:=wd m k (xf m h)
theorem fV(l:ow.size=m+1):∀u L K,lkm m h K=atP m (lpn m L (h0 m h))->(∀w<K,Occ ow (lkm m h w).j)->(∃F,L<=F/\F<L+u/\Fre ow (lpn m F (h0 m h)).1) ->
 ∃k,layClean.free m ow u (lpn m L (h0 m h)).1 (lpn m L (h0 m h)).2=some (lkm m h k).j/\Fre ow (lkm m h k).j/\∀w<k,Occ ow (lkm m h w).j
 |0,L,K,_,_,⟨F,q1,q2,_⟩=>by omega
 |u+1,L,K,hK,hocc,⟨F,q1,q2,q3⟩=>by
  have M:=iV (m:=m) (x:=h0 m h) a9 L;obtain⟨t,s⟩:=tj M;have b:∀k,k<=runEnd m (lpn m L (h0 m h)).1-(lpn m L (h0 m h)).1->(lkm m h (K+k)).j=(lpn m L (h0 m h)).1+k:=λk g=>by show (wd m (K+k) (xf m h)).j=_;rw[wx,show wd m K (xf m h)=_ from hK,ZC k g]
  unfold layClean.free;cases hf:(Ag (runEnd m (lpn m L (h0 m h)).1+1-(lpn m L (h0 m h)).1)).find? λk=>(ow.getD ((lpn m L (h0 m h)).1+k) (some 0)).isNone with
  |some k=>
   obtain⟨r,i,p⟩:=List.find?_range_eq_some.mp hf;have i:=Ah.mp i;refine⟨K+k,by rw[b k ⋯],by rw[b k ⋯];exact mR.mp r,λw c=>?_⟩
   rcases Dv w K with q|q
   . exact hocc w q
   . obtain⟨d,rfl⟩:∃d,w=K+d:=⟨w-K,⋯⟩
     rw[b d ⋯]
     have:=p d ⋯
     rcases ig (ow:=ow) (j:=(lpn m L (h0 m h)).1+d) ⋯ with z|z
     . rw[mR.mpr z]at this;cases this
     . exact z
  |none=>
   simp only[];have f:=List.find?_eq_none.mp hf;have o:∀k,k<=runEnd m (lpn m L (h0 m h)).1-(lpn m L (h0 m h)).1->Occ ow ((lpn m L (h0 m h)).1+k):=λk g=>by
    rcases ig (ow:=ow) (j:=(lpn m L (h0 m h)).1+k) ⋯ with z|z
    . exact absurd (mR.mpr z) (f k (Ah.mpr ⋯))
    . exact z
   have n:L≠F:=λe=>by obtain⟨a,z⟩:=o 0 (AV _);rw[<-e]at q3;unfold Fre at q3;rw[Fd,q3]at z;cases z
   refine fV l u (L+1) (K+(runEnd m (lpn m L (h0 m h)).1-(lpn m L (h0 m h)).1+1)) ?_ (λw c=>?_) ⟨F,⋯,⋯,q3⟩
   . show wd m _ (xf m h)=_
     rw[wx,show wd m K (xf m h)=_ from hK];exact lF _ (atP m (lpn m L (h0 m h))) rfl rfl
   . rcases Dv w K with q|q
     . exact hocc w q
     . obtain⟨d,rfl⟩:∃d,w=K+d:=⟨w-K,⋯⟩
       rw[b d ⋯]
       exact o d ⋯
structure Lc(m:Nat)(hs:List Int)(ow:Array (Option Nat)):Prop where
 n:ow.size=m+1
 g:∀a:Nat,a<hs.length->∃j:Nat,ow[j]?=some (some a)
 d:∀(j j' a:Nat),ow[j]?=some (some a)->ow[j']?=some (some a)->j=j'
 f:∀(j a:Nat),ow[j]?=some (some a)->a<hs.length
 l:∀(j a:Nat) (h:Int),ow[j]?=some (some a)->hs[a]?=some h->∃k,(lkm m h k).j=j/\∀k'<k,Occ ow (lkm m h k').j
def Lc.start m:Lc m [] (Ga (m+1) none):=by
 have n:∀j a:Nat,(Ga (m+1) (none:Option Nat))[j]?≠some (some a):=λj a e=>by
  rw[Array.getElem?_replicate]at e;split at e
  . cases e
  . cases e
 exact⟨Array.size_replicate,λa h=>absurd h (C8 _),λj b a e=>absurd e (n _ _),λj a e=>absurd e (n _ _),λj a h e=>absurd e (n _ _)⟩
def Lc.bN(c:Lc m hs ow)(r:hs.length<=m):∃j:Nat,j<=m/\Fre ow j:=by
 refine E4 λo=>?_;have k:∀j:Nat,j<m+1->∃a,ow[j]?=some (some a):=λj h=>by
  rcases ig (ow:=ow) (j:=j) (by rw[c.n];exact h) with z|z
  . exact absurd ⟨j,⋯,z⟩ o
  . exact z
 have g:∀j:Nat,j<m+1->ow[j]?=some (some ((ow.getD j none).getD 0)):=λj h=>by obtain⟨a,e⟩:=k j h;rw[AJ,e];rfl
 have i:((Ag (m+1)).map λj=>(ow.getD j none).getD 0).Nodup:=by rw[Cm,CF];refine DW (λ{a b} ha hb hab e=>?_) B5;have l:=g a (Ah.mp ha);have q:=g b (Ah.mp hb);rw[e]at l;exact hab (c.d _ _ _ l q)
 have:=sS (m:=Ag hs.length) i λx p=>by obtain⟨j,h,rfl⟩:=AE.mp p;exact Ah.mpr (c.f _ _ (g j (Ah.mp h)))
 rw[Ac,AQ,AQ]at this;omega
def Lc.step(c:Lc m hs ow)(I:wQ m=true)(E:hs.length<=m)h :
 ∃j,layClean.free m ow (turns m) (bits h%(m+1)) (bits h)=some j/\Lc m (hs++[h]) (ow.setIfInBounds j (some hs.length)):=by
 obtain⟨P,w,u⟩:=c.bN E;obtain⟨L,N,C⟩:=Xo I h w;obtain⟨k,y,v,K⟩:=fV (ow:=ow) (h:=h) c.n (turns m) 0 0 rfl (λt b=>⋯) ⟨L,AV _,⋯,by rw[C];exact u⟩
 generalize hjj:(lkm m h k).j=j at y v;have G:j<ow.size:=(A2.mp v).1;have s:∀i:Nat,(ow.setIfInBounds j (some hs.length))[i]?=if j=i then some (some hs.length) else ow[i]?:=λi=>by
  rw[Array.getElem?_setIfInBounds];split
  . first|rfl|rw[if_pos G]
  . rfl
 have r:∀{i:Nat},Occ ow i->Occ (ow.setIfInBounds j (some hs.length)) i:=λ{i} ⟨a,e⟩=>by
  by_cases q:j=i
  . exact⟨_,by rw[s,if_pos q]⟩
  . exact⟨a,by rw[s,if_neg q];exact e⟩
 have o:∀{i a:Nat},(ow.setIfInBounds j (some hs.length))[i]?=some (some a)->(j=i/\a=hs.length)\/(j≠i/\ow[i]?=some (some a)):=λ{i a} e=>by
  rw[s]at e;by_cases q:j=i
  . rw[if_pos q]at e
    exact .inl ⟨q,by cases e;rfl⟩
  . rw[if_neg q]at e
    exact .inr ⟨q,e⟩
 refine⟨j,y,by rw[C9];exact c.n,λa J=>?_,λi Q a e p=>?_,λi a e=>?_,λi a H e x=>?_⟩
 . rw[Aw,BF]at J
   by_cases q:a=hs.length
   . exact⟨j,by rw[s,if_pos rfl,q]⟩
   . obtain⟨i,e⟩:=c.g a ⋯
     exact⟨i,by rw[s,if_neg λz=>by subst z;unfold Fre at v;rw[v]at e;cases e];exact e⟩
 . rcases o e with⟨rfl,rfl⟩|⟨_,e⟩
   . rcases o p with⟨rfl,_⟩|⟨_,p⟩
     . rfl
     . have:=c.f _ _ p;omega
   . rcases o p with⟨rfl,rfl⟩|⟨_,p⟩
     . have:=c.f _ _ e;omega
     . exact c.d _ _ _ e p
 . rw[Aw,BF]
   rcases o e with⟨_,rfl⟩|⟨_,e⟩
   . omega
   . have:=c.f _ _ e;omega
 . rcases o e with⟨rfl,rfl⟩|⟨_,e⟩
   . rw[AW (Ad _),Eu]at x
     cases x;exact⟨k,hjj,λt b=>r (K t b)⟩
   . rw[A0 (c.f _ _ e)]at x
     obtain⟨D,B,A⟩:=c.l i a H e x;exact⟨D,B,λt b=>r (A t b)⟩
theorem ll(b:wQ m=true):∀d e w,Lc m e w->e.length+d.length<=m ->
 ∃u,d.foldl (init:=some (w,e.length)) (λa h=>do
  let (owner,k) <-a;let j <-layClean.free m owner (turns m) (bits h%(m+1)) (bits h)
  pure (owner.setIfInBounds j (some k),k+1))=some (u,(e++d).length)/\Lc m (e++d) u
 |[],e,w,c,_=>⟨w,by rw[A5];rfl,by rw[A5];exact c⟩
 |h::d,e,w,c,hn=>by
  rw[Ap]at hn;obtain⟨j,i,l⟩:=c.step b ⋯ h
  obtain⟨u,f,g⟩:=ll b d (e++[h]) _ l (by rw[Aw,BF];omega)
  refine⟨u,?_,by rw[Aq]at g;exact g⟩
  rw[HK];rw[Aw,BF,Aq]at f;show EF _ (Option.bind (layClean.free m w (turns m) (bits h%(m+1)) (bits h)) λj=>some (w.setIfInBounds j (some e.length),e.length+1)) d=_;rw[i];exact f
def kR(h:wQ m=true)(a:hs.length<=m):∃d,layClean m hs.toArray=some d/\Lc m hs d:=by
 obtain⟨d,e,c⟩:=ll h hs [] _ (Lc.start m) (by rw[Cf];omega)
 refine⟨d,?_,c⟩;unfold layClean;rw[List.foldl_toArray];rw[show (some (Ga (m+1) (none:Option Nat),0))=some (Ga (m+1) none,([]:List Int).length) from rfl,e];rfl
noncomputable def pairs(m:Nat)(o:Array (Option Nat)):List (Nat × Nat):=(Ag (m+1)).filterMap λj=>(o.getD j none).map (j,·)
def dw(g:ow.size=m+1):(j,a)∈pairs m ow↔ow[j]?=some (some a):=by
 unfold pairs;rw[D2];constructor
 . rintro ⟨f,k,b⟩
   rw[AJ]at b;obtain⟨l,e,c⟩:=AB.mp b;cases c;cases h3:ow[j]? with
   |none=>rw[h3]at e;cases e
   |some o=>rw[h3]at e;rw[show o=some a from e]
 . intro h
   have i:=(A2.mp h).1;exact⟨j,Ah.mpr ⋯,by rw[AJ,h];rfl⟩
def iy:(pairs m ow).Pairwise λx y=>x.1<y.1:=by unfold pairs;rw[List.pairwise_filterMap];refine List.Pairwise.imp (λ{a b} hab x hx y hy=>?_) FC;obtain⟨_,_,rfl⟩:=AB.mp hx;obtain⟨_,_,rfl⟩:=AB.mp hy;exact hab
def Wn(N:wQ m=true){hs:List Int}(Z:hs.length<=m)fg mv ld pl:∃t u,laid m fg mv ld pl hs.toArray=some (t,u)/\t.mask=m/\t.finger=fg/\t.moves=mv/\t.led=ld/\t.plain=pl /\
 u.toList.Perm (Ag hs.length)/\Ok (u.toList.map λa=>hs.getD a 0) t:=by
 obtain⟨r,e,c⟩:=kR N Z;have B:=iy (m:=m) (ow:=r);have o:=λ(j a:Nat)=>dw (m:=m) (ow:=r) c.n (j:=j) (a:=a);refine⟨{mask:=m,place:=((pairs m r).map (·.1)).toArray,dummies:=#[],finger:=fg,led:=ld,moves:=mv,plain:=pl},((pairs m r).map (·.2)).toArray,?_,rfl,rfl,rfl,rfl,rfl,?_,?_⟩
 . unfold laid
   rw[e];rfl
 . rw[Gj]
   refine(CO ?_ B5).mpr λa=>?_
   . rw[Cm,CF]
     refine DW (λ{x y} v hy hxy e=>?_) B;have w:=(o x.1 x.2).mp v;have J:=(o y.1 y.2).mp hy;rw[e]at w;have:=c.d _ _ _ w J;omega
   . rw[AE,Ah]
     constructor
     . rintro ⟨x,v,rfl⟩
       exact c.f _ _ ((o x.1 x.2).mp v)
     . intro p
       obtain⟨j,e⟩:=c.g a p;exact⟨(j,a),(o j a).mpr e,rfl⟩
 . rw[Gj]
   generalize hP:pairs m r=P at B o;have q:∀(i j:Nat),((P.map (·.1)).toArray)[i]?=some j->∃a,P[i]?=some (j,a):=λi j e=>by rw[Dy,An]at e;obtain⟨x,w,rfl⟩:=AB.mp e;exact⟨x.2,w⟩
   have L:uu (P.map (·.1)).toArray:=sd.mpr λi j a b G p I=>by obtain⟨x,p⟩:=q i a p;obtain⟨y,I⟩:=q j b I;obtain⟨R,M⟩:=Ar.mp p;obtain⟨Q,F⟩:=Ar.mp I;have:=BB.mp B i j R Q G;rw[M,F]at this;exact this
   have s:∀{i j a:Nat},P[i]?=some (j,a)->r[j]?=some (some a):=λ{i j a} e=>(o j a).mp (AD e);have C:P.length<=m:=by
    have D:(P.map (·.2)).Nodup:=by rw[Cm,CF];refine DW (λ{x y} v hy hxy e=>?_) B;have w:=(o x.1 x.2).mp v;have J:=(o y.1 y.2).mp hy;rw[e]at w;have:=c.d _ _ _ w J;omega
    have:=sS (m:=Ag hs.length) D λa p=>by obtain⟨x,v,rfl⟩:=AE.mp p;exact Ah.mpr (c.f _ _ ((o x.1 x.2).mp v))
    rw[Ac,AQ]at this;omega
   refine⟨?_,L,rfl,λi j e=>?_,?_,N,λi j h e A=>?_⟩
   . show ((P.map (·.1)).toArray).size=_
     rw[Ae,Ac,Ac,Ac]
   . obtain⟨a,e⟩:=q i j e
     have:=(A2.mp (s e)).1;have:=c.n;show j<=m;omega
   . show ((P.map (·.1)).toArray).size<=m
     rw[Ae,Ac];exact C
   . obtain⟨a,e⟩:=q i j e
     rw[An,An,e]at A;have A:hs.getD a 0=h:=AL A;have p:=c.f _ _ (s e);obtain⟨k,V,T⟩:=c.l j a h (s e) (by rw[Aa,dS p]at A;rw[dS p];exact congrArg some A)
     refine⟨k,V,λX E=>?_⟩;obtain⟨O,z⟩:=T X E;obtain⟨K,H⟩:=DQ ((o _ O).mpr z);exact⟨K,vM L (by show ((P.map (·.1)).toArray)[K]?=_;rw[Dy,An,H];rfl)⟩
structure wK(prog:Program)(w:World)(K:Type) [DecidableEq K] extends HeapKind prog w K where
 f:∀{A:Around} {E:Value->Shared->Prop} {s:Shared} {k:K} {a:Addr} {Q:Bool->Shared->Prop},is s.heap k a->Q false s->wpAny (model prog w) A (Ek 8 (.ref a)) Q E s
 g:∀{A:Around} {E:Value->Shared->Prop} {s:Shared} {k:K} {a:Addr} {Q:Bool->Shared->Prop},is s.heap k a->Q true s->wpAny (model prog w) A (Gz 8 (.ref a)) Q E s
 e:∀{h h':Heap} {k:K} {a d:Addr} {o:Obj} {es ep t},is h k a->h.get? d=some o->o.data=.set es ep t->Cu d h h'->is h' k a
 i:∀{h h':Heap} {k:K} {a:Addr},is h k a->(∀b o,h.get? b=some o->h'.get? b=some o)->is h' k a
section
variable {prog:Program}{w:World}{K:Type} [DecidableEq K] (κ:wK prog w K)
def xE(h:Heap)(a:List K)(e:Array (Int × Value)):Prop:=e.size=a.length/\∀(i:Nat) (k:K),a[i]?=some k->∃b,e[i]?=some (κ.hash k,.ref b)/\κ.is h k b
variable {κ}
variable {A:Around}{E:Value->Shared->Prop}{s:Shared}
def xE.get(x:xE κ h ks es){i:Nat}(c:es[i]?=some e):∃k b,ks[i]?=some k/\e=(κ.hash k,.ref b)/\κ.is h k b:=by
 have g:=(A2.mp c).1;have a:i<ks.length:=by rw[<-x.1];exact g
 obtain⟨b,f,j⟩:=x.2 i _ (dS a);rw[c]at f;exact⟨_,b,dS a,AL f,j⟩
def Zr(l:κ.is s.heap k x):∀e {Q},(∀y∈e,∃b d,y=.ref b/\κ.is s.heap d b)->Q false s->wpAny (model prog w) A (searchCouldBeSeen (.ref x) e) Q E s:=by
 intro e Q i o;unfold searchCouldBeSeen;refine dm ?_;refine FP _ (λa r g=>r.1=none/\g=s/\∀y∈a,∃b d,y=.ref b/\κ.is s.heap d b) _ ?_ ?_ _ _ ⟨rfl,rfl,i⟩
 . rintro v a r g ⟨j,rfl,c⟩
   obtain⟨b,d,rfl,m⟩:=c v AO;have h:∀y∈a,∃b d,y=.ref b/\κ.is g.heap d b:=λy n=>c y (AF _ n);dsimp only;split
   . exact Ab ⟨rfl,rfl,h⟩
   . refine dm (κ.quiet l ?_)
     simp only[EY,As,if_false];refine dm (κ.quiet m ?_);simp only[EY,As,if_false];refine dm (κ.f l ?_);simp only[As,if_false];refine dm (κ.f m ?_);simp only[As,if_false];exact Ab ⟨rfl,rfl,h⟩
 . rintro ⟨q,p⟩ g ⟨j,rfl,_⟩
   simp only at j;subst j;exact Ab o
def R8(b:List K)(t:BW)(h:Int)(k:K)(c:Nat):Prop:=∀i:Nat,b[i]?=some k->∃a,c<=a/\t.slot (lk t h a).j=.live i/\∀f<a,∃g,t.slot (lk t h f).j=.live g
theorem rh(N:s.heap.get? a=some o)(R:o.data=.set es ep t)(J:t.fits es.size=true)(m:xE κ s.heap ks es)(G:Ok (ks.map κ.hash) t)(hg:t.gaveWay=false)(Y:κ.room A)(P:κ.is s.heap k x)
  (hK:K0<10*turns t.mask) (he:t.slot (lk t (κ.hash k) K0).j=.empty):∀M O U,O<=K0->K0-O<M->U.getD (t.probeStart (κ.hash k))=lk t (κ.hash k) O->R8 ks t (κ.hash k) k O->(∀u<O,∃i,t.slot (lk t (κ.hash k) u).j=.live i) ->
 ∀{Q},(k∈ks->Q (.there none) s)->(k ∉ ks->∀d,t.slot (lk t (κ.hash k) d).j=.empty->(∀u<d,∃i,t.slot (lk t (κ.hash k) u).j=.live i)->Q (.free (lk t (κ.hash k) d).j false) s) ->
  wpAny (model prog w) A (IE a (.ref x) (κ.hash k) true M U) Q E s
 |0,O,U,_,h2,_,_,_,_,_,_=>by omega
 |M+1,O,U,h1,h2,hst,hfr,hlv,Q,q1,q2=>by
  have F:∀{i:Nat} {S:K},ks[i]?=some S->(es[i]?.map (·.1)).getD 0=κ.hash S:=λ{i S} e=>by obtain⟨b,L,_⟩:=m.2 i S e;rw[L];rfl
  obtain⟨d,m1,m2,Z,m4⟩:=kL (t:=t) (at_:=λi=>(es[i]?.map (·.1)).getD 0) (h:=κ.hash k) G.f6 (10*turns t.mask) O K0 h1 ⋯ he
  have p:∀u<d,∃i,t.slot (lk t (κ.hash k) u).j=.live i:=λu H=>by
   rcases Dv u O with q|q
   . exact hlv u q
   . obtain⟨i,z,_⟩:=Z u q H
     exact⟨i,z⟩
  unfold IE;refine dm (Ca N R J ?_);dsimp only;rw[hg,hst];simp only[As,if_false];rcases m4 with⟨z,hp⟩|⟨i,z,hi,hp⟩
  . have c:∀f:Nat->Int,f=(λi=>(es[i]?.map (·.1)).getD 0)->t.probe f (κ.hash k) (lk t (κ.hash k) O)=some (.empty (lk t (κ.hash k) d).j none):=λf e=>by rw[e];exact hp
    rw[c]
    rotate_left
    . rfl
    dsimp only;refine Ab (q2 (λhm=>?_) d z p);obtain⟨W,v⟩:=DQ hm;obtain⟨r,X,n,V⟩:=hfr W v;have hlt:r<d:=by
     rcases Ej r d with q|q|q
     . exact q
     . rw[q,z]at n;cases n
     . obtain⟨i',y⟩:=V d q
       rw[z]at y;cases y
    obtain⟨i',B,T⟩:=Z r X hlt;rw[n]at B;cases B;exact T (F v)
  . have c:∀f:Nat->Int,f=(λi=>(es[i]?.map (·.1)).getD 0)->t.probe f (κ.hash k) (lk t (κ.hash k) O)=some (.candidate (lk t (κ.hash k) d).j i (lk t (κ.hash k) (d+1))):=λf e=>by rw[e];exact hp
    rw[c]
    rotate_left
    . rfl
    dsimp only;have hpl:=pj z;have I:i<es.size:=by have:=(A2.mp hpl).1;simp only[BW.fits,ub,beq_iff_eq]at J;omega
    obtain⟨S,b,L,e2,hb⟩:=m.get (AN I);have g:∀y∈((es.filter (·.1 == κ.hash k)).toList.map (·.2)),∃b u,y=Bk b/\κ.is s.heap u b:=λy hy=>by obtain⟨e,he',rfl⟩:=AE.mp hy;have:=(Array.mem_filter.mp (F1.mp he')).1;obtain⟨j,ej⟩:=Array.getElem?_of_mem this;obtain⟨u,b',_,rfl,hb'⟩:=m.get ej;exact⟨b',u,rfl,hb'⟩
    have g1:S=k->Q (.there none) s:=λe=>by subst e;exact q1 (AD L)
    have g2:S≠k->wpAny (model prog w) A (IE a (.ref x) (κ.hash k) true M (some (lk t (κ.hash k) (d+1)))) Q E s:=λhne=>by
     have hkK:d≠K0:=λe=>by rw[e,he]at z;cases z
     refine rh N R J m G hg Y P hK he M (d+1) (some (lk t (κ.hash k) (d+1))) ⋯ ⋯ rfl (λW v=>?_) (λu H=>?_) q1 q2
     . obtain⟨r,X,n,V⟩:=hfr W v
       refine⟨r,?_,n,V⟩;rcases Ej r d with q|q|q
       . obtain⟨i',B,T⟩:=Z r X q
         rw[n]at B;cases B;exact absurd (F v) T
       . rw[q,z]at n
         cases n;rw[v]at L;exact absurd (AL L).symm hne
       . exact q
     . rcases Dv u d with q|q
       . exact p u q
       . rw[show u=d by omega];exact⟨i,z⟩
    have l:es[i]?=some (κ.hash S,Bk b):=by rw[AN I,e2]
    have D:t.sameMemory t.moves t.mask=some true:=by unfold sameMemory;rw[if_pos (beq_self_eq_true _)]
    have C:isSame (.ref b) (.ref b)=pure true:=by unfold isSame;exact if_pos (beq_self_eq_true b)
    split
    . refine dm (Zr P _ g ?_)
      simp only[As,if_false];rw[l];dsimp only;refine dm (Bh (κ.eqBool Y hb P ?_));refine dm (Ca N R J ?_);dsimp only;by_cases hkk:S=k
      . rw[decide_eq_true hkk]
        exact Ab (g1 hkk)
      . rw[decide_eq_false hkk]
        simp only[Gm,As,if_false];rw[D];dsimp only;rw[if_pos rfl,z];dsimp only;rw[l];dsimp only;refine dm (Ee C ?_);refine dm (Ab ?_);exact g2 hkk
    . rw[l]
      dsimp only;refine dm (Bh (κ.eqBool Y hb P ?_));refine dm (Ca N R J ?_);dsimp only;by_cases hkk:S=k
      . rw[decide_eq_true hkk]
        exact Ab (g1 hkk)
      . rw[decide_eq_false hkk]
        simp only[Gm,As,if_false];rw[D];dsimp only;rw[if_pos rfl,z];dsimp only;rw[l];dsimp only;refine dm (Ee C ?_);refine dm (Ab ?_);exact g2 hkk
end
noncomputable def maskOf(n:Nat):Nat:=if n<5 then 7 else if n<19 then 31 else if n<77 then 127 else 511
def nI(h:n<=306):n*5<maskOf n*3:=by
 unfold maskOf;split
 . omega
 . split
   . omega
   . split<;>omega
def dr n:wQ (maskOf n)=true:=by
 unfold maskOf;split
 . exact UH
 . split
   . exact TN
   . split
     . exact WD
     . exact WE
def Zn n:maskOf n%2=1:=by
 unfold maskOf;split
 . rfl
 . split
   . rfl
   . split<;>rfl
def fo n:maskOf n<=511:=by
 unfold maskOf;split
 . omega
 . split
   . omega
   . split<;>omega
def dv(h:n+1<=306):((n+1)*5<maskOf n*3/\maskOf (n+1)=maskOf n)\/((n+1)*5 ≥ maskOf n*3/\sizeAbove (grown (n+1))-1=maskOf (n+1)/\sizeAbove (grown (n+1))<=512):=by
 by_cases h5:n=4
 . subst h5;exact .inr ⟨by decide,by decide,by decide⟩
 by_cases h19:n=18
 . subst h19;exact .inr ⟨by decide,by decide,by decide⟩
 by_cases h77:n=76
 . subst h77;exact .inr ⟨by decide,by decide,by decide⟩
 refine .inl ⟨?_,?_⟩
 . unfold maskOf
   split
   . omega
   . split
     . omega
     . split<;>omega
 . unfold maskOf
   by_cases a:n<5
   . rw[if_pos a,if_pos ⋯]
   . rw[if_neg a,if_neg ⋯]
     by_cases b:n<19
     . rw[if_pos b,if_pos ⋯]
     . rw[if_neg b,if_neg ⋯]
       by_cases c:n<77
       . rw[if_pos c,if_pos ⋯]
       . rw[if_neg c,if_neg ⋯]
section
variable {prog:Program}{w:World}{K:Type} [DecidableEq K] (κ:wK prog w K)
def wc(l:Bool)(h:Heap)(a:Addr)(k:List K):Prop:=
 ∃o e b t,h.get? a=some o/\o.ExactSet/\o.data=.set e b t/\xE κ h k e/\k.Nodup/\Ok (k.map κ.hash) t/\t.plain=true/\t.led=l/\t.mask=maskOf k.length/\k.length<=306
variable {κ}
variable {A:Around}{E:Value->Shared->Prop}{s:Shared}
def fits_of(b:xE κ h ks es)(a:Ok (ks.map κ.hash) t):t.fits es.size=true:=by have c:=a.d;have f:=a.fl;rw[Ac]at c;simp only[BW.fits,BW.fill,a.g,ub,beq_iff_eq,decide_eq_true_eq];exact⟨by rw[c,b.1],by show t.place.size+0<=t.mask;omega⟩
def xE.keeps{d ep0 t0}(x:xE κ h ks es)(f:h.get? a=some o)(g:o.data=.set d ep0 t0)(c:Cu a h h'):xE κ h' ks es:=⟨x.1,λi k e=>by obtain⟨b,l,j⟩:=x.2 i k e;exact⟨b,l,κ.e j f g c⟩⟩
def xE.put(x:xE κ h ks es)(f:p<=ks.length)(g:κ.is h k b):xE κ h (ks.take p++k::ks.drop p) (insertAt es p (κ.hash k,.ref b)):=by
 have a:p<=es.size:=by rw[x.1];exact f
 refine⟨?_,λi c e=>?_⟩
 . rw[q9 a,x.1,Aw,Ap,Bu,B3];omega
 . rw[kN f]at e
   rw[qJ a];by_cases h1:i<p
   . rw[if_pos h1]at e ⊢;exact x.2 i c e
   . rw[if_neg h1]at e ⊢
     by_cases h2:i=p
     . rw[if_pos h2]at e ⊢
       cases e;exact⟨b,rfl,g⟩
     . rw[if_neg h2]at e ⊢;exact x.2 _ c e
def YX{ks:List K}{p:Nat}{k:K}:(ks.take p++k::ks.drop p).Perm (k::ks):=by refine Hu.trans ?_;rw[A8]
noncomputable def UZ(a:Array (Int × Value))(l:Option (BW × Array Nat)):Sem (Array (Int × Value) × BW):=do
 let some (t,order):=l|unsupported "internal:set-table-without-room"
 let e:=order.filterMap (a[·]?)
 if e.size != a.size then unsupported "internal:set-table-lost-an-element"
 pure (e,t)
theorem rF{e:Array (Int × Value)}:∀{l:List Nat},(∀a∈l,a<e.size)->l.filterMap (λa=>e[a]?)=l.map λa=>e.getD a (0,.none)
 |[],_=>rfl
 |a::l,h=>by have d:=h a (.head _);rw[Bo,AN d];simp only[];rw[rF λb c=>h b (.tail _ c),AG,AJ,AN d];rfl
def Pz{a:Addr}{o:Obj}{j:Array (Int × Value)}{ep:Nat}{t:BW}{ks:List K}{k0:K}{f:Nat}(u:s.heap.get? a=some o)(N:o.ExactSet)(y:o.data=.set j ep t)(g:xE κ s.heap ks j)(I:ks.Nodup)(H:Ok (ks.map κ.hash) t)(D:t.plain=true)
 (U:sizeAbove f-1=maskOf ks.length) (S:sizeAbove f<=512) (P:ks.length<=306) {Q:Unit->Shared->Prop} (h:∀F d,Cu a s.heap F->wc κ t.led F a d->d.Perm ks->Q () {s with heap:=F}):wpAny (model prog w) A (setRelay a f) Q E s:=by
 have hf:=fits_of g H;have hr:=nI P;have W:=fo ks.length;have J:j.map (·.1)=(ks.map κ.hash).toArray:=by
  apply Array.ext_getElem?;intro i;rw[Array.getElem?_map,show ((ks.map κ.hash).toArray)[i]?=(ks.map κ.hash)[i]? from by simp,An]
  cases e:ks[i]? with
  |none=>
   rw[FA (by rw[g.1];exact CW.mp e)];rfl
  |some k=>
   obtain⟨b,B,_⟩:=g.2 i k e;rw[B];rfl
 obtain⟨q,c,O,M,l3,l4,Z,X,z,V⟩:=Wn (dr ks.length) (hs:=ks.map κ.hash) (by rw[Ac];omega) t.finger (t.movedTo (maskOf ks.length)) t.led t.plain
 rw[Ac]at z;have p:∀x∈c.toList,x<ks.length:=λx m=>Ah.mp (z.mem_iff.mp m);have G:c.toList.length=ks.length:=by rw[z.length_eq,AQ]
 have v:(c.filterMap (j[·]?)).toList=c.toList.map λx=>j.getD x (0,.none):=by rw[Array.toList_filterMap];exact rF λx m=>by rw[g.1];exact p x m
 have L:(c.toList.map λx=>ks[x]?.getD k0).map κ.hash=c.toList.map λx=>(ks.map κ.hash).getD x 0:=by rw[A7];refine BG λx m=>?_;have:=p x m;rw[Aa,An,dS this];show κ.hash (ks[x]?.getD k0)=_;rw[dS this];rfl
 have l:(c.toList.map λx=>ks[x]?.getD k0).Perm ks:=by
  refine(z.map _).trans (GI.of_eq ?_);apply Ha;intro i;rw[An];by_cases hi:i<ks.length
  . rw[CJ hi,dS hi]
    show some (ks[i]?.getD k0)=_;rw[dS hi];rfl
  . rw[CV (by omega:ks.length<=i),CV (by rw[AQ];omega)];rfl
 have n:xE κ s.heap (c.toList.map λx=>ks[x]?.getD k0) (c.filterMap (j[·]?)):=by
  refine⟨by rw[<-Ax,v,Ac,Ac],λi k e=>?_⟩
  rw[An]at e;obtain⟨x,B,rfl⟩:=AB.mp e;have m:=p x (AD B);obtain⟨b,T,R⟩:=g.2 x _ (dS m);rw[dS m];refine⟨b,?_,R⟩;rw[<-Bi,v,An,B];show some (j.getD x (0,.none))=_;rw[AJ,T];rfl
 unfold setRelay;refine dm (Ca u y hf ?_);dsimp only;rw[if_neg (by rw[AX];omega)]
 refine dm ?_;show wpAny (model prog w) A (UZ j (t.relaid (j.map (·.1)) f)) _ E s
 have C:t.relaid (j.map (·.1)) f=some (q,c):=by unfold BW.relaid;rw[U,J];exact O
 unfold UZ;rw[C];dsimp only;have r:(c.filterMap (j[·]?)).size=j.size:=by rw[n.1,Ac,G,g.1]
 rw[if_neg (by rw[r];simp)]
 refine Ab ?_;refine wpAny_storeSet_of u y (h _ _ (Cq s.heap a _) ?_ l) (by rw[r,g.1,AX];omega)
 have Y:(s.heap.update a (Gb (c.filterMap (j[·]?)) q)).get? a=some {o with data:=.set (c.filterMap (j[·]?)) (ep+1) q}:=by
  have:=Cd (Gb (c.filterMap (j[·]?)) q) u (by rw[IL _ _ y];rfl)
  rw[IL _ _ y]at this;exact this
 refine⟨_,_,_,q,Y,N,rfl,n.keeps u y (Cq s.heap a _),l.nodup_iff.mpr I,by rw[L];exact V,by rw[X];exact D,Z,by rw[M,l.length_eq],by rw[l.length_eq];exact P⟩
end
def Us(b:p.j+p.more<=m)(a:p.i<=m):(adv m p).j+(adv m p).more<=m/\(adv m p).i<=m:=by
 unfold adv advance;split
 . refine⟨?_,a⟩
   show p.j+1+(p.more-1)<=m;omega
 . have h:(leap m p.i p.perturb).1<=m:=Fu (Hf _ (Fe m))
   have:=tj h;refine⟨?_,h⟩;show (leap m p.i p.perturb).1+(runEnd m (leap m p.i p.perturb).1-(leap m p.i p.perturb).1)<=m;omega
def Qt k:(lk t h k).j<=t.mask:=by
 have a:∀(k:Nat) (p:Probe),p.j+p.more<=t.mask->p.i<=t.mask->(wd t.mask k p).j+(wd t.mask k p).more<=t.mask:=λk=>by
  induction k with
  |zero=>exact λp b _=>b
  |succ k c=>
   intro p b f;have:=Us b f;exact c (adv t.mask p) this.1 this.2
 have h0:(h0 t.mask h).1<=t.mask:=a9;have g:=tj h0;have:=a k (xf t.mask h) (by show (M.St.h0 t.mask h).1+(runEnd t.mask (M.St.h0 t.mask h).1-(M.St.h0 t.mask h).1)<=t.mask;omega) h0
 show (wd t.mask k (xf t.mask h)).j<=t.mask;omega
section
variable {prog:Program}{w:World}{K:Type} [DecidableEq K] {κ:wK prog w K}
variable {A:Around}{E:Value->Shared->Prop}{s:Shared}
def jy(hS:wc κ ld s.heap a ks)(hr:κ.room A)(hk:κ.is s.heap k x)(hn:ks.length+1<=306)
 (h:∀F u,Cu a s.heap F->wc κ ld F a u->(if k∈ks then u=ks else u.Perm (k::ks))->Q (!decide (k∈ks)) {s with heap:=F}):wpAny (model prog w) A (setAddHashed a (.ref x) (κ.hash k)) Q E s:=by
 have hS0:=hS;obtain⟨o,es,W,t,R,O,P,B,hnd,q,L,Z,v,hle⟩:=hS;have hf:=fits_of B q;have hroom:=nI hle;have X:=Zn ks.length;have hm511:=fo ks.length;have K:=q.d;rw[Ac]at K;have hg:t.gaveWay=false:=by unfold BW.gaveWay;rw[v,X];rfl
 obtain⟨K0,hK,he⟩:=q.meets (λ_=>0) (κ.hash k);have hfr:R8 ks t (κ.hash k) k 0:=λi e=>by
  have hi:i<t.place.size:=by rw[K];exact(Ar.mp e).1
  obtain⟨kk,p1,p2⟩:=q.m i _ (κ.hash k) (AN hi) (by rw[An,e];rfl)
  exact⟨kk,AV _,by rw[p1];exact vM q.c (AN hi),p2⟩
 have hturn:10*turns t.mask<=10*526:=by unfold turns;omega
 unfold setAddHashed setAddHashedIn;refine Bh (dm (Ca R P hf ?_));dsimp only;rw[show byScan (.ref x) es=false from rfl];simp only[As,if_false];refine dm ?_;unfold setSearch;refine rh R P hf B q hg hr hk hK he 100000 0 none (AV _) ⋯ rfl hfr (λk' hk'=>absurd hk' (C8 _)) (λT=>?_) (λT kk hz hlv=>?_)
 . dsimp only
   refine Ab ?_;have:=h s.heap ks (Cu.refl a s.heap) hS0 (by rw[if_pos T])
   rw[decide_eq_true T]at this;exact this
 . dsimp only
   refine dm (Ca R P hf ?_);dsimp only;obtain⟨hp,f⟩:=q.put hz (Qt kk) hlv (by rw[K,v];omega)
   rw[Ac]at hp;generalize hpt:t.put (lk t (κ.hash k) kk).j=PT at hp f;have C:PT.1.plain=t.plain/\PT.1.mask=t.mask/\PT.1.led=t.led:=by rw[<-hpt];exact⟨rfl,rfl,rfl⟩
   obtain⟨r,p⟩:=PT;dsimp only at hp f C ⊢;obtain⟨I,J,V⟩:=C;rw[show (ks.map κ.hash).take p++κ.hash k::(ks.map κ.hash).drop p=(ks.take p++k::ks.drop p).map κ.hash by rw[Dc,AG,List.map_take,List.map_drop]]at f
   have y:=B.put hp hk;have n:=YX (ks:=ks) (p:=p) (k:=k);have D:(ks.take p++k::ks.drop p).Nodup:=n.nodup_iff.mpr (Bm.mpr ⟨T,hnd⟩);have b:(ks.take p++k::ks.drop p).length=ks.length+1:=n.length_eq;generalize ks.take p++k::ks.drop p=ks1 at *;generalize insertAt es p (κ.hash k,Bk x)=l at *;have S:l.size=ks.length+1:=by rw[y.1,b]
   have hf1:=fits_of y f;have sb:=Cq s.heap a (Gb l r);have M:(s.heap.update a (Gb l r)).get? a=some {o with data:=.set l (W+1) r}:=by
    have:=Cd (Gb l r) R (by rw[IL _ _ P];rfl)
    rw[IL _ _ P]at this;exact this
   have G:=y.keeps R P sb;have z:r.fill=ks.length+1:=by unfold BW.fill;rw[f.g,f.d,Ac,b];rfl
   rw[I,L];simp only[if_true];refine dm (κ.g hk ?_);simp only[if_true];refine dm (wpAny_storeSet_of R P ?_ (by rw[S,AX];omega))
   have U:∀F u,Cu a (s.heap.update a (Gb l r)) F->wc κ ld F a u->u.Perm ks1->Q true {s with heap:=F}:=λF u H Y pm=>by
    have:=h F u (sb.trans H) Y (by rw[if_neg T];exact pm.trans n)
    rw[decide_eq_false T]at this;exact this
   rcases dv hn with⟨n1,n2⟩|⟨n1,n2,n3⟩
   . have N:r.tooFull=false:=by unfold BW.tooFull;rw[z,J,v];exact decide_eq_false ⋯
     rw[N];simp only[Gm,As,if_false];exact Ab (U _ ks1 (Cu.refl a _) ⟨_,l,W+1,r,M,O,rfl,G,D,f,by rw[I];exact L,by rw[V];exact Z,by rw[J,v,b,n2],by rw[b];exact hn⟩ (Ez _))
   . have N:r.tooFull=true:=by unfold BW.tooFull;rw[z,J,v];exact decide_eq_true ⋯
     rw[N];simp only[Bool.not_false,IF,if_true];have hw:grown (es.size+1)=grown (ks.length+1):=by rw[B.1]
     rw[hw];refine dm ?_;refine Pz (k0:=k) (t:=r) (ks:=ks1) (o:={o with data:=.set l (W+1) r}) (ep:=W+1) M O rfl G D f (by rw[I];exact L) (by rw[b];exact n2) n3 (by rw[b];exact hn) λF u H Y pm=>?_
     rw[V,Z]at Y;exact Ab (U F u H Y pm)
end
noncomputable def xH(w:World):Bool:=w.params.followText "set-order"
def Zy ld:Ok [] (BW.fresh 0 0 ld):=by
 refine⟨rfl,λi j _ a=>absurd a (C8 _),rfl,λi j e=>?_,AV _,UH,λi j h e=>?_⟩
 . have e:(#[]:Array Nat)[i]?=some j:=e
   rw[EL]at e;cases e
 . have e:(#[]:Array Nat)[i]?=some j:=e
   rw[EL]at e;cases e
theorem qo{b:Type}:∀{l:List b} {i} (h:i<l.length),(l[i]::l.eraseIdx i).Perm l
 |a::l,0,_=>Ez _
 |a::l,i+1,h=>by rw[List.eraseIdx_cons_succ,List.getElem_cons_succ];exact(GI.swap _ _ _).trans ((qo (l:=l) (i:=i) (by rw[Ap]at h;omega)).cons a)
theorem eD:∀d k (left:List α) out,left.length=d->(HU.go next d k left out).toList.Perm (out.toList++left)
 |0,k,left,out,h=>by
  rw[HF.mp h,A5];unfold HU.go;exact Ez _
 |d+1,k,left,out,h=>by
  unfold HU.go;have e:next k%left.length<left.length:=Hf _ ⋯
  rw[dS e];dsimp only;refine(eD d (k+1) _ _ (by rw[List.length_eraseIdx_of_lt e];omega)).trans ?_
  rw[De,Aq];refine GI.append_left _ ?_;exact qo e
def uo:(HU next xs).toList.Perm xs.toList:=by unfold HU;refine(eD xs.size 0 xs.toList #[] Ax).trans ?_;exact Ez _
section
variable {prog:Program}{w:World}{K:Type} [DecidableEq K] {κ:wK prog w K}
variable {A:Around}{E:Value->Shared->Prop}{s:Shared}
def Wt(h:∀o,wc κ (!xH w) (s.heap.push o) s.heap.objs.size []->Q (.ref s.heap.objs.size) {s with heap:=s.heap.push o}):wpAny (model prog w) A (newSet (.type "set")) Q E s:=by unfold newSet Hg;refine dm (dm (Cw (Ab ?_)));dsimp only;simp only[newObj];exact dm (wpAny_alloc (Ab (h _ ⟨_,#[],0,_,Az _ rfl,⟨rfl,rfl,rfl⟩,rfl,⟨rfl,λi k e=>by cases e⟩,Il,Zy _,rfl,rfl,rfl,AV _⟩)))
def xE.perm(x:xE κ h u es)(p:es'.toList.Perm es.toList):∃d:List K,d.Perm u/\xE κ h d es':=by
 have o:∀{l n:List (Int × Value)},l.Perm n->∀u:List K,(u.length=n.length/\∀(i:Nat) (k:K),u[i]?=some k->∃b,n[i]?=some (κ.hash k,Bk b)/\κ.is h k b)->∃d:List K,d.Perm u/\d.length=l.length/\∀(i:Nat) (k:K),d[i]?=some k->∃b,l[i]?=some (κ.hash k,Bk b)/\κ.is h k b:=by
  intro l n p;induction p with
  |nil=>intro u c;exact⟨u,Ez _,c.1,c.2⟩
  |@cons a l1 C _ B=>
   intro u c;cases u with
   |nil=>have:=c.1;simp at this
   |cons k u=>
    obtain⟨d,m,j,g⟩:=B u ⟨by simpa using c.1,λi f e=>c.2 (i+1) f e⟩
    refine⟨k::d,m.cons _,by rw[Ap,Ap,j],λi f e=>?_⟩
    cases i with
    |zero=>exact c.2 0 f e
    |succ i=>exact g i f e
  |swap a b l1=>
   intro u c;cases u with
   |nil=>have:=c.1;simp at this
   |cons k u=>
    cases u with
    |nil=>have:=c.1;simp at this
    |cons q u=>
     refine⟨q::k::u,GI.swap _ _ _,c.1,λi f e=>?_⟩;cases i with
     |zero=>exact c.2 1 f e
     |succ i=>
      cases i with
      |zero=>exact c.2 0 f e
      |succ i=>exact c.2 (i+2) f e
  |trans _ _ s r=>
   intro u c;obtain⟨q,m,j,g⟩:=r u c;obtain⟨A,w,z,y⟩:=s q ⟨j,g⟩;exact⟨A,w.trans m,z,y⟩
 obtain⟨d,m,j,g⟩:=o p u ⟨by rw[Ax];exact x.1.symm,λi k e=>by obtain⟨b,v,t⟩:=x.2 i k e;exact⟨b,by rw[Bi];exact v,t⟩⟩
 exact⟨d,m,by rw[<-Ax];exact j.symm,λi k e=>by obtain⟨b,v,t⟩:=g i k e;exact⟨b,by rw[<-Bi];exact v,t⟩⟩
end
section
variable {prog:Program}{w:World}
variable {A:Around}{E:Value->Shared->Prop}{s:Shared}
theorem items_int:∀{ks} {vs},ItemsAre (intKind prog w) ks vs->∀v∈vs,∃i t,v=.int i t
 |_,_,.cons (k:=k) h1 h2,v,h=>by
  rcases Ao.mp h with rfl|h
  . obtain⟨t,rfl⟩:=G1 h1
    exact⟨_,t,rfl⟩
  . exact items_int h2 v h
def Vv(l:Hh (intKind prog w) s.heap ks a)(h:Q false s):wpAny (model prog w) A (Ek 8 (.ref a)) Q E s:=by
 have x:=l.typeIs;obtain⟨o,f,n,m,_,q,p⟩:=l;unfold Ek;refine dm (DT x ?_);dsimp only;refine dm (Ab ?_);simp only[EY,As,if_false];refine dm (Gv m q ?_);dsimp only;refine dm ?_;show wpAny _ _ (forIn f _ _) _ _ s;rw[<-Array.forIn_toList];refine FP _ (λb r g=>r.1=none/\g=s/\∀v∈b,∃i t,v=Dr i t) _ ?_ ?_ _ _ ⟨rfl,rfl,items_int p⟩
 . rintro v b r g ⟨k,rfl,c⟩
   obtain⟨i,t,rfl⟩:=c v AO;refine dm (Ee (show Ek 7 (.int i t)=pure false by unfold Ek;rfl) ?_)
   simp only[As,if_false];exact Ab ⟨rfl,rfl,λu j=>c u (AF _ j)⟩
 . rintro ⟨z,y⟩ g ⟨k,rfl,_⟩
   simp only at k;subst k;exact Ab h
def Vu(l:Hh (intKind prog w) s.heap ks a)(h:Q true s):wpAny (model prog w) A (Gz 8 (.ref a)) Q E s:=by
 have x:=l.typeIs;obtain⟨o,f,n,m,_,q,p⟩:=l;unfold Gz;refine dm (wpAny_specialOf x F.slot_tuple_hash.lookup ?_);dsimp only;refine dm (Gv m q ?_);dsimp only[FL];refine dm ?_;show wpAny _ _ (forIn f _ _) _ _ s;rw[<-Array.forIn_toList];refine FP _ (λb r g=>r.1=none/\g=s/\∀v∈b,∃i t,v=Dr i t) _ ?_ ?_ _ _ ⟨rfl,rfl,items_int p⟩
 . rintro v b r g ⟨k,rfl,c⟩
   obtain⟨i,t,rfl⟩:=c v AO;refine dm (Ee (show Gz 7 (.int i t)=pure true by unfold Gz;rfl) ?_)
   simp only[EY,As,if_false];exact Ab ⟨rfl,rfl,λu j=>c u (AF _ j)⟩
 . rintro ⟨z,y⟩ g ⟨k,rfl,_⟩
   simp only at k;subst k;exact Ab h
def bW{es ep t}(x:Hh (intKind prog w) h ks a)(k:h.get? d=some o)(m:o.data=.set es ep t)(j:Cu d h h'):Hh (intKind prog w) h' ks a:=by
 obtain⟨g,i,n,c,p,b,l⟩:=x;have f:a≠d:=by rintro rfl;obtain rfl:g=o:=AL (c.symm.trans k);rw[m]at b;exact nomatch b
 exact⟨g,i,n,(j.2 a f).trans c,p,b,l⟩
noncomputable def tupS(prog:Program)(w:World):wK prog w (List Int):={tupleKind (intKind prog w) with f:=λc h=>Vv c h,g:=λc h=>Vu c h,e:=λx b j l=>bW x b j l,i:=λx k=>let ⟨o,a,n,b,m,j,hi⟩:=x;⟨o,a,n,k _ _ b,m,j,hi⟩}
end
section
variable {prog:Program}{w:World}{K:Type} [DecidableEq K] {κ:wK prog w K}
variable {A:Around}{E:Value->Shared->Prop}{s:Shared}
noncomputable def x8(t:BW)(i:Nat):Nat:=match i with
 |0=>0
 |i+1=>t.place.getD i 0+1
def j4(h:uu t.place)(c:i<=t.place.size):below t.place (x8 t i)=i:=by
 obtain⟨f,b,a⟩:=tL h (x8 t i);cases i with
 |zero=>
  rcases Nat.eq_zero_or_pos (below t.place (x8 t 0)) with q|q
  . exact q
  . have:=b 0 q
    exact absurd this (C8 _)
 |succ i=>
  rcases Ej (below t.place (x8 t (i+1))) (i+1) with q|q|q
  . have z:=a i ⋯ ⋯
    have z:t.place.getD i 0+1<=t.place.getD i 0:=z;omega
  . exact q
  . have z:=b (i+1) q
    have z:t.place.getD (i+1) 0<t.place.getD i 0+1:=z;have:=h i (i+1) ⋯ ⋯
    omega
def bM(E:wc κ (!xH w) s.heap a ks):∃(W:Array (Int × Value)) (ks':List K) (S:Nat->Nat) (o:Obj) (es:Array (Int × Value)) (F:Nat) (t:BW),s.heap.get? a=some o/\o.data=.set es F t/\o.ExactSet/\es.size=ks.length/\t.fits es.size=true/\S 0=0/\ks'.Perm ks/\xE κ s.heap ks' W/\W.size=ks.length /\
 ∀O u i M Q,u.heap.get? a=some o->i<=ks.length->Q ((W[i]?).map λe=>(e.2,S (i+1))) u->wpAny (model prog w) O (setNext a (S i) i F) Q M u:=by
 have L:=E;obtain⟨o,es,F,t,C,p,q,h,G,j,r,v,I,J⟩:=E;have n:=fits_of h j;have k:t.place.size=ks.length:=by rw[j.d,Ac]
 cases hb:xH w with
 |true=>
  have g:(model prog w).w.params.followText "set-order"=true:=hb;obtain⟨ks',B,A⟩:=h.perm (uo (next:=w.params.setOrder a F) (xs:=es))
  refine⟨_,ks',λ_=>0,o,es,F,t,C,q,p,h.1,n,rfl,B,A,by rw[A.1,B.length_eq],λO u i M Q f D b=>?_⟩
  unfold setNext Hg;refine dm (Ca f q n ?_);dsimp only;refine dm (dm (Cw (Ab ?_)));dsimp only;rw[if_pos g];rw[if_neg (by simp)]
  refine dm ?_;unfold setWalk Hg;refine dm (Ca f q n ?_);dsimp only;refine dm (dm (Cw (Ab ?_)));dsimp only;rw[if_pos g];refine dm (Cw (Ab ?_));exact Ab b
 |false=>
  have g:¬(model prog w).w.params.followText "set-order"=true:=λz=>by rw[show xH w=true from z]at hb;cases hb
  have l:t.led=true:=by rw[v,hb];rfl
  refine⟨es,ks,x8 t,o,es,F,t,C,q,p,h.1,n,rfl,Ez _,h,h.1,λO u i M Q f D b=>?_⟩;unfold setNext Hg;refine dm (Ca f q n ?_);dsimp only;refine dm (dm (Cw (Ab ?_)));dsimp only;rw[if_neg g];show wpAny (model prog w) O (if (!t.plain&&decide (es.size > 1))=true then _ else (do
   (if (!t.led&&!es.isEmpty)=true then unsupported "set:maker-not-led" else pure ())
   _)) Q M u
  rw[r,l];simp only[EY,En,As,if_false];refine dm (Ab ?_);rw[j4 j.c (by rw[k];exact D)]
  cases he:es[i]? with
  |none=>
   rw[he]at b;exact Ab b
  |some e=>
   have m:i<t.place.size:=by rw[k,<-h.1];exact(A2.mp he).1
   rw[he]at b;rw[AN m];have H:x8 t (i+1)=t.place[i]+1:=by show t.place.getD i 0+1=_;rw[AJ,AN m];rfl
   obtain⟨x,y⟩:=e;have b:Q (some (y,x8 t (i+1))) u:=b;rw[H]at b;exact Ab b
end
def z5:Slot "set_iterator" "__next__" "set_iterator.__next__":=
 .of (owner:="set_iterator") (n:="__next__") (by rw[HV,FX];kernel_rfl) (by decide +kernel) (by decide +kernel) (by decide +kernel)
  (by first|exact .inl (by decide +kernel)|exact .inr (by decide +kernel)) (by rw[Im];kernel_rfl)
def xw:entryFor table "set_iterator.__next__"=some Builtin.«set_iterator.__next__»:=entryFor_of_fast (by kernel_rfl)
def wL a:argsOk "set_iterator.__next__" ⟨[a],[]⟩:=by unfold argsOk;kernel_rfl
def yq(h:Heap)(b a:Addr)(s i n e:Nat):Prop:=∃o,h.get? b=some o/\o.cls=.type "set_iterator"/\o.data=.fields #[.int s 0,.int i 0,.ref a,.int n 0,.int e 0]
def yq.typeIs{s:Shared}{it a}(x:yq s.heap it a sl i n ep):s.TypeIs (.ref it) "set_iterator":=let ⟨o,h,b,_⟩:=x;⟨o,h,b⟩
def next_item{it a}(b:yq s.heap it a sl i n ep)(l:s.heap.get? a=some o)(q:o.data=.set es ep t)(p:t.fits es.size=true)(m:es.size=n)
 (k:∀O M F,F (some (x,sl')) s->wpAny (model prog w) O (setNext a sl i ep) F M s)
 (v:∀d,yq d it a sl' (i+1) n ep->Cu it s.heap d->Q (some x) {s with heap:=d}):wpAny (model prog w) A (pyNext (.ref it)) Q E s:=by
 obtain⟨y,h,r,c⟩:=id b;unfold pyNext;refine dm (GZ (Ck (name:=Ep "__next__") b.typeIs z5
  (BC z5 b.typeIs xw ?_ (wL _))))
 show wpAny _ _ (fieldsOf (.ref it) >>= _) _ _ s;refine dm (wpAny_fieldsOf h c ?_);dsimp only;refine dm (Gk l q p ?_);rw[if_neg (by rw[m];simp)]
 show wpAny _ _ (setNext a (sl:Int).toNat (i:Int).toNat (ep:Int).toNat >>= _) _ _ s;rw[Bx,Bx,Bx];refine dm (k _ _ _ ?_);dsimp only;refine dm (Ew h c (by simp) ?_)
 have f:=Ff c (·.setIfInBounds 0 (rawInt sl'))
 have g:=Cd (Obj.mapFields (·.setIfInBounds 0 (rawInt sl'))) h (FW f)
 refine dm (Ew g f (by simp) ?_)
 refine Ab ⟨x,rfl,Ab (v _ ?_ ((Cq ..).trans (Cq ..)))⟩;have j:=Ff f (·.setIfInBounds 1 (rawInt (i+1)))
 exact⟨_,Cd _ g (FW j),(Hb ..).trans ((Hb ..).trans r),by
  rw[j];simp[rawInt]⟩
def slot_set_iter:Slot "set" "__iter__" "set.__iter__":=
 .of (owner:="set") (n:="__iter__") (by rw[HV,FX];kernel_rfl) (by decide +kernel) (by decide +kernel) (by decide +kernel)
  (by first|exact .inl (by decide +kernel)|exact .inr (by decide +kernel)) (by rw[Im];kernel_rfl)
def ql:entryFor table "set.__iter__"=some Builtin.«frozenset.__iter__»:=
 entryFor_alias (id':="frozenset.__iter__") (by kernel_rfl) rfl (by decide +kernel) (by kernel_rfl)
def oF a:argsOk "set.__iter__" ⟨[a],[]⟩:=by unfold argsOk;kernel_rfl
def wV:Slot "set_iterator" "__iter__" "set_iterator.__iter__":=
 .of (owner:="set_iterator") (n:="__iter__") (by rw[HV,FX];kernel_rfl) (by decide +kernel) (by decide +kernel) (by decide +kernel)
  (by first|exact .inl (by decide +kernel)|exact .inr (by decide +kernel)) (by rw[Im];kernel_rfl)
def tS:entryFor table "set_iterator.__iter__"=some Builtin.«dict_keyiterator.__iter__»:=
 entryFor_alias (id':="dict_keyiterator.__iter__") (by kernel_rfl) rfl (by decide +kernel) (by kernel_rfl)
def t8 a:argsOk "set_iterator.__iter__" ⟨[a],[]⟩:=by unfold argsOk;kernel_rfl
def next_end{it a}(l:A.handled=none)(h:yq s.heap it a sl i n ep)(j:s.heap.get? a=some o)(q:o.data=.set es ep t)(p:t.fits es.size=true)(k:es.size=n)
 (g:∀O M F,F none s->wpAny (model prog w) O (setNext a sl i ep) F M s)
 (r:∀d,Heap.ExtBut it s.heap d->Q none {s with heap:=d}):wpAny (model prog w) A (pyNext (.ref it)) Q E s:=by
 obtain⟨v,c,x,f⟩:=id h;unfold pyNext;refine dm (GZ (Ck (name:=Ep "__next__") h.typeIs z5
  (BC z5 h.typeIs xw ?_ (wL _))))
 show wpAny _ _ (fieldsOf (.ref it) >>= _) _ _ s;refine dm (wpAny_fieldsOf c f ?_);dsimp only;refine dm (Gk j q p ?_);rw[if_neg (by rw[k];simp)]
 show wpAny _ _ (setNext a (sl:Int).toNat (i:Int).toNat (ep:Int).toNat >>= _) _ _ s;rw[Bx,Bx,Bx];refine dm (g _ _ _ ?_);dsimp only;refine dm (Ew c f (by simp) ?_)
 show wpAny _ _ (newExc (.type "StopIteration") [] >>= _) _ _ _;refine dm ?_;simp only[newExc,newTuple];refine dm (Bj ?_ (by size_fits))
 refine dm (m:=Gw _ _) (Ee (a:=Af) (by first|rfl|(simp only[Gw];rfl)) ?_)
 refine Bj ?_ (by size_fits)
 simp only[raiseNew];refine dm (wpAny_handled ?_);rw[show A.in1.handled=none from l];refine dm (Ab (wpAny_throw ?_));refine dm (wpAny_isInstance (T:="StopIteration") (b:=true) ⟨_,Az _ rfl,rfl⟩ isSubtype_stop ?_);exact Ab (r _ (((Cq ..).extBut.push _).push _))
def ZH [DecidableEq K] {n:wK prog w K}{ks}(x:wc n (!xH w) s.heap a ks)
 (y:∀o e d t,s.heap.get? a=some o->o.data=.set e d t->Q (.ref s.heap.objs.size) {s with heap:=s.heap.push {cls:=.type "set_iterator",data:=.fields #[.int (0:Nat) 0,.int (0:Nat) 0,.ref a,.int (ks.length:Nat) 0,.int (d:Nat) 0]}}) :
 wpAny (model prog w) A (pyIter (.ref a)) Q E s:=by
 obtain⟨o,e,d,t,h,k,f,c,p,i,g,v,q,r⟩:=x;have j:=fits_of c i;have m:s.TypeIs (.ref a) "set":=⟨o,h,k.1⟩;refine wpAny_pyIter_slot m slot_set_iter (BC slot_set_iter m ql ?_ (oF _));unfold Builtin.«frozenset.__iter__» Builtin.Frozenset.slot0 slotArgs;simp only[Hw,EY,As,↓reduceIte,Iq,Cf,bne_self_eq_false];unfold Hx Builtin.Frozenset.sizeOf;refine dm (Ab ?_)
 try dsimp only
 refine dm (Ab ?_);refine dm (dm (Gk h f j (Ab ?_)));refine dm ?_;unfold setDrawn Hg;refine dm (Ca h f j ?_);dsimp only;refine dm (dm (Cw (Ab ?_)));dsimp only;refine Ab ?_;have l:∀b:Bool,(b&&(!t.plain&&decide (e.size > 1)))=false:=λb=>by rw[g];cases b<;>rfl
 show wpAny _ _ (if (!(model prog w).w.params.followText "set-order"&&(!t.plain&&decide (e.size > 1)))=true then _ else _) _ _ s
 rw[l,if_neg Aj];refine dm (Ab ?_);refine dm (wpAny_setEpoch_of h f j ?_);refine dm (Bj (Ab ⟨_,rfl,"set_iterator",_,⟨_,Az _ rfl,rfl⟩,z5.lookup,?_⟩));have:=y o e d t h f;rw[<-c.1]at this;exact this
def dX{it a}(h:yq s.heap it a sl i n ep)(b:Q (.ref it) s):wpAny (model prog w) A (pyIter (.ref it)) Q E s:=by refine wpAny_pyIter_slot h.typeIs wV (BC wV h.typeIs tS ?_ (t8 _));exact Ab ⟨_,rfl,"set_iterator",_,h.typeIs,z5.lookup,b⟩
def bf{s:Shared} [DecidableEq K] {G:wK prog w K}{a it}{ks}(M:A.handled=none)(r:a≠it)(S:wc G (!xH w) s.heap a ks):∃(W:Array (Int × Value)) (ks':List K) (d:Nat->Nat) (o:Obj) (es:Array (Int × Value)) (u:Nat) (t:BW),s.heap.get? a=some o/\o.data=.set es u t/\d 0=0/\ks'.Perm ks/\xE G s.heap ks' W/\W.size=ks.length /\
 Walks prog w A it [it,a] [it] ks.length (λi v=>∃e,W[i]?=some e/\e.2=v) (λi h=>yq h it a (d i) i ks.length u/\h.get? a=some o):=by
 obtain⟨W,ks',d,o,es,u,t,Z,z,O,l,L,U,X,y,B,I⟩:=bM S;refine⟨W,ks',d,o,es,u,t,Z,z,U,X,y,B,⟨λb g=>by simp at g;simp[g],λi h n c J=>⟨?_,J a (by simp) _ c.2⟩,λi f Q N F c m=>?_,λf Q N c m=>?_,λi f Q N c m=>dX c.1 m⟩⟩
 . obtain⟨V,T,R,P⟩:=c.1
   exact⟨V,J it (by simp) _ T,R,P⟩
 . have k:i<W.size:=by rw[B];exact F
   refine next_item (x:=W[i].2) (sl':=d (i+1)) c.1 c.2 z L l (λD E C q=>?_) λn j H=>?_
   . have:=I D f i E C c.2 ⋯
     rw[AN k]at this;exact this q
   . exact m _ n f.toks ⟨_,AN k,rfl⟩ ⟨j,(H.2 a r).trans c.2⟩ λb p g e=>H.extBut b p (λh=>g (by simp[h])) e
 . refine next_end M c.1 c.2 z L l (λD E C q=>?_) λn Y=>m n f.toks λb p g e=>Y b p (λh=>g (by simp[h])) e
   have:=I D f ks.length E C c.2 (Ad _);rw[FA (by rw[B];exact Ad _)]at this
   exact this q
end M.St
end
section
set_option maxHeartbeats 400000
namespace M.St
open PySem PySem.SetTable
section
variable {prog:Program}{w:World}{K:Type} [DecidableEq K] {κ:wK prog w K}
variable {A:Around}{E:Value->Shared->Prop}{s:Shared}
def wc.ext{h h':Heap}(x:wc κ ld h a ks)(k:∀b o,h.get? b=some o->h'.get? b=some o):wc κ ld h' a ks:=by
 obtain⟨o,p,q,t,j,f,l,c,r⟩:=x;exact⟨o,p,q,t,k _ _ j,f,l,⟨c.1,λi g e=>by obtain⟨b,n,m⟩:=c.2 i g e;exact⟨b,n,κ.i m k⟩⟩,r⟩
def wc.typeIs(x:wc κ ld s.heap a ks):s.TypeIs (.ref a) "set":=by obtain⟨o,e,c,t,b,h,_⟩:=x;exact⟨o,b,h.1⟩
def wc.lt(x:wc κ ld h a ks):a<h.objs.size:=by obtain⟨o,e,c,t,b,_⟩:=x;exact Am b
def lr(hh:A.handled=none)(L:wc κ (!xH w) s.heap a ks)
 (hQ:∀M (ks':List K) (acc:List Value),ks'.Perm ks->acc.length=ks.length->(∀(i:Nat) k,ks'[i]?=some k->∃b,acc[i]?=some (.ref b)/\κ.is s.heap k b)->Moved [] (λx y=>y=x) s M->Q acc M):wpAny (model prog w) A (collect (.ref a)) Q E s:=by
 have G:@LT.lt Nat _ a s.heap.objs.size:=L.lt;have r:ks.length<=306:=by obtain⟨_,_,_,_,_,_,_,_,_,_,_,_,_,h⟩:=L;exact h
 unfold collect;refine dm (wpAny_runValue (codeAny_builtin F.entry_proto_collect ?_));rw[Around.under_plainId F.plain_proto_collect _];show wpAny _ A.in1 (newList [] >>= λl=>again (.builtin "list.__iadd__" ⟨[l,.ref a],[]⟩)) _ _ s;refine dm (Bj ?_);refine Ab ⟨plainId_quiet F.plain_list_iadd _,codeAny_builtin F.entry_list_iadd ?_⟩;rw[Around.under_plainId F.plain_list_iadd _];have u:=L.ext (h':=s.heap.push {cls:=.type "list",data:=.seq ([]:List Value).toArray}) λb o e=>xd _ e;have d:s.heap.objs.size≠a:=E6 G;show wpAny _ A.in1 (GL (.ref s.heap.objs.size) (.ref a) (.ref s.heap.objs.size)) _ _ _;unfold GL;refine dm (DT (s:={s with heap:=s.heap.push {cls:=.type "list",data:=.seq ([]:List Value).toArray}}) u.typeIs ?_)
 have h1:Hy (.ref s.heap.objs.size) (.ref a)=false:=by simp[Hy,d]
 have h2:(D1 "set" == D1 "list")=false:=by decide
 have h3:(D1 "set" == D1 "tuple")=false:=by decide
 simp only[h1,h2,h3,Bool.or_false,As,if_false];refine dm (ZH (s:={s with heap:=s.heap.push {cls:=.type "list",data:=.seq ([]:List Value).toArray}}) u λo es n t ho hd=>?_)
 have X:=u.ext (h':=(s.heap.push {cls:=.type "list",data:=.seq ([]:List Value).toArray}).push {cls:=.type "set_iterator",data:=.fields #[.int (0:Nat) 0,.int (0:Nat) 0,.ref a,.int (ks.length:Nat) 0,.int (n:Nat) 0]}) λb o e=>xd _ e;have q:(s.heap.push {cls:=.type "list",data:=.seq ([]:List Value).toArray}).objs.size=s.heap.objs.size+1:=by simp[Heap.push]
 have C:a≠(s.heap.push {cls:=.type "list",data:=.seq ([]:List Value).toArray}).objs.size:=by rw[q];exact Ay (BD G)
 generalize hitg:(s.heap.push {cls:=.type "list",data:=.seq ([]:List Value).toArray}).objs.size=it at C ⊢;obtain⟨W,ks',sl,o',S,U,t',B,H,h0,hp,R,hW,wk⟩:=bf (A:=A.in1) (s:=s) (it:=it) hh C L;have eo:o'=o:=AL ((xd _ B).symm.trans ho);subst eo;rw[hd]at H;obtain⟨rfl,rfl,rfl⟩:es=S/\n=U/\t=t':=by cases H;exact⟨rfl,rfl,rfl⟩
 have v:Shared.TypeIs {s with heap:=(s.heap.push {cls:=.type "list",data:=.seq ([]:List Value).toArray}).push {cls:=.type "set_iterator",data:=.fields #[.int (0:Nat) 0,.int (0:Nat) 0,.ref a,.int (ks.length:Nat) 0,.int (n:Nat) 0]}} (.ref a) "set":=X.typeIs
 refine dm (Bh ?_);unfold Builtin.List.listLengthHint;refine dm (wpAny_specialOf v F.slot_set_len.lookup ?_)
 wp_delta
 refine dm (wpAny_isInstance (T:="set") (b:=true) v sub_set_self ?_);show wpAny _ _ (typeOf (Bk a) >>= _) _ _ _;refine dm (DT v ?_);refine Ab ?_;rw[if_pos (by decide)]
 refine dm (B8 ?_);have f:((s.heap.push {cls:=.type "list",data:=.seq ([]:List Value).toArray}).push {cls:=.type "set_iterator",data:=.fields #[.int (0:Nat) 0,.int (0:Nat) 0,.ref a,.int (ks.length:Nat) 0,.int (n:Nat) 0]}).get? s.heap.objs.size=some {cls:=.type "list",data:=.seq ([]:List Value).toArray}:=xd _ (Az _ rfl);have J:((s.heap.push {cls:=.type "list",data:=.seq ([]:List Value).toArray}).push {cls:=.type "set_iterator",data:=.fields #[.int (0:Nat) 0,.int (0:Nat) 0,.ref a,.int (ks.length:Nat) 0,.int (n:Nat) 0]}).get? it=some {cls:=.type "set_iterator",data:=.fields #[.int (0:Nat) 0,.int (0:Nat) 0,.ref a,.int (ks.length:Nat) 0,.int (n:Nat) 0]}:=by rw[<-hitg];exact Az _ rfl
 have I:s.heap.objs.size ∉ [it,a]:=by
  intro h;simp only[Ao,Cy,or_false]at h;rcases h with h|h
  . rw[<-hitg,q]at h;exact absurd h (Ay (Cz _))
  . exact d h
 refine dm ?_;show wpAny _ A.in1 (updateSeq s.heap.objs.size (·.push .none) >>= λ_=>updateSeq s.heap.objs.size (·.pop)) _ _ _
 refine dm (wpAny_updateSeq f rfl ?_);have c:=Cd (A1 (·.push Af)) f rfl
 refine wpAny_updateSeq c rfl ?_;have z:=Cd (A1 (·.pop)) c rfl
 have p:∀(h:Heap) b o,b≠s.heap.objs.size->h.get? b=some o->((h.update s.heap.objs.size (A1 (·.push Af))).update s.heap.objs.size (A1 (·.pop))).get? b=some o:=
  λh b o V e=>(Ed _ _ (Co V)).trans ((Ed _ _ (Co V)).trans e)
 have O:=p _ it _ (λh=>I (by rw[<-h];exact AO)) J
 have P:=p _ a _ (λh=>d h.symm) (xd {cls:=.type "set_iterator",data:=.fields #[.int (0:Nat) 0,.int (0:Nat) 0,.ref a,.int (ks.length:Nat) 0,.int (n:Nat) 0]} (xd {cls:=.type "list",data:=.seq ([]:List Value).toArray} B));have N:yq _ it a (sl 0) 0 ks.length n/\_:=⟨⟨_,O,rfl,by rw[h0]⟩,P⟩
 clear J f c;refine Ab ⟨plainId_quiet F.plain_extend_loop _,codeAny_extend_loopS wk.toS (Au r (by decide)) _ I _ ks.length 0 _ _ _ rfl (AV _) N z (ItemsOf.nil _) λM j c' D Z g=>?_⟩
 show wpAny _ A (load s.heap.objs.size >>= _) _ _ M;refine dm (wpAny_load Z ?_);refine Ab (hQ M ks' j.toList hp (by simpa using g.1) (λi k e=>?_) ?_)
 . obtain⟨b,e1,e2⟩:=R.2 i k e
   have hi:i<j.size:=by rw[g.1,<-hW];exact(A2.mp e1).1
   obtain⟨e',Y,w2⟩:=g.2 i j[i] (AN hi);rw[e1]at Y;cases Y;refine⟨b,?_,?_⟩
   . rw[Bi,AN hi,<-w2]
   . exact e2
 . refine⟨λb o V e=>?_,D.gens,D.drawn,D.os,D.toks⟩
   have e3:=p _ b o (Ay (Am e)) (xd {cls:=.type "set_iterator",data:=.fields #[.int (0:Nat) 0,.int (0:Nat) 0,.ref a,.int (ks.length:Nat) 0,.int (n:Nat) 0]} (xd {cls:=.type "list",data:=.seq ([]:List Value).toArray} e));refine D.heap b o (λh=>?_) e3;have m:=Am e;simp only[Ao,Cy,or_false]at h;rcases h with h|h
   . rw[h]at m;exact BX _ m
   . rw[h,<-hitg,q]at m;exact absurd (Nat.lt_trans (Cz _) m) (BX _)
end
end M.St
end
section
set_option maxHeartbeats 1000000
namespace L2
open PySem PySem.W PySem.Calls PyProof PyProof.Rows
section
variable {prog:Program}{w:World}{A:Around}{E:Value->Shared->Prop}{s:Shared}
def jx(prog:Program)(w:World)(A:Around)(v:List Value)(Q:Value->Shared->Prop)(s:Shared):Prop:=∃(κ:DG) (key:Keyed->Int),2<=v.length/\v.length<=16777216 /\
 (∀h (Q':DG->Shared->Prop),(∀b o,s.heap.get? b=some o->h.get? b=some o)->Q' κ {s with heap:=h}->wpAny (model prog w) A.in1.in1 (keyKind' v.toArray) Q' (λ_ _=>False) {s with heap:=h}) /\
 (∀h i j C,(∀b o,s.heap.get? b=some o->h.get? b=some o)->i<v.length->j<v.length->C (decide (key (itm v i)<key (itm v j))) {s with heap:=h}->wpAny (model prog w) A.in1.in1 (keyLt' κ (v.getD i Af) (v.getD j Af)) C (λ_ _=>False) {s with heap:=h}) /\
 (∀i j,i<v.length->j<v.length->key (itm v i)=key (itm v j)->i=j) /\
 (∀(h:Heap) (c:Nat) (ix:List Nat),(∀b o,s.heap.get? b=some o->h.get? b=some o)->ix.Perm (Ag v.length)->ix.Pairwise (λi j=>key (itm v i)<key (itm v j)) ->
  h.get? s.heap.objs.size=some (seqObj "list" (ix.map λi=>v.getD i Af).toArray c)->Q (.ref s.heap.objs.size) {s with heap:=h})
def jw(v:List Value)(Q:Value->Shared->Prop)(s:Shared):Prop:=v.length<2 /\
 ∀(h':Heap) (c:Nat),(∀b o,s.heap.get? b=some o->h'.get? b=some o)->h'.get? s.heap.objs.size=some (seqObj "list" v.toArray c)->Q (.ref s.heap.objs.size) {s with heap:=h'}
def gN(r:jw vs Q s):wpAny (model prog w) A.in1 (newList vs >>= λl=>holding [l] (call (.builtin "list.sort") [l]) >>= λ_=>ret l) (λd u=>∃v,d=Fin.done (Flow.ret v)/\Q v u) E s:=by
 obtain⟨x,h⟩:=r;refine dm (DE ?_ (by rw[AX];omega))
 have a:(s.heap.push (seqObj "list" vs.toArray 0)).get? (s.heap.objs.size)=some (seqObj "list" vs.toArray 0):=Az _ rfl;have k:∀b o,s.heap.get? b=some o->(s.heap.push (seqObj "list" vs.toArray 0)).get? b=some o:=λb o q=>xd _ q;show wpAny _ _ _ _ _ {s with heap:=s.heap.push (seqObj "list" vs.toArray 0)}
 generalize hg:s.heap.push (seqObj "list" vs.toArray 0)=g at a k ⊢;refine dm (Bh (BC Gq ⟨_,a,rfl⟩ F4 ?body (Gr _)))
 case body=>
  have y:s.heap.objs.size<g.objs.size:=Am a;rw[F5];refine dm (Hs a rfl ?_);refine dm (DF a rfl ?_ (by rw[Ae,AX];omega) (AV _))
  obtain⟨n,i⟩:∃n,(g.update (s.heap.objs.size) (A1 λ_=>(#[]:Array Value))).get? (s.heap.objs.size)=some (seqObj "list" #[] n):=⟨_,C6 a λ_=>#[]⟩;refine dm (Ef i rfl ?_);refine dm (Gs ?_ (by show vs.length<=_;rw[AX];omega))
  refine dm (DE ?_ (AV _));refine Bh ?_;have c:(((g.update (s.heap.objs.size) (A1 λ_=>(#[]:Array Value))).push (seqObj "tuple" vs.toArray 0)).push (seqObj "list" #[] 0)).get? (s.heap.objs.size)=some (seqObj "list" #[] n):=
   xd _ (xd _ i)
  show wpAny (model prog w) _ _ _ _ {s with heap:=((g.update (s.heap.objs.size) (A1 λ_=>(#[]:Array Value))).push (seqObj "tuple" vs.toArray 0)).push (seqObj "list" #[] 0)}
  dsimp only;have j:vs.toArray.size<2:=by rw[Ae];exact x
  rw[if_pos j,if_pos j];refine dm (Ab ?_);rw[StateT.run_pure];refine dm (Ab ?_);dsimp only;refine dm (Ef c rfl ?_);have f:(arrOf (F6 general' (vs.toArray.zip vs.toArray) #[] 7 none)).map (·.2)=vs.toArray:=by
   show (vs.toArray.zip vs.toArray).map (·.2)=vs.toArray
   apply EI.mp;simp[List.map_snd_zip]
  rw[f];refine dm (DF c rfl ?_ (AV _) (by rw[Ae,AX];omega))
  simp only[bne_self_eq_false,As,if_false];refine Ab ⟨_,rfl,Ab ⟨_,rfl,?_⟩⟩;have t:=C6 c λ_=>vs.toArray;refine h _ _ (λb o e=>?_) t;have m:b<s.heap.objs.size:=Am e;have p:b≠s.heap.objs.size:=Ay m;rw[BU _ _ _ _ p];refine xd _ (xd _ ?_);rw[BU _ _ _ _ p];exact k b o e
def bV(hs:jx prog w A vs Q s):wpAny (model prog w) A.in1 (newList vs >>= λl=>holding [l] (call (.builtin "list.sort") [l]) >>= λ_=>ret l) (λS F=>∃v,S=Fin.done (Flow.ret v)/\Q v F) E s:=by
 obtain⟨κ,n,h2,hz,P,W,Z,h⟩:=hs;have I:(vs.toArray.zip vs.toArray).size=vs.length:=by simp
 have Y:∀{a:Array Keyed},a.Perm (vs.toArray.zip vs.toArray)->∃f:List Nat,f.Perm (Ag vs.length)/\f.map (itm vs)=a.toList:=λ{a} J=>tY (by rw[<-qK];exact CM.mp J)
 have k:∀{a:Array Keyed} {f:List Nat} (i:Nat) (hi:i<f.length),f.map (itm vs)=a.toList->Tim.kk n a i=n (itm vs f[i]):=λ{a f} i hi e=>by unfold Tim.kk;rw[AJ,<-Bi,<-e,An,dS hi];rfl
 have H:∀{f:List Nat},f.Perm (Ag vs.length)->f.length=vs.length:=λJ=>by rw[J.length_eq,AQ]
 have u:∀{f:List Nat},f.Perm (Ag vs.length)->∀i (hi:i<f.length),f[i]<vs.length:=λJ i hi=>Ah.mp (J.mem_iff.mp (Bv hi));have hD:Tim.Dis n (vs.toArray.zip vs.toArray):=λa J i j hi C D e=>by obtain⟨f,t,N⟩:=Y J;rw[I,<-H t]at hi C;rw[k i hi N,k j C N]at e;exact D ((ED (t.nodup_iff.mpr B5)).mp (Z _ _ (u t i hi) (u t j C) e))
 refine dm (DE ?_ (by rw[AX];omega))
 have d:(s.heap.push (seqObj "list" vs.toArray 0)).get? (s.heap.objs.size)=some (seqObj "list" vs.toArray 0):=Az _ rfl;have G:∀b o,s.heap.get? b=some o->(s.heap.push (seqObj "list" vs.toArray 0)).get? b=some o:=λb o q=>xd _ q;show wpAny _ _ _ _ _ {s with heap:=s.heap.push (seqObj "list" vs.toArray 0)}
 generalize hg:s.heap.push (seqObj "list" vs.toArray 0)=g at d G ⊢;refine dm (Bh (BC Gq ⟨_,d,rfl⟩ F4 ?body (Gr _)))
 case body=>
  rw[F5];refine dm (Hs d rfl ?_);refine dm (DF d rfl ?_ (by rw[Ae,AX];omega) (AV _))
  obtain⟨U,T⟩:∃U,(g.update (s.heap.objs.size) (A1 λ_=>(#[]:Array Value))).get? (s.heap.objs.size)=some (seqObj "list" #[] U):=⟨_,C6 d λ_=>#[]⟩;refine dm (Ef T rfl ?_);refine dm (Gs ?_ (by show vs.length<=_;rw[AX];omega))
  refine dm (DE ?_ (AV _));refine Bh ?_;have m:∀b o,s.heap.get? b=some o->(((g.update (s.heap.objs.size) (A1 λ_=>(#[]:Array Value))).push (seqObj "tuple" vs.toArray 0)).push (seqObj "list" #[] 0)).get? b=some o:=λb o e=>by have K:b<s.heap.objs.size:=Am e;refine xd _ (xd _ ?_);rw[BU _ _ _ _ (Ay K)];exact G b o e
  have B:(((g.update (s.heap.objs.size) (A1 λ_=>(#[]:Array Value))).push (seqObj "tuple" vs.toArray 0)).push (seqObj "list" #[] 0)).get? (s.heap.objs.size)=some (seqObj "list" #[] U):=
   xd _ (xd _ T)
  show wpAny (model prog w) _ _ _ _ {s with heap:=((g.update (s.heap.objs.size) (A1 λ_=>(#[]:Array Value))).push (seqObj "tuple" vs.toArray 0)).push (seqObj "list" #[] 0)}
  generalize ((g.update (s.heap.objs.size) (A1 λ_=>(#[]:Array Value))).push (seqObj "tuple" vs.toArray 0)).push (seqObj "list" #[] 0)=g6 at B m ⊢;dsimp only;have X:¬vs.toArray.size<2:=by rw[Ae];omega
  rw[if_neg X,if_neg X];refine dm (B0 (P g6 (λr F=>r=κ/\F={s with heap:=g6}) m ⟨rfl,rfl⟩) (λr F M=>?_) λ_ _ x=>x.elim)
  obtain⟨rfl,rfl⟩:=M;have L:Tim.rm prog w A.in1.in1 (λ_ _=>False) {s with heap:=g6} r (vs.toArray.zip vs.toArray) n:=λx y st Q' hx hy M hq=>by
   rw[qK]at hx hy;obtain⟨i,hi,rfl⟩:=AE.mp hx;obtain⟨j,C,rfl⟩:=AE.mp hy;rw[lt'_eq];refine Ak (wpS_get ?_);rw[M];refine Ak (FN (GZ (B0 (W g6 i j (λc F=>F={s with heap:=g6}/\c=decide (n (itm vs i)<n (itm vs j))) m (Ah.mp hi) (Ah.mp C) ⟨rfl,rfl⟩) (λc F hc=>?_) λ_ _ hF=>hF.elim)))
   obtain⟨rfl,rfl⟩:=hc;exact⟨rfl,Av hq⟩
  refine dm (B0 (Tim.eK L hD (st:=F6 r (vs.toArray.zip vs.toArray) #[] 7 none) (Q:=λ_ p=>Tim.Bs r (vs.toArray.zip vs.toArray) p/\Tim.SIn n (arrOf p) 0 (vs.toArray.zip vs.toArray).size) ⟨rfl,.refl _,rfl⟩ rfl (by rw[I];exact h2) λp a b=>⟨a,b⟩) ?_ λ_ _ x=>x.elim)
  rintro ⟨⟨⟩,p⟩ F ⟨rfl,O,hS⟩;dsimp only at O hS ⊢;obtain⟨f,t,N⟩:=Y O.a;have R:(arrOf p).map (·.2)=(f.map λi=>vs.getD i Af).toArray:=by apply EI.mp;rw[Array.toList_map,<-N,A7];rfl
  have V:(f.map λi=>vs.getD i Af).toArray.size<=AI:=by rw[Ae,Ac,H t,AX];omega
  rw[show (arrOf p).map (·.2)=_ from R]
  refine dm (Ef B rfl ?_);refine dm (DF B rfl ?_ (AV _) (Nat.le_succ_of_le V));rw[O.b];simp only[bne_self_eq_false,As,if_false];refine Ab ⟨_,rfl,Ab ⟨_,rfl,?_⟩⟩;refine h _ _ f (λb o e=>?_) t (BB.mpr λi j hi C D=>?_) (C6 B λ_=>(f.map λi=>vs.getD i Af).toArray)
  . have K:b<s.heap.objs.size:=Am e
    rw[BU _ _ _ _ (Ay K)];exact m b o e
  . have:=hS i j (Em D) (by rw[I,<-H t];exact C)
    rw[BS,BS,k i hi N,k j C N]at this;rcases GJ this with z|z
    . exact z
    . have:=(ED (t.nodup_iff.mpr B5)).mp (Z _ _ (u t i hi) (u t j C) z)
      exact absurd this (Ay D)
def bQ(c:∀P F,(∀d e,jw d Q e\/jx prog w A d Q e->P d e)->wpAny (model prog w) A.in1 (collect v) P F s) :
 wpAny (model prog w) A (call (.builtin "sorted") [v]) Q E s:=by
 refine E3 kind_sorted plain_sorted entry_sorted (args_sorted1 _) ?_;unfold Builtin.«sorted»;refine dm (m:=checkCount "sorted" 1 1 _) (Ab ?_);exact dm (c _ _ λd e h=>h.elim gN bV)
end
end L2
end
section
set_option maxHeartbeats 1000000
namespace L2
open PySem PySem.W PySem.Calls PyProof PyProof.Rows
theorem xm:∀{k} {us},ItemsAre (intKind prog w) k us->v8 us k
 |_,_,.nil=>.b
 |_,_,.cons h r=>by obtain⟨t,rfl⟩:=G1 h;exact .a (xm r)
end L2
end
section
set_option maxHeartbeats 1000000
namespace M.St
open PySem PySem.SetTable
section
variable {prog:Program}{w:World}{K:Type} [DecidableEq K] (κ:wK prog w K)
def v9(l:Bool)(c:List K)(f:List Addr)(a:Addr)(h:Heap):Prop:=
 ∃o e g t,h.get? a=some o/\o.ExactSet/\o.data=.set e g t/\e.size=c.length/\f.length=c.length/\(∀(i:Nat) (k:K) (b:Addr),c[i]?=some k->f[i]?=some b->e[i]?=some (κ.hash k,.ref b))/\c.Nodup/\Ok (c.map κ.hash) t/\t.plain=true/\t.led=l/\t.mask=maskOf c.length/\c.length<=306
def gp(h:Heap)(a:List K)(c:List Addr):Prop:=∀(i:Nat) (k:K) (b:Addr),a[i]?=some k->c[i]?=some b->κ.is h k b
variable {κ}
def wc.split(x:wc κ ld h a ks):∃d,v9 κ ld ks d a h/\gp κ h ks d:=by
 obtain⟨o,j,s,t,p,l,q,f,r⟩:=x;have m:∀{i:Nat} {k:K},ks[i]?=some k->∃b,j[i]?=some (κ.hash k,.ref b)/\κ.is h k b:=λ{i k} e=>f.2 i k e;have c:∀{i:Nat} {k:K} {b:Addr},ks[i]?=some k->(j.toList.map λe=>match e.2 with|.ref b=>b|_=>0)[i]?=some b->j[i]?=some (κ.hash k,.ref b)/\κ.is h k b:=λ{i k b} e g=>by
  obtain⟨y,n,v⟩:=m e;rw[An,Bi,n]at g;have:y=b:=by simpa using g
  subst this;exact⟨n,v⟩
 exact⟨j.toList.map λe=>match e.2 with|.ref b=>b|_=>0,⟨o,j,s,t,p,l,q,f.1,by rw[Ac,Ax];exact f.1,λi k b e g=>(c e g).1,r⟩,λi k b e g=>(c e g).2⟩
def v9.join(x:v9 κ ld ks bs a h)(y:gp κ h ks bs):wc κ ld h a ks:=by
 obtain⟨o,n,p,t,g,b,l,f,m,j,r⟩:=x;refine⟨o,n,p,t,g,b,l,⟨f,λi k e=>?_⟩,r⟩;have c:i<bs.length:=by rw[m];exact(Ar.mp e).1
 exact⟨bs[i],j i k _ e (dS c),y i k _ e (dS c)⟩
def v9.keep:∀e d:Heap,v9 κ ld ks bs a e->(∀o,e.get? a=some o->d.get? a=some o)->v9 κ ld ks bs a d:=by rintro e d ⟨o,b,c,t,h,r⟩ k;exact⟨o,b,c,t,k o h,r⟩
def v9.got(x:v9 κ ld ks bs a h):∃o,h.get? a=some o:=let ⟨o,_,_,_,b,_⟩:=x;⟨o,b⟩
end
end M.St
namespace L2
open PySem
def Y3 [DecidableEq K] {b:M.St.wK P w K}{ks}(x:M.St.v9 b ld ks bs a h):z7 P w H h a (.i (M.St.v9 b ld ks bs a)):=
 ⟨x,x.got,M.St.v9.keep⟩
end L2
end
section
set_option maxHeartbeats 1000000
namespace M.St
open PySem
noncomputable def wK.eV{p:Program}{w:World}{K:Type} [DecidableEq K] (j:wK p w K)(G:K->Addr->Prop):wK p w K where
 is:=λh k a=>j.is h k a/\G k a
 hash:=j.hash
 draws:=j.draws
 room:=j.room
 inj:=λx y=>j.inj x.1 y.1
 keeps:=λx a b c=>⟨j.keeps x.1 a b c,x.2⟩
 pyHash:=λr x h=>j.pyHash r x.1 h
 eqBool:=λr x y h=>j.eqBool r x.1 y.1 h
 quiet:=λx h=>j.quiet x.1 h
 f:=λx h=>j.f x.1 h
 g:=λx h=>j.g x.1 h
 e:=λx a b c=>⟨j.e x.1 a b c,x.2⟩
 i:=λx k=>⟨j.i x.1 k,x.2⟩
end M.St
namespace L2
open PySem PySem.W PySem.Calls PyProof PyProof.Rows
section
variable {prog:Program}{w:World}{A:Around}{E:Value->Shared->Prop}{s:Shared}
def GAt(G:List Int->Addr->Prop)(a:List Value)(c:List (List Int)):Prop:=∀(i:Nat) (z:List Int),c[i]?=some z->∃b,a[i]?=some (.ref b)/\G z b
def bR{Q:Value->Shared->Prop}(l:TV s.heap vs zs)(tg:GAt G vs zs)(g:zs.Perm ks)(m:ks.Nodup)(x:ks.length<2\/∀z∈ks,z≠[])(V:vs.length<=16777216)
 (h:∀(h':Heap) c its,(∀b o,s.heap.get? b=some o->h'.get? b=some o)->TV h' its (zm ks)->GAt G its (zm ks)->h'.get? s.heap.objs.size=some (seqObj "list" its.toArray c)->Q (.ref s.heap.objs.size) {s with heap:=h'}):jw vs Q s\/jx prog w A vs Q s:=by
 have H:vs.length=zs.length:=l.1;have hl:=g.length_eq;have E:zs.Nodup:=g.nodup_iff.mpr m;have p:∀(h':Heap) (ix:List Nat),(∀b o,s.heap.get? b=some o->h'.get? b=some o)->ix.Perm (Ag zs.length)->(ix.map λi=>zs.getD i [])=zm ks->TV h' (ix.map λi=>vs.getD i Af) (zm ks)/\GAt G (ix.map λi=>vs.getD i Af) (zm ks):=λh' ix k B e=>by
  rw[<-e];have r:∀(i:Nat) (z:List Int),(ix.map λi=>zs.getD i [])[i]?=some z->∃j,zs[j]?=some z/\(ix.map λi=>vs.getD i Af)[i]?=some (vs.getD j Af):=λi z f=>by
   rw[An]at f;obtain⟨j,q,S⟩:=AB.mp f;have Z:j<zs.length:=Ah.mp (B.mem_iff.mp (AD q));refine⟨j,by rw[<-S,Aa,dS Z];rfl,?_⟩
   rw[An,q];rfl
  refine⟨⟨by rw[Ac,Ac],λi z f=>?_⟩,λi z f=>?_⟩
  rotate_left
  . obtain⟨j,y,U⟩:=r i z f
    obtain⟨b,L,K⟩:=tg j z y;exact⟨b,by rw[U,Aa,L];rfl,K⟩
  obtain⟨j,y,U⟩:=r i z f;obtain⟨b,o,n,us,L,K,f3⟩:=(l.up k).2 j z y;exact⟨b,o,n,us,by rw[U,Aa,L];rfl,K,f3⟩
 by_cases h2:vs.length<2
 . refine .inl ⟨h2,λh' c k e=>?_⟩
   have e1:(Ag zs.length).map (λi=>zs.getD i [])=zm ks:=by
    rw[um];refine pv m g ?_
    match zs,show zs.length<2 by omega with
    |[],_=>exact .nil
    |[_],_=>exact Di _ _
   have:=p h' (Ag zs.length) k (.refl _) e1;rw[<-H,um]at this;exact h h' c vs k this.1 this.2 e
 . have x:∀z∈zs,z≠[]:=λz V=>x.resolve_left ⋯ z (g.mem_iff.mp V)
   have D:∀{i:Nat},i<vs.length->∃z,zs[i]?=some z/\zs.getD i []=z/\z∈ks:=λ{i} f=>by rw[H]at f;exact⟨zs[i],dS f,by rw[Aa,dS f];rfl,g.mem_iff.mp (Bv f)⟩
   refine .inr ⟨tuples' true,keyOf vs zs (λa=>((zm ks).idxOf a:Int)),⋯,V,λh' Q' k X=>?_,λh' i j C k f q hc=>?_,λi j f q e=>?_,λh' c ix k B hw e=>?_⟩
   . obtain⟨fs,kt,kl,ki⟩:=(l.up k).qA x
     refine kat_kind (s:={s with heap:=h'}) (T:=.type "int") kt ⋯ (λv hv=>?_) rfl X
     obtain⟨i,t,rfl⟩:=ki v hv;exact Looks.of_pure rfl
   . obtain⟨z,u,Y,P⟩:=D f
     obtain⟨R,d,W,N⟩:=D q;rw[yU l u,yU l d,<-p4 m P N,<-me]at hc;obtain⟨b,o,n,us,L,K,f3,f4,f5⟩:=(l.up k).2 i z u;obtain⟨b',o',n',us',O,M,f3',F,J⟩:=(l.up k).2 j R d;rw[Aa,Aa,L,O];refine kat_lt (s:={s with heap:=h'}) K f4 M F ?_
     rw[Ae,Ae,ug f5,ug J];exact pM (s:={s with heap:=h'}) 0 f5 J hc
   . obtain⟨z,u,Y,P⟩:=D f
     obtain⟨R,d,W,N⟩:=D q;rw[yU l u,yU l d]at e;have S:=jX P N e;subst S;exact(List.getElem?_inj ⋯ E).mp (u.trans d.symm)
   . have pk:(ix.map λi=>zs.getD i [])=zm ks:=?_
     . exact h h' c _ k (p h' ix k (by rw[<-H];exact B) pk).1 (p h' ix k (by rw[<-H];exact B) pk).2 e
     have I:∀i∈ix,i<vs.length:=λi f=>Ah.mp (B.mem_iff.mp f);refine pv m ((uo [] (by rw[<-H];exact B)).trans g) ?_
     rw[CF];refine hw.imp_of_mem λ{i j} f q w=>?_;obtain⟨z,u,Y,P⟩:=D (I i f);obtain⟨R,d,W,N⟩:=D (I j q);rw[yU l u,yU l d]at w;rw[Y,W];exact w
def jY(R:A.handled=none)(D:M.St.wc ((M.St.tupS prog w).eV G) (!M.St.xH w) s.heap a ks)(r:ks.length<2\/∀z∈ks,z≠[])
 (Z:∀u l c d,Moved [] (λx y=>y=x) s u->TV u.heap d (zm ks)->GAt G d (zm ks)->u.heap.get? l=some (seqObj "list" d.toArray c)->s.heap.get? l=none->Q (.ref l) u) :
 wpAny (model prog w) A (call (.builtin "sorted") [.ref a]) Q E s:=by
 have v:=D;obtain⟨_,_,_,_,_,_,_,_,t,_,_,_,_,L⟩:=v;refine bQ λP U F=>M.St.lr (A:=A.in1) R D λJ q O C m p j=>F _ _ ?_;refine bR (G:=G) (zs:=q) ⟨by rw[m,C.length_eq],λi z e=>?_⟩ (λi z e=>?_) C t r ⋯ λS c d k H I e=>?_
 . obtain⟨b,B,⟨o,f,n,K,V,T,N⟩,_⟩:=p i z e
   exact⟨b,o,n,f.toList,B,j.heap b o (λh=>nomatch h) K,V,T,xm N⟩
 . obtain⟨b,B,_,g⟩:=p i z e
   exact⟨b,B,g⟩
 . refine Z _ _ c d ⟨λb o X e=>k b o (j.heap b o X e),j.gens,j.drawn,j.os,j.toks⟩ H I e ?_
   cases e0:s.heap.get? J.heap.objs.size with
   |none=>rfl
   |some o=>exact absurd (Am (j.heap _ _ (λh=>nomatch h) e0)) (BX _)
end
end L2
end
section
set_option maxHeartbeats 1000000
namespace L2
open PySem PySem.W PySem.Calls PyProof PyProof.Rows
section
variable {X:Cx}{pins:List (Addr × Obj)}{σ:St}{H:Hp}{s:Shared}
theorem pE:∀{k} {us},Vals (k.map V.d) us->ItemsAre (intKind P w) k us
 |[],_,.nil=>.nil
 |i::k,_,.cons r rs=>by obtain⟨t,rfl⟩:=(show ∃t,_=Dr i t from r);exact .cons (by show Value.isInt i (.int i t)=true;simp[Value.isInt]) (pE rs)
def SqS(X:Cx)(H:Hp)(p:Addr)(a:List (List Int))(c:List Addr):Prop:=
 H p=some (.i (M.St.v9 (M.St.tupS X.f X.w) (!M.St.xH X.w) a c p))/\∀(i:Nat) (k:List Int) (b:Addr),a[i]?=some k->c[i]?=some b->SqT X.K H b (k.map V.d)
def SqS.setG(I:Inv X pins σ H s)(x:SqS X H p ks bs)(g:∀(i:Nat) k b,ks[i]?=some k->bs[i]?=some b->G k b):M.St.wc ((M.St.tupS X.f X.w).eV G) (!M.St.xH X.w) s.heap p ks:=by obtain⟨e,q⟩:=x;have l:M.St.v9 (M.St.tupS X.f X.w) (!M.St.xH X.w) ks bs p s.heap:=(I.j p _ e).1;refine M.St.v9.join (κ:=(M.St.tupS X.f X.w).eV G) (bs:=bs) l λi k b h c=>⟨?_,g i k b h c⟩;obtain⟨a,r,⟨o,m,v,n,t⟩,_⟩:=I.tuple (q i k b h c);exact⟨o,a.toArray,n,m,v,t,pE r⟩
theorem eU:∀{its} {zs},its.length=zs.length->GAt G its zs->∃d:List Addr,d.length=zs.length/\Vals (d.map V.c) its/\∀(i:Nat) z,zs[i]?=some z->∃b,d[i]?=some b/\G z b
 |[],[],_,_=>⟨[],rfl,.nil,λi z e=>by simp at e⟩
 |v::its,z::zs,l,g=>by
  obtain⟨b,e,u⟩:=g 0 z rfl;have m:v=.ref b:=by simpa using e
  subst m;obtain⟨d,k,j,h⟩:=eU (its:=its) (zs:=zs) (by simpa using l) λi z e=>by simpa using g (i+1) z (by simpa using e)
  refine⟨b::d,by rw[Ap,Ap,k],.cons rfl j,λi f a=>?_⟩
  cases i with
  |zero=>exact⟨b,rfl,by simp at a;exact a▸u⟩
  |succ i=>simpa using h i f (by simpa using a)
def j8(hc:X.g=true):yJ X (.builtin "sorted") (λS H Q=>∃p d w,S=[.c p]/\SqS X H p d w/\(d.length<2\/∀z∈d,z≠[]) /\
 ∀l (cs:List Addr),H l=none->cs.length=(zm d).length->(∀(i:Nat) z,(zm d)[i]?=some z->∃b,cs[i]?=some b/\∃j:Nat,d[j]?=some z/\w[j]?=some b)->Q (.c l) (upd H l (.b (cs.map V.c)))):=by
 intro pins s σ H S us Q I r h;obtain⟨p,d,w,rfl,hq,x,q⟩:=h;obtain⟨u,rfl,W⟩:=vals1 r;cases W;have E:=hq.setG (G:=λz b=>∃j:Nat,d[j]?=some z/\w[j]?=some b) I λi k b e1 e2=>⟨i,e1,e2⟩;have K:d.length<=306:=by obtain⟨_,_,_,_,_,_,_,_,_,_,_,_,_,D⟩:=E;exact D
 refine jY (I.y.g hc) E x λU l c its hm T Z e hl=>?_;obtain⟨cs,N,c2,c3⟩:=eU T.1 Z;have f:(zm d).length=d.length:=(zS d).length_eq;obtain⟨L,g2,d2,t2,Y⟩:=U;obtain⟨k1,v,t,n,k5⟩:=hm;have v:g2=s.gens:=v;have t:d2=s.drawn:=t;have n:Y=s.os:=n;subst v t n;have a:∀b o,s.heap.get? b=some o->L.get? b=some o:=λb o z=>k1 b o (λh=>nomatch h) z
 obtain⟨A,J⟩:=I.j5 (h':=L) (ys:=cs.map V.c) (by rw[Ac,N,f,AX];omega) c2 hl (λb o _ z=>a b o z) (λm ⟨o,es,ep,ho,r⟩=>⟨o,es,ep,a _ o ho,r⟩) e
 exact⟨V.c l,_,⟨J.y,J.R,J.C,J.B,J.M,J.F,J.G,J.J,J.O,J.j,J.P⟩,rfl,q l cs A N c3⟩
end
end L2
end
section
set_option maxHeartbeats 1000000
namespace L2
open PySem PySem.W PySem.Calls PyProof PyProof.Rows
section
variable {X:Cx}{pins:List (Addr × Obj)}{σ:St}{H:Hp}{s:Shared}
abbrev xC(X:Cx)(p:Addr)(k:List (List Int))(b:List Addr):HO:=.i (M.St.v9 (M.St.tupS X.f X.w) (!M.St.xH X.w) k b p)
def Vm(e:H p=some (.i φ))(h:SqT X.K H b xs):SqT X.K (upd H p (.i ψ)) b xs:=by
 rcases h with h|h
 . refine .inl ?_
   have n:∀c u,H c=some u->(∀φ,u≠.i φ)->upd H p (.i ψ) c=some u:=λc u z a=>by rw[zM (λq=>by rw[q,e]at z;cases z;exact a _ rfl)];exact z
   rcases h with h|⟨o,h⟩
   . exact .inl (n _ _ h λ_ z=>nomatch z)
   . exact .inr ⟨o,n _ _ h λ_ z=>nomatch z⟩
 . exact .inr h
def bg(k:List Int)(b a:List (List Int)):Prop:=(k∈b->a=b)/\(k ∉ b->a.Perm (k::b))
def Each(G:List Int->Addr->Prop)(a:List (List Int))(c:List Addr):Prop:=∀(i:Nat) (k:List Int) (b:Addr),a[i]?=some k->c[i]?=some b->G k b
def bx G(I:Inv X pins σ H s)(B:A.units<cLine)(m:SqS X H p ks bs)(T:Each G ks bs)(C:SqT X.K H b (k.map V.d))(Y:G k b)(R:ks.length+1<=306)
 (h:∀bl S F O,Inv X pins σ (upd H p (xC X p F O)) S->SqS X (upd H p (xC X p F O)) p F O->Each G F O->bg k ks F->Q bl S):wpAny (model X.f X.w) A (setAdd p (.ref b)) Q E s:=by
 have U:=m.setG (G:=λk b=>SqT X.K H b (k.map V.d)/\G k b) I λi k b g a=>⟨m.2 i k b g a,T i k b g a⟩;obtain⟨q,r,⟨o,P,v,n,Z⟩,_⟩:=I.tuple C;have D:Hh (intKind X.f X.w) s.heap k b:=⟨o,q.toArray,n,P,v,Z,pE r⟩;unfold setAdd;refine Bh (dm (wpAny_pyHash_tuple B D ?_));refine M.St.jy (κ:=(M.St.tupS X.f X.w).eV λk b=>SqT X.K H b (k.map V.d)/\G k b) (s:={s with toks:=s.toks+(k.length+1)}) U B ⟨D,C,Y⟩ R λW F N J l=>?_
 obtain⟨O,L,y⟩:=J.split;have j:M.St.v9 (M.St.tupS X.f X.w) (!M.St.xH X.w) F O p W:=L;exact h _ _ F O (I.write (x:=p) (e:=p) (t':=s.toks+(k.length+1)) (by rw[m.1];trivial) (.inl rfl) (λc u v z=>(N.2 c v).trans z) j.got (Y3 j)) ⟨zc,λi z c g a=>Vm m.1 (y i z c g a).2.1⟩ (λi z c g a=>(y i z c g a).2.2) ⟨λt=>by rw[if_pos t]at l;exact l,λt=>by rw[if_neg t]at l;exact l⟩
end
end L2
end
section
set_option maxHeartbeats 1000000
namespace L2
open PySem PySem.W PySem.Calls PyProof PyProof.Rows
def Zq(I:Inv X pins σ H s)
 (h:∀d,(∀b u,s.heap.get? b=some u->d.get? b=some u)->H s.heap.objs.size=none->d.objs.size=s.heap.objs.size+1->Inv X pins σ (upd H s.heap.objs.size (xC X s.heap.objs.size [] [])) {s with heap:=d}->SqS X (upd H s.heap.objs.size (xC X s.heap.objs.size [] [])) s.heap.objs.size [] [] ->
  Q (.ref s.heap.objs.size) {s with heap:=d}):wpAny (model X.f X.w) X.A (newSet (.type "set")) Q E s:=by
 refine M.St.Wt (κ:=M.St.tupS X.f X.w) λo c=>?_;obtain⟨l,a,_⟩:=c.split;obtain⟨_,_,_,_,_,_,_,_,g,_⟩:=id a;obtain rfl:l=[]:=Gg g;exact h _ (λb u e=>xd _ e) (I.j.fresh (Ad _)) (BL ..) (I.laid (t':=s.toks) (λb u e=>xd _ e) (Ad _) (Y3 a)) ⟨zc,λi k b e=>by simp at e⟩
end L2
end
section
set_option maxHeartbeats 1000000
namespace L2
open PySem PySem.W PySem.Calls PyProof PyProof.Rows
def ef(y:X.A.in1.units<cLine):yJ X (.builtin "set.add") (λS H Q=>∃p b M O k,∃G:List Int->Addr->Prop,S=[.c p,.c b]/\SqS X H p M O/\Each G M O/\SqT X.K H b (k.map V.d)/\G k b/\M.length+1<=306 /\
 ∀e w,SqS X (upd H p (xC X p e w)) p e w->Each G e w->bg k M e->Q .f (upd H p (xC X p e w))):=by
 intro i s L H S m Q I r h;obtain⟨p,b,M,O,k,G,rfl,j,l,B,E,z,q⟩:=h;obtain⟨u,v,rfl,o,n⟩:∃u v,m=[u,v]/\RelV (.c p) u/\RelV (.c b) v:=by
  cases r with
  |cons x r=>
   cases r with
   |cons t r=>
    cases r;exact⟨_,_,rfl,x,t⟩
 cases o;cases n;have C:s.TypeIs (.ref p) "set":=(j.setG (G:=G) I l).typeIs;refine BC F.slot_set_add C F.entry_set_add ?_ (F.args_set_add_2 _ _);unfold Builtin.«set.add» Builtin.Frozenset.oneOther;simp only[Hw,Iq];unfold Hx;refine dm (Ab ?_)
 try dsimp only
 refine dm (Ab ?_)
 try dsimp only
 refine dm (bx G I y j l B E z λP N e w J a g D=>?_);show wpAny _ _ (ret Af) _ _ _;exact Ab ⟨_,rfl,V.f,_,J,rfl,q e w a g D⟩
end L2
end
section
set_option maxHeartbeats 1000000
namespace L2
open PySem PySem.Spec PySem.W PyProof PyProof.Rows
def qf{X:Cx}{F:Expr}{l:List DC}{M:Scope}{y:Pos}{d:Nat}{tg:Expr}{p:Pos}{ifs:List Expr}{B:Sem PUnit}{S:Value}{it:Addr}{U:List Addr}{tn:Nat->Heap->Prop}{J:It}{g:TG}{ts:List TT}{tb:TB}{D:Ends}
 {j:List (Addr × Obj)} {σ:St} {H:Hp} {s:Shared} {R:Result->Shared->Prop}
 (heq:CD (.SetComp F l M y) d (.ref it) S X.a=(do
  standAt p
  match <-pyNext (.ref it) with
  |none=>pure (.done .next)
  |some v=>
   Bl tg (.ref it) v
   assign tg X.a v
   let mut ok:=true
   for c in ifs do
    if ok then ok <-isTrue c X.a (eval c X.a)
   if ok then B
   again (.compLoop (.SetComp F l M y) d (.ref it) S X.a)))
 (hx:X.h=λ_ _=>False) (hc:X.g=true) (T:Turn X.f X.w X.K tg J U it tn) (hg:PG X tg g) (ht:PTs X ifs ts) (V:PB X B tb)
 (I:Inv X j σ H s) (st:tn 0 s.heap) (f:∀b∈U,wI X j H b) (h:sX J g (tTB ts tb) D σ H)
 (hR:∀k E s',Inv X j k E s'->D.a k E->(∀b∈U,E b=none)->R (.ok .next) s') :
 codeAny (model X.f X.w) X.A (.compLoop (.SetComp F l M y) d (.ref it) S X.a) R s:=by
 obtain⟨W,⟨m0,w0⟩,turn⟩:=h;have P:∀{E:Hp},(∀b∈U,E b=none)->∀b∈U,wI X j E b:=λhn b V=>⟨hn b V,(f b V).2⟩;have no:∀{α:Type} {t:Sem α} {Q:α->Shared->Prop} {E':Value->Shared->Prop} {s:Shared},wpAny (model X.f X.w) X.A t Q X.h s->wpAny (model X.f X.w) X.A t Q E' s:=λh=>B0 h (λ_ _ q=>q) λ_ _ z=>by rw[hx]at z;exact z.elim
 refine codeAny_loop rfl (λn s'=>∃i k E,Inv X j k E s'/\tn i s'.heap/\(∀b∈U,E b=none)/\W i n k E) (λn s3 hI=>?_) m0 ⟨0,σ,H,I,st,λb V=>(f b V).1,w0⟩;obtain⟨i,L,H3,I3,st3,fr3,w3⟩:=hI;show wpAny _ _ ((CD (.SetComp F l M y) d (.ref it) S X.a).onRaise (λx=>do HP x X.a;theTreesLotGoes x)) _ _ s3
 refine wpAny_noted ?_;rw[heq];refine dm (BY (dm ?_));rcases turn i n L H3 w3 with⟨stop,qn⟩|⟨go,N,hN,step⟩
 . refine no (thn (T.e X rfl rfl rfl hc i j s3 L H3 X.h I3 (P fr3) st3 stop) λr s4 Z=>?_)
   obtain⟨hr,I4⟩:=Z;subst hr;exact Ab (hR L H3 s4 I4 qn fr3)
 . refine no (thn (T.f X rfl rfl rfl hc i j s3 L H3 X.h I3 (P fr3) st3 go) λr s4 Z=>?_)
   obtain⟨u,hr,h4⟩:=Z;subst hr;refine dm (no (thn h4 λ_ s5 Z=>?_));obtain⟨x,H5,I5,r5,y5,Y,fr5⟩:=Z;have I5':=I5.pinned (P fr5) (T.c _ _ Y);refine dm (no (thn (hg _ s5 L H5 x u _ I5' r5 (step x H5 y5)) λ_ s6 Z=>?_));obtain⟨σ6,H6,I6,q6⟩:=Z;refine dm (no (thn (ht.run I6 q6) λok s7 Z=>?_));obtain⟨H7,I7,q7⟩:=Z;have C:∀{G:St} {H7:Hp} {s7:Shared},Inv X (j++rO U s5.heap) G H7 s7->N G H7->∃m,m<n/\∃i k E,Inv X j k E s7/\tn i s7.heap/\(∀b∈U,E b=none)/\W i m k E:=λ{G H7 s7} I7 n7=>by obtain⟨m',hm,w7⟩:=hN G H7 n7;refine⟨m',hm,i+1,G,H7,I7.uY,T.a _ _ _ Y λb V o e=>(I7.O (b,o) (AY _ (AY _ (xM V e)))).1,λb V=>?_,w7⟩;obtain⟨o,e,d⟩:=T.c _ _ Y b V;exact(I7.O (b,o) (AY _ (AY _ (xM V e)))).2.1
   cases ok with
   |false=>exact Ab ⟨rfl,C I7 q7⟩
   |true=>exact dm (no (thn (V _ s7 σ6 H7 N I7 q7) λ_ s8 ⟨σ8,H8,I8,n8⟩=>Ab ⟨rfl,C I8 n8⟩))
def Qc(X:Cx)(a:Addr)(N:St->Hp->Prop)(j:St)(y:V)(H:Hp):Prop:=∃b h i k,∃G:List Int->Addr->Prop,y=.c b/\SqS X H a h i/\Each G h i/\SqT X.K H b (k.map V.d)/\G k b/\h.length+1<=306 /\
 ∀f g,SqS X (upd H a (xC X a f g)) a f g->Each G f g->bg k h f->N j (upd H a (xC X a f g))
def lL(X:Cx)(a:Addr)(t:TE):TB:=λN b H=>t b H (Qc X a N b)
def ky(l:X.A.in1.units<cLine)(x:PE X elt te):PB X (do let v <-eval elt X.a;standAt elt.pos;let _ <-call (.builtin "set.add") [.ref acc,v]) (lL X acc te):=by intro p s f H N I h;refine dm (thn (x p s f H _ I h) λu g z=>?_);obtain⟨y,E,C,r,b,j,w,k,G,e,m,t,o,d,n,q⟩:=z;subst e;refine dm (BY (dm (thn (ef l p g f E [.c acc,.c b] [.ref acc,u] (λ_ J=>N f J) C (.cons rfl (.cons r .nil)) ⟨acc,b,j,w,k,G,rfl,m,t,o,d,n,q⟩) λ_ K z=>?_)));obtain⟨_,D,B,_,i⟩:=z;exact Ab ⟨f,D,B,i⟩
end L2
end
section
set_option maxHeartbeats 1000000
namespace L2
open PySem PySem.Spec PySem.W PyProof.Rows
def vq
 (b:codeAny (model prog w) A (.compLoop (.SetComp elt (⟨target,iter,ifs,0⟩::rest) scope pos) 0 it acc env) R s)
 (h:wpAny (model prog w) A (pyIter it) (λd e=>codeAny (model prog w) A (.compLoop (.SetComp elt (⟨target,iter,ifs,0⟩::rest) scope pos) 0 d acc env) R e)
  (notedBy (model prog w) A env λx e=>R (.error x) e) s) :
 codeAny (model prog w) A (.compStart (.SetComp elt (⟨target,iter,ifs,0⟩::rest) scope pos) 0 it acc env) R s:=by
 refine HQ ?_;show wpAny _ _ ((GG (.SetComp elt (⟨target,iter,ifs,0⟩::rest) scope pos) 0 it acc env).onRaise (λx=>do HP x env;standAt HS)) _ _ s
 refine ID ?_;unfold GG;show wpAny _ _ (ask >>= _) _ _ s;refine dm (Cw (wpAny_ite ?_));split
 . first
    |exact dm (Ab (Ab (Ai rfl b)))
    |exact Ab (Ai rfl b)
 . first
    |exact dm (B8 (dm (BY (dm (B0 h (λd e a=>Ab (Ai rfl a)) λ_ _ x=>x)))))
    |(refine dm (B8 ?_);show wpAny _ _ (standAt iter.pos >>= _) _ _ s;exact dm (BY (dm (B0 h (λd e a=>Ab (Ai rfl a)) λ_ _ x=>x))))
def rP(X:Cx)(h:List (Option Nat))(w:TI)(g:TG)(t:List TT)(f:Addr->TB)(b:St)(H:Hp)(Q:VK):Prop:=
 w b H λJ A=>∀a,A a=none->SqS X (upd A a (xC X a [] [])) a [] []->sX J g (tTB t (f a)) ⟨λ_ B=>Q (.c a) B,λ_ _=>False,λ_ _=>False,λ_ _=>False⟩ (zL h b) (upd A a (xC X a [] []))
section
variable {X:Cx}{pins:List (Addr × Obj)}{σ:St}{H:Hp}{s:Shared}{N:List Str}{csc:Scope}{fr:List (Option Nat)}{elt tg iter:Expr}{ifs:List Expr}{rest:List DC}{cpos:Pos}{wi:TI}{g:TG}{ts:List TT}{tb:Addr->TB}
def iC{use:Option (Value->Sem Unit)}{QQ:Value->Shared->Prop}{Qv:VK}{B:Value->Env->Sem PUnit}{E:Value->Shared->Prop}(hE:E=X.h)(hc:X.g=true)(S:zd X N csc fr)(hi:PI X tg iter wi)
 (U:∀(it:Addr) (acc:Value) (u:Env),CD (.SetComp elt (⟨tg,iter,ifs,0⟩::rest) csc cpos) 0 (.ref it) acc u=(do
  standAt iter.pos
  match <-pyNext (.ref it) with
  |none=>pure (.done .next)
  |some v=>
   Bl tg (.ref it) v
   assign tg u v
   let mut ok:=true
   for c in ifs do
    if ok then ok <-isTrue c u (eval c u)
   if ok then B acc u
   again (.compLoop (.SetComp elt (⟨tg,iter,ifs,0⟩::rest) csc cpos) 0 (.ref it) acc u)))
 (hg:∀C Z V Y,PG (X.comp N csc C Z V Y) tg g) (ht:∀C Z V Y,PTs (X.comp N csc C Z V Y) ifs ts)
 (k:∀C Z V Y acc,(∃n,Inv X n σ V Z/\∀b∈Y,wI X n V b)->PB (X.comp N csc C Z V Y) (B (.ref acc) (X.comp N csc C Z V Y).a) (tb acc))
 (I:Inv X pins σ H s) (h:rP X fr wi g ts tb σ H Qv)
 (hfin:∀acc C D t,Inv X pins σ D t->Qv (.c acc) D->(∃m,t.heap.Ns C m)->D C=none->C≠X.a.locals->X.l.heap.objs.size<=C->(∀x c,X.a.cells.lookup x=some c->c≠C)->(∀p∈X.q++pins,p.1≠C) ->
  FK (model X.f X.w) X.A X.h use QQ (.ref acc) C (.ok .next) t) :
 wpAny (model X.f X.w) X.A (eval iter X.a) (λx s₁=>wpAny (model X.f X.w) X.A (pyIter x) (λit s₂=>wpAny (model X.f X.w) X.A (newSet (.type "set")) (λacc s₃=>
  wpAny (model X.f X.w) X.A (Gp csc X.a.globals (vp X.a.cells csc.names []) [] X.a.qual none .none (some X.a)) (λP s₄=>
   codeAny (model X.f X.w) X.A (.compStart (.SetComp elt (⟨tg,iter,ifs,0⟩::rest) csc cpos) 0 it acc {P with scope:=relabel csc X.a}) (FK (model X.f X.w) X.A E use QQ acc P.locals) s₄) E s₃) E s₂) E s₁) E s:=by
 subst hE;refine thn (hi pins s σ H _ I h) λv s1 h1=>thn h1 λitv i h2=>?_;obtain⟨it,L,tn,J,H2,e,I2,T,st2,f2,q2⟩:=h2;subst e;refine Zq I2 λh3 k23 hfr hsz Q hq3=>?_;have q3:=q2 i.heap.objs.size hfr hq3;generalize hs3:({i with heap:=h3}:Shared)=s3 at Q
 have hh3:s3.heap=h3:=by rw[<-hs3]
 rw[<-hh3]at k23 hsz;have lt2:∀b∈L,b<i.heap.objs.size:=λb k=>by obtain⟨o,e,_⟩:=T.c _ _ st2 b k;exact Am e
 have f3:∀b∈L,wI X pins (upd H2 i.heap.objs.size (xC X i.heap.objs.size [] [])) b:=λb k=>⟨by rw[zM (Ay (lt2 b k))];exact(f2 b k).1,(f2 b k).2⟩
 have lt3:∀b∈L,b<s3.heap.objs.size:=λb k=>by rw[hsz];exact BD (lt2 b k)
 refine oD λh4 W k34 own4=>?_;have I4:=qh (tk:=s3.toks) Q S f3 lt3 W k34 own4;have st4:tn 0 h4:=T.a _ _ _ st2 λb k o e=>k34 b o (k23 b o e);have f4:∀b∈L,wI (X.comp N csc s3.heap.objs.size s3 (upd H2 i.heap.objs.size (xC X i.heap.objs.size [] [])) L) [] (upd H2 i.heap.objs.size (xC X i.heap.objs.size [] [])) b:=λb k=>by have ok:=I4.y;obtain⟨g1,g2⟩:=ok.H b k;exact⟨(f3 b k).1,g1,ok.r b k,.inl k,g2,λp hp=>by simp at hp⟩
 have fin:∀σ' D t,Inv (X.comp N csc s3.heap.objs.size s3 (upd H2 i.heap.objs.size (xC X i.heap.objs.size [] [])) L) [] σ' D t->Qv (.c i.heap.objs.size) D->(∀b∈L,D b=none) ->
  FK (model X.f X.w) X.A X.h use QQ (.ref i.heap.objs.size) s3.heap.objs.size (.ok .next) t:=λσ' D t I' q' _=>by
  have IX:Inv X pins σ D t:=Q.UB I'.R I'.B I'.j I'.C λb k=>by obtain⟨g0,g1,g2,g3,g4,g5⟩:=f3 b k;exact⟨g3,g1,g4,g5⟩
  obtain⟨m,hn,_⟩:=I'.M;refine hfin _ _ D t IX q' ⟨m,hn⟩ I'.G (E6 Q.lt) Q.sz (λx c e=>?_) λp hp=>?_
  . obtain⟨w',z⟩:=Q.F x c e
    exact Ay z.lt
  . exact Ay (Am (Q.O p hp).1)
 have K:codeAny (model X.f X.w) X.A (.compLoop (.SetComp elt (⟨tg,iter,ifs,0⟩::rest) csc cpos) 0 (.ref it) (.ref i.heap.objs.size) (compEnvC csc (wJ csc s3.heap.objs.size++vp X.a.cells csc.names []) s3.heap.objs.size X.a))
  (FK (model X.f X.w) X.A X.h use QQ (.ref i.heap.objs.size) s3.heap.objs.size) {s3 with heap:=h4}:=
  qf (X:=X.comp N csc s3.heap.objs.size s3 (upd H2 i.heap.objs.size (xC X i.heap.objs.size [] [])) L) (U it _ _) rfl hc T (hg _ _ _ _) (ht _ _ _ _) (k _ _ _ _ _ ⟨pins,Q,f3⟩) I4 st4 f4 q3 fin
 exact vq K (T.d X.A 0 _ _ _ st4 K)
end
end L2
end
section
set_option maxHeartbeats 1000000
namespace L2
open PySem PySem.Spec PySem.W PyProof.Rows
section
variable {X:Cx}{pins:List (Addr × Obj)}{σ:St}{H:Hp}{s:Shared}{N:List Str}{csc:Scope}{fr:List (Option Nat)}{elt tg iter:Expr}{ifs:List Expr}{rest:List DC}{cpos:Pos}{wi:TI}{g:TG}{ts:List TT}{tb:Addr->TB}
def nQ{B:Value->Env->Sem PUnit}(E:X.g=true)(S:zd X N csc fr)(w:PI X tg iter wi)
 (j:∀(it:Addr) (acc:Value) (d:Env),CD (.SetComp elt (⟨tg,iter,ifs,0⟩::rest) csc cpos) 0 (.ref it) acc d=(do
  standAt iter.pos
  match <-pyNext (.ref it) with
  |none=>pure (.done .next)
  |some v=>
   Bl tg (.ref it) v
   assign tg d v
   let mut ok:=true
   for c in ifs do
    if ok then ok <-isTrue c d (eval c d)
   if ok then B acc d
   again (.compLoop (.SetComp elt (⟨tg,iter,ifs,0⟩::rest) csc cpos) 0 (.ref it) acc d)))
 (D:∀C f A i,PG (X.comp N csc C f A i) tg g) (z:∀C f A i,PTs (X.comp N csc C f A i) ifs ts)
 (p:∀C f A i acc,PB (X.comp N csc C f A i) (B (.ref acc) (X.comp N csc C f A i).a) (tb acc))
 (u:∀x,AM iter X.a x=pure x:=by intro _;rfl) :
 PE X (.SetComp elt (⟨tg,iter,ifs,0⟩::rest) csc cpos) (rP X fr wi g ts tb):=by
 intro pins s σ H Q I h;rw[arm_eval_SetComp];dsimp only;refine E9 (use:=none) rfl u (we (S.cells I.y)) S.b S.a ?_;refine iC (use:=none) rfl E S w j D z (λC f A i acc _=>p C f A i acc) I h λacc C P r L t l J G K n k=>?_;obtain⟨m,l⟩:=l;refine⟨m,l,λR q=>⟨.c acc,P,?_,rfl,t⟩⟩;exact L.turned (t':=r.toks) (λb o p e=>(q.2 b p).trans e) J (Co (Co G)) (.inr K) n k
def Rr(elt tg iter:Expr)(ifs:List Expr)(csc:Scope)(cpos:Pos)(i:Addr)(a:Value)(e:Env) :
 CD (.SetComp elt [⟨tg,iter,ifs,0⟩] csc cpos) 0 (.ref i) a e=(do
  standAt iter.pos
  match <-pyNext (.ref i) with
  |none=>pure (.done .next)
  |some v=>
   Bl tg (.ref i) v
   assign tg e v
   let mut ok:=true
   for c in ifs do
    if ok then ok <-isTrue c e (eval c e)
   if ok then (do let v <-eval elt e;standAt elt.pos;let _ <-call (.builtin "set.add") [a,v])
   again (.compLoop (.SetComp elt [⟨tg,iter,ifs,0⟩] csc cpos) 0 (.ref i) a e)):=by rfl
def cb(h:X.A.in1.units<cLine)(o:∀C d F e,(X.comp N csc C d F e).A=X.A)(n:X.g=true)(S:zd X N csc fr)(k:PI X tg iter wi)(l:∀C d F e,PG (X.comp N csc C d F e) tg g)(f:∀C d F e,PTs (X.comp N csc C d F e) ifs ts)
 (m:∀C d F e,PE (X.comp N csc C d F e) elt te) (j:∀x,AM iter X.a x=pure x:=by intro _;rfl) :
 PE X (.SetComp elt [⟨tg,iter,ifs,0⟩] csc cpos) (rP X fr wi g ts λb=>lL X b te):=
 nQ (B:=λb c=>do let v <-eval elt c;standAt elt.pos;let _ <-call (.builtin "set.add") [b,v]) n S k (λi b c=>Rr elt tg iter ifs csc cpos i b c) l f
  (λC d F e b=>ky (X:=X.comp N csc C d F e) (by rw[o];exact h) (m C d F e)) j
end
end L2
end
section
namespace L2
open PySem PySem.Spec PySem.W PySem.Calls PyProof PyProof.Rows
def lu
 (b:codeAny (model prog w) A (.compLoop (.SetComp elt [⟨tg,iter,ifs,0⟩,⟨tg2,iter2,ifs2,0⟩] csc cpos) 1 it acc env) R s)
 (h:wpAny (model prog w) A (pyIter it) (λd e=>codeAny (model prog w) A (.compLoop (.SetComp elt [⟨tg,iter,ifs,0⟩,⟨tg2,iter2,ifs2,0⟩] csc cpos) 1 d acc env) R e)
  (notedBy (model prog w) A env λx e=>R (.error x) e) s) :
 codeAny (model prog w) A (.compStart (.SetComp elt [⟨tg,iter,ifs,0⟩,⟨tg2,iter2,ifs2,0⟩] csc cpos) 1 it acc env) R s:=by
 refine HQ ?_;show wpAny _ _ ((GG (.SetComp elt [⟨tg,iter,ifs,0⟩,⟨tg2,iter2,ifs2,0⟩] csc cpos) 1 it acc env).onRaise (λx=>do HP x env;standAt HS)) _ _ s
 refine ID ?_;unfold GG;show wpAny _ _ (ask >>= _) _ _ s;refine dm (Cw (wpAny_ite ?_));split
 . first
    |exact dm (Ab (Ab (Ai rfl b)))
    |exact Ab (Ai rfl b)
 . first
    |exact dm (B8 (dm (BY (dm (B0 h (λd e a=>Ab (Ai rfl a)) λ_ _ x=>x)))))
    |(refine dm (B8 ?_);show wpAny _ _ (standAt iter2.pos >>= _) _ _ s;exact dm (BY (dm (B0 h (λd e a=>Ab (Ai rfl a)) λ_ _ x=>x))))
def Ru(j m b:Expr)(h:List Expr)(t i:Expr)(f:List Expr)(k:Scope)(g:Pos)(n:Addr)(l:Value)(a:Env) :
 CD (.SetComp j [⟨m,b,h,0⟩,⟨t,i,f,0⟩] k g) 0 (.ref n) l a=(do
  standAt b.pos
  match <-pyNext (.ref n) with
  |none=>pure (.done .next)
  |some v=>
   Bl m (.ref n) v
   assign m a v
   let mut ok:=true
   for c in h do
    if ok then ok <-isTrue c a (eval c a)
   if ok then (do
    let x <-eval i a
    standAt i.pos
    let x <-AM i a x;let _ <-runOwn (.compStart (.SetComp j [⟨m,b,h,0⟩,⟨t,i,f,0⟩] k g) 1 (<-holding [x] (pyIter x)) l a) a)
   again (.compLoop (.SetComp j [⟨m,b,h,0⟩,⟨t,i,f,0⟩] k g) 0 (.ref n) l a)):=by
 have e:CD (.SetComp j [⟨m,b,h,0⟩,⟨t,i,f,0⟩] k g) 0 (.ref n) l a=(do
  standAt b.pos
  match <-pyNext (.ref n) with
  |none=>pure (.done .next)
  |some v=>
   Bl m (.ref n) v
   assign m a v
   let mut ok:=true
   for c in h do
    if ok then ok <-isTrue c a (eval c a)
   if ok then
    let x <-eval i a
    standAt i.pos
    let x <-AM i a x;let _ <-runOwn (.compStart (.SetComp j [⟨m,b,h,0⟩,⟨t,i,f,0⟩] k g) 1 (<-holding [x] (pyIter x)) l a) a
   again (.compLoop (.SetComp j [⟨m,b,h,0⟩,⟨t,i,f,0⟩] k g) 0 (.ref n) l a)):=by rfl
 rw[e];simp only[Iq,FV]
def Vw(b m f:Expr)(j:List Expr)(t i:Expr)(a:List Expr)(k:Scope)(g:Pos)(l:Addr)(h:Value)(e:Env) :
 CD (.SetComp b [⟨m,f,j,0⟩,⟨t,i,a,0⟩] k g) 1 (.ref l) h e=(do
  standAt i.pos
  match <-pyNext (.ref l) with
  |none=>pure (.done .next)
  |some v=>
   Bl t (.ref l) v
   assign t e v
   let mut ok:=true
   for c in a do
    if ok then ok <-isTrue c e (eval c e)
   if ok then (do let v <-eval b e;standAt b.pos;let _ <-call (.builtin "set.add") [h,v])
   again (.compLoop (.SetComp b [⟨m,f,j,0⟩,⟨t,i,a,0⟩] k g) 1 (.ref l) h e)):=by rfl
def cY
 (t:X.h=λ_ _=>False) (D:X.g=true) (u:PI X tg2 iter2 wi) (C:PG X tg2 g) (y:PTs X ifs2 ts) (E:PB X (do let v <-eval elt X.a;standAt elt.pos;let _ <-call (.builtin "set.add") [.ref acc,v]) tb)
 (z:∀x,AM iter2 X.a x=pure x:=by intro _;rfl) :
 PB X (do
       let x <-eval iter2 X.a
       standAt iter2.pos
       let x <-AM iter2 X.a x;let _ <-runOwn (.compStart (.SetComp elt [⟨tg,iter,ifs,0⟩,⟨tg2,iter2,ifs2,0⟩] csc cpos) 1 (<-holding [x] (pyIter x)) (.ref acc) X.a) X.a) (tm wi g ts tb):=by
 intro p s j H N I h;refine dm (thn (u p s j H _ I h) λv V K=>dm (BY (dm (Ee (z v) (dm (Bh (thn K λm k G=>?_)))))));obtain⟨o,Z,R,J,F,e,P,T,c,L,q⟩:=G;subst e;refine dm (wpAny_runOwn ?_);have l:codeAny (model X.f X.w) X.A (.compLoop (.SetComp elt [⟨tg,iter,ifs,0⟩,⟨tg2,iter2,ifs2,0⟩] csc cpos) 1 (.ref o) (.ref acc) X.a)
  (λr i=>match r with|.ok f=>wpAny (model X.f X.w) X.A (pure PUnit.unit:Sem PUnit) (λ_ i=>∃b B,Inv X p b B i/\N b B) X.h i|.error e=>cameBackBy (model X.f X.w) X.A X.a X.h e i) k:=
  qf (Vw ..) t D T C y E P c L q λb B i Q n _=>Ab ⟨b,B,Q,n⟩
 exact lu l (T.d X.A 0 _ _ _ c l)
def cg(l:X.A.in1.units<cLine)(k:X.g=true)(S:zd X N csc fr)(o:PI X tg iter wi)(p:∀C d F e,PG (X.comp N csc C d F e) tg g)(m:∀C d F e,PTs (X.comp N csc C d F e) ifs ts)
 (i:∀C d F e,PI (X.comp N csc C d F e) tg2 iter2 wi2) (j:∀C d F e,PG (X.comp N csc C d F e) tg2 g2) (h:∀C d F e,PTs (X.comp N csc C d F e) ifs2 ts2)
 (q:∀C d F e,PE (X.comp N csc C d F e) elt te) (n:∀x,AM iter X.a x=pure x:=by intro _;rfl)
 (f:∀b x,AM iter2 b x=pure x:=by intro _ _;rfl) :
 PE X (.SetComp elt [⟨tg,iter,ifs,0⟩,⟨tg2,iter2,ifs2,0⟩] csc cpos) (rP X fr wi g ts λc=>tm wi2 g2 ts2 (lL X c te)):=
 nQ k S o (B:=λc b=>(do
        let x <-eval iter2 b
        standAt iter2.pos
        let x <-AM iter2 b x;let _ <-runOwn (.compStart (.SetComp elt [⟨tg,iter,ifs,0⟩,⟨tg2,iter2,ifs2,0⟩] csc cpos) 1 (<-holding [x] (pyIter x)) c b) b)) (Ru elt tg iter ifs tg2 iter2 ifs2 csc cpos) p m
  (λC d F e c=>cY rfl k (i C d F e) (j C d F e) (h C d F e) (ky (X:=X.comp N csc C d F e) l (q C d F e)) (f _)) n
end L2
end
section
namespace HT
open PySem PyProof.Rows
def YZ A s a t c u prog w E Q(h:Q (.bool (decide (c<a))) s) :
 wpAny (model prog w) A (richCompare .Gt (.int a t) (.int c u)) Q E s:=
 (PyProof.Rows.gt_int h:wpAny (model prog w) A (Bc .Gt (.int a t) (.int c u)) Q E s)
section
open PySem.SeqAt
open PySem.AutoSeq1 (wpAny_loadPart')
open PySem.MeetsSeq PySem.MeetsSeq2 PySem.MeetsSeq3
def oY l b items items2 n n2 dd dd2 sl sl2 ns ms(N:IntsAre items.toList ns)(L:IntsAre items2.toList ms) :
 Meets (Builtin.«tuple.__gt__» ⟨[.ref l,.ref b],[]⟩)
  (λ_ R s=>s.heap.get? l=some {cls:=.type "tuple",dict:=dd,data:=.seq items n,slots:=sl}/\s.heap.get? b=some {cls:=.type "tuple",dict:=dd2,data:=.seq items2 n2,slots:=sl2} /\
   R (.ok (.ret (.bool (lexLt ms ns)))) s):=
 .of_wp λp w A R s h=>by
  obtain⟨H,g,d,E,G⟩:=s;obtain⟨P,T,h⟩:=h;have Z:=AutoSeq1.sub_tuple_tuple;have X:items.size=ns.length:=by rw[<-N.length];simp
  have V:items2.size=ms.length:=by rw[<-L.length];simp
  wp_walk using BO P,BO T,FP _ (λr b I=>b.1=none/\I=⟨H,g,d,E,G⟩/\∃(vs ws:List Value) (i m:List Int),r=vs.zip ws /\
   IntsAre vs i/\IntsAre ws m/\i.length+items2.size=m.length+items.size/\R (.ok (.ret (.bool (lexLt m i)))) ⟨H,g,d,E,G⟩) _
  case turn=>
   rintro ⟨y,x⟩ r b I ⟨B,rfl,vs,ws,i,m,j,z,k,f,v⟩;cases z with
   |nil=>rw[List.zip_nil_left]at j;cases j
   |cons a t D=>
    cases k with
    |nil=>rw[List.zip_nil_right]at j;cases j
    |cons c u C=>
     rw[Fg]at j;injection j with hyx hrest
     injection hyx with hy hx
     subst hy hx;rw[pJ]at v;simp only[Ap]at f;obtain⟨e,Q,o⟩:=ag A.in1 ⟨H,g,d,E,G⟩ a t c u;refine dm (Q p w _ _ ?_);cases e with
     |true=>
      rw[if_pos (o.mp rfl).symm]at v
      wp_walk
      exact⟨rfl,rfl,_,_,_,_,hrest,D,C,⋯,v⟩
     |false=>
      rw[if_neg (λq=>absurd (o.mpr q.symm) Aj)]at v;have J:=YZ A.in1 ⟨H,g,d,E,G⟩ a t c u p w
      wp_walk using J
      exact⟨_,rfl,by simpa using v⟩
  case fin=>
   rintro ⟨M,F⟩ I ⟨B,rfl,vs,ws,i,m,j,z,k,f,v⟩;simp only at B;subst B;have K:lexLt m i=decide (items2.size<items.size):=by
    cases z with
    |nil=>
     cases k with
     |nil=>
      simp only[Cf]at f;rw[oN];exact(decide_eq_false ⋯).symm
     |cons c u hw=>
      simp only[Cf,Ap]at f;rw[pK];exact(decide_eq_false ⋯).symm
    |cons a t K=>
     cases k with
     |nil=>
      simp only[Cf,Ap]at f;rw[pL];exact(decide_eq_true ⋯).symm
     |cons c u hw=>
      rw[Fg]at j;cases j
   rw[K]at v
   wp_walk
   exact⟨_,rfl,by simpa [Builtin.Tuple.tupleCompareSizes] using v⟩
  case h=>
   exact⟨rfl,rfl,items.toList,items2.toList,ns,ms,rfl,N,L,⋯,h⟩
end
def iH(v:IsTup s.heap l items)(e:IsTup s.heap b items2)(z:IntsAre items.toList ns)(y:IntsAre items2.toList ms)
 (t:A.units<cLine) (h:Q (.bool (lexLt ms ns)) s):wpAny (model prog w) A (Bc .Gt (.ref l) (.ref b)) Q E s:=by
 obtain⟨⟨B,u,o,q⟩,j,m,n,k⟩:=id v;obtain⟨⟨p,d,i,g⟩,a,f,r,c⟩:=id e;simp only at m k f c;subst m k f c;exact richCompare_meets_room (op:=.Gt) ⟨_,j,rfl⟩ ⟨_,a,rfl⟩ PySem.F.slot_tuple_gt PySem.F.entry_tuple_gt (PySem.F.args_tuple_gt_2 _ _) (oY l b items items2 n r u d q g ns ms z y)
  ⟨j,a,show D0 (lexLt ms ns)≠Value.notImplemented/\Q (.bool (lexLt ms ns)) s from ⟨(λx=>nomatch x),h⟩⟩ t
end HT
namespace L2
open PySem PyProof.Rows
section
variable {X:Cx}
def O5(K:AH):R2:=λx y H Q=>∃a b n m,x=.c a/\y=.c b/\SqT K H a (n.map V.d)/\SqT K H b (m.map V.d)/\Q (.e (HT.lexLt m n)) H
def Sl(z:X.A.units<cLine):OpR X (Bc .Gt) (O5 X.K):=by intro p s B H x y v u Q I f r h;obtain⟨a,b,n,m,rfl,rfl,w,d,q⟩:=h;cases f;cases r;obtain⟨c,j,l,_⟩:=I.tuple w;obtain⟨i,g,k,_⟩:=I.tuple d;have t:IntsAre c.toArray.toList n:=intsAre_of j;have o:IntsAre i.toArray.toList m:=intsAre_of g;exact HT.iH l k t o z ⟨.e (HT.lexLt m n),H,I,rfl,q⟩
end
end L2
end
section
namespace M
open PySem
inductive Val where
 |h|e (b:Bool)|c (i:Int)|m (x:Str)
 |f (vs:List Val)|g (vs:List Val)|p
 |o (ns:List Int)|r (ns:List Int)
 |j (i:Nat)|u (x:Str)|t (n:String)|q (i:Nat)
 /-- the k-th lambda of a list of lambdas,at the address a -/
 |s (a k:Nat)
 deriving Inhabited
inductive Cel where
 |c (vs:List Val)
 |d (kvs:List (Str × Val))
 |e (kvs:List (List Int × Val))
 /-- the table of the codes that lie within the def x -/
 |f (x:Str)
 deriving Inhabited
abbrev Sto:=List Cel
abbrev Env:=List (Option Val)
inductive Out(α:Type) where
 |e (a:α) (s:Sto)
 |g (c:Str) (args:List Val) (s:Sto)
 |d
noncomputable def Out.bind{h b:Type}(o:Out h)(f:h->Sto->Out b):Out b:=
 match o with
 |.e a s=>f a s
 |.g c as s=>.g c as s
 |.d=>.d
@[simp] def zJ a s(f:α->Sto->Out β):(Out.e a s).bind f=f a s:=rfl
@[simp] def vf(f:α->Sto->Out β):(Out.d:Out α).bind f=.d:=rfl
@[simp] def qb c as s(f:α->Sto->Out β):(Out.g c as s:Out α).bind f=.g c as s:=rfl
mutual
noncomputable def Val.isD:Val->Bool
 |.h|.e _|.c _=>true
 |.m x=>PyData.strOk x
 |.f vs=>ux vs
 |.g vs=>ux vs
 |.p|.o _|.r _|.j _|.u _|.t _|.q _|.s _ _=>false
noncomputable def ux:List Val->Bool
 |[]=>true
 |v::vs=>v.isD&&ux vs
end
mutual
noncomputable def Val.isR:Val->Bool
 |.h|.e _|.c _|.m _|.p=>true
 |.f vs=>mW vs
 |.g vs=>mW vs
 |.o _|.r _|.j _|.u _|.t _|.q _|.s _ _=>false
noncomputable def mW:List Val->Bool
 |[]=>true
 |v::vs=>v.isR&&mW vs
end
mutual
noncomputable def Val.d:Val->PyData
 |.h=>.none
 |.e b=>.bool b
 |.c i=>.int i
 |.m x=>.str x
 |.f vs=>.tuple (ds vs)
 |.g vs=>.list (ds vs)
 |.p=>.dict []
 |.o _|.r _|.j _|.u _|.t _|.q _|.s _ _=>.none
noncomputable def ds:List Val->List PyData
 |[]=>[]
 |v::vs=>v.d::ds vs
end
mutual
noncomputable def Val.noRef:Val->Bool
 |.j _|.q _=>false
 |.f vs=>zk vs
 |.g vs=>zk vs
 |.h|.e _|.c _|.m _|.p|.o _|.r _|.u _|.t _|.s _ _=>true
noncomputable def zk:List Val->Bool
 |[]=>true
 |v::vs=>v.noRef&&zk vs
end
def Cel.noRef:Cel->Bool
 |.c vs=>zk vs
 |.d kvs=>zk (kvs.map (·.2))
 |.e kvs=>zk (kvs.map (·.2))
 |.f _=>true
mutual
noncomputable def Val.beq:Val->Val->Bool
 |.h,.h=>true
 |.e a,.e b=>a == b
 |.c a,.c b=>a == b
 |.m a,.m b=>a == b
 |.f a,.f b=>rC a b
 |.g a,.g b=>rC a b
 |.p,.p=>true
 |.o a,.o b=>a == b
 |.r a,.r b=>a == b
 |.j a,.j b=>a == b
 |.u a,.u b=>a == b
 |.t a,.t b=>a == b
 |.q a,.q b=>a == b
 |.s a k,.s b l=>a == b&&k == l
 |_,_=>false
noncomputable def rC:List Val->List Val->Bool
 |[],[]=>true
 |a::as,b::bs=>a.beq b&&rC as bs
 |_,_=>false
end
def Cel.beq:Cel->Cel->Bool
 |.c a,.c b=>rC a b
 |.d a,.d b=>decide (a.map (·.1)=b.map (·.1))&&rC (a.map (·.2)) (b.map (·.2))
 |.e a,.e b=>decide (a.map (·.1)=b.map (·.1))&&rC (a.map (·.2)) (b.map (·.2))
 |.f a,.f b=>decide (a=b)
 |_,_=>false
def x9:Sto->Sto->Bool
 |[],_=>true
 |o::r,o'::r'=>(o'.noRef||o'.beq o)&&x9 r r'
 |_::_,[]=>false
mutual
noncomputable def wO(n:Nat)(s:Sto):Nat->Val->Option Val
 |_,.q i=>if i<n then some (.q i) else pn
 |_,.j i=>if i<n then some (.j i) else match s[i]? with
  |some (.c vs)=>if zk vs then some (.g vs) else pn
  |_=>pn
 |k+1,.f vs=>(sJ n s k vs).map .f
 |_,v=>if v.noRef then some v else pn
noncomputable def sJ(n:Nat)(s:Sto):Nat->List Val->Option (List Val)
 |_,[]=>some []
 |0,_::_=>pn
 |k+1,v::vs=>match (if v.noRef then some v else wO n s k v),sJ n s k vs with
  |some v',some vs'=>some (v'::vs')
  |_,_=>pn
end
def freeze(n:Nat)(s:Sto)(v:Val):Option Val:=if v.noRef then some v else wO n s 20 v
inductive Bop|a|c|b|d|f|g|h|i|e
 deriving DecidableEq
inductive Cop|d|b|n|c|k|j|m|e|h|a|l|f|g|i
 deriving DecidableEq
inductive Bf|a|p|r|d|l|b|o|h|j|k|q|i|c|s|e|n|g|m
 deriving DecidableEq
inductive Mf|b|a|c|f|d|e
 deriving DecidableEq
inductive Tgt
 |a (i:Nat)
 |b (is:List Nat)
set_option genInjectivity false in
mutual
inductive Ex
 |h (v:Val)|e (i:Nat)|E (x:Str)|O (x:Str) (n:String)
 |l (m:Bool) (op:Bop) (a b:Ex)|C (a:Ex)|I (a:Ex)
 |k (op:Cop) (a b:Ex)|s (op op':Cop) (a b c:Ex)
 |z (a:Ex) (es:Exs)|P (a:Ex) (es:Exs)|H (c:Cn) (a b:Ex)
 |p (es:Exs)|w (m:Bool) (es:Exs)|K
 |g (f:Str) (ver:Nat) (es:Exs)|j (f:Bf) (m:Bool) (es:Exs)|L (a d:Ex)
 |J (f:Mf) (m:Bool) (o:Ex) (es:Exs)
 |u (a b:Ex)|F (m:Bool) (a:Ex) (lo hi st:OEx)
 |q (m:Bool) (N:List Str) (fr:List (Option Nat)) (elt:Ex) (t:Tgt) (it:Itb) (ifs:Cns)
 |y (m:Bool) (N:List Str) (fr:List (Option Nat)) (elt:Ex) (t:Tgt) (it:Itb) (ifs:Cns) (t2:Tgt) (it2:Itb) (ifs2:Cns)
 |r (m:Bool) (a b c:Ex)
 |G (t:Bool)|Q (a b:Ex)
 /-- a set GV: only what is walked is known of it -/
 |D (a:Ex)
 /-- sorted(set(a));sorted of a set GV -/
 |M (m:Bool) (a:Ex)
 |B (m:Bool) (N:List Str) (fr:List (Option Nat)) (elt:Ex) (t:Tgt) (it:Itb) (ifs:Cns)
 |A (m:Bool) (N:List Str) (fr:List (Option Nat)) (elt:Ex) (t:Tgt) (it:Itb) (ifs:Cns) (t2:Tgt) (it2:Itb) (ifs2:Cns)
inductive Exs
 |b|a (e:Ex) (es:Exs)
inductive OEx
 |b|a (e:Ex)
inductive Cn
 |a (e:Ex)|b (c:Cn)|d (c:Cn) (cs:Cns)|f (c:Cn) (cs:Cns)
inductive Cns
 |a|b (c:Cn) (cs:Cns)
inductive Itb
 |d (e:Ex)|f (a:Ex)|g (a b:Ex)|h (e:Ex)|j (a b:Ex)|i (a b c:Ex)
end
set_option genInjectivity false in
mutual
inductive Sm
 |g (e:Ex)|d (e:Ex)|v|f (i:Nat) (e:Ex)|q (is:List Nat) (e:Ex)|r (is:List Nat) (es:Exs)
 |w (i:Nat) (op:Bop) (e:Ex)|p (o i e:Ex)
 |j (c:Cn) (a b:Sms)|l (t:Tgt) (it:Itb) (b:Sms)|m (c:Cn) (b:Sms)
 |s|y|u|n (e:Ex)|x (o i e:Ex)
inductive Sms
 |f|e (s:Sm) (ss:Sms)
 /-- x=[lambda: ..];x.append(lambda: ..) ..;mid;then a row with [_law_said(c) for c in x];k: 0 it is returned,1 it is returned whether it is d,2 if it is not d (or o): b -/
 |g (i:Nat) (L:Exs) (mid:Sms) (k:Nat) (d:Ex) (o:Cns) (b cs:Sms)
end
structure Fn where
 N:List Str
 a:List Str
 c:Bool
 b:Sms
abbrev Calls:=Str->Nat->List Val->Sto->Out Val
noncomputable def zP:Nat:=16777216
noncomputable def newList(m:Bool)(v:List Val)(s:Sto):Out Val:=if m then .e (.j s.length) (s++[.c v]) else .e (.g v) s
noncomputable def xB(s:Sto):Val->Option (List Val)
 |.f vs=>some vs
 |.g vs=>some vs
 |.o ns=>some (ns.map .c)
 |.r ns=>some (ns.map .c)
 |.j i=>match s[i]? with
  |some (.c vs)=>some vs
  |_=>pn
 |_=>pn
noncomputable def z0(s:Sto):Val->Option (List Val)
 |.g vs=>some vs
 |.j i=>match s[i]? with
  |some (.c vs)=>some vs
  |_=>pn
 |_=>pn
def truth(s:Sto):Val->Option Bool
 |.h=>some false
 |.e b=>some b
 |.c i=>some (i != 0)
 |.m x=>if x.length<=zP then some ((x.length:Int) != 0) else pn
 |.f vs=>some !vs.isEmpty
 |.g vs=>some !vs.isEmpty
 |.p=>some false
 |.j i=>match s[i]? with
  |some (.c vs)=>some !vs.isEmpty
  |_=>pn
 |_=>pn
def Out.truth(o:Out Val):Out Bool:=o.bind λv s=>match M.truth s v with
 |some b=>.e b s
 |pn=>.d
noncomputable def yh(s:Sto):Val->Val
 |.j i=>match s[i]? with
  |some (.c vs)=>.g vs
  |_=>.j i
 |v=>v
def zy(s:Sto):Val->Val
 |.f vs=>.f (vs.map (yh s))
 |v=>yh s v
def Sg(d:PyData):Bool:=d.showable&&d.leavesShort 40&&decide (d.depth<=50)&&decide (d.weight<=300000)&&(!d.hasDict||!L2.xk d)
noncomputable def flat:Val->Bool
 |.h|.e _|.c _|.m _=>true
 |_=>false
noncomputable def eqF:Val->Val->Bool
 |.h,.h=>true
 |.e a,.e b=>a == b
 |.e a,.c b=>(if a then 1 else 0) == b
 |.c a,.e b=>a == (if b then 1 else 0)
 |.c a,.c b=>a == b
 |.m a,.m b=>a == b
 |_,_=>false
def qm(a b:Val):Option Bool:=if a.isD&&b.isD&&decide (b.d.depth<=60) then some (Cb a.d b.d) else pn
noncomputable def intsOf:List Val->Option (List Int)
 |[]=>some []
 |.c i::vs=>(intsOf vs).map (i::·)
 |_=>pn
noncomputable def Val.isN:Val->Bool
 |.h=>true
 |_=>false
def inD(x:Val)(v:List Val):Bool:=x.isD&&ux v&&decide (x.d.depth<=60)
noncomputable def Xv{a:Type} [DecidableEq a]:List (a × Val)->a->Option Val
 |[],_=>pn
 |p::r,k=>if p.1=k then some p.2 else Xv r k
def QH{b:Type} [DecidableEq b] (a:List (b × Val))(k:b)(v:Val):List (b × Val):=
 if (Xv a k).isSome then a.map (λp=>if p.1=k then (p.1,v) else p) else a++[(k,v)]
noncomputable def UC(s:Sto):Val->Option (Nat × Cel)
 |.q i=>(s[i]?).map λc=>(i,c)
 |_=>pn
def Uz:Cel->Val->Option (Option Val)
 |.d kvs,.m k=>some (Xv kvs k)
 |.e kvs,.f vs=>(intsOf vs).map λk=>Xv kvs k
 |_,_=>pn
def U0:Cel->Val->Val->Option Cel
 |.d kvs,.m k,v=>if kvs.length<zP then some (.d (QH kvs k v)) else pn
 |.e kvs,.f vs,v=>(intsOf vs).bind λk=>if kvs.length<zP then some (.e (QH kvs k v)) else pn
 |_,_,_=>pn
def getD(d y:Val)(s:Sto):Option (Option Val):=(UC s d).bind λc=>Uz c.2 y
def ixD(d y:Val)(s:Sto):Out Val:=match getD d y s with
 |some (some v)=>.e v s
 |_=>.d
def putD(d y v:Val)(s:Sto):Option Sto:=(UC s d).bind λc=>(U0 c.2 y v).map λa=>s.set c.1 a
noncomputable def strsOf:List Val->Option (List Str)
 |[]=>some []
 |.m x::vs=>(strsOf vs).map (x::·)
 |_=>pn
def zO(q:Cop)(x y:Val)(s:Sto):Out Val:=
 match q with
 |.d=>match x,y with
  |.m a,.m b=>.e (.e (decide (a=b))) s
  |.f a,.o ns=>match qm (zy s (.f a)) (.f (ns.map .c)) with|some b=>.e (.e b) s|pn=>.d
  |_,_=>match qm (zy s x) (zy s y) with|some b=>.e (.e b) s|pn=>.d
 |.b=>match x,y with
  |.m a,.m b=>.e (.e !(decide (a=b))) s
  |_,_=>match qm (zy s x) (zy s y) with|some b=>.e (.e !b) s|pn=>.d
 |.m=>match y with|.h=>.e (.e x.isN) s|.e b=>(match x with|.e a=>.e (.e (decide (a=b))) s|_=>.d)|_=>.d
 |.e=>match y with|.h=>.e (.e !x.isN) s|.e b=>(match x with|.e a=>.e (.e !(decide (a=b))) s|_=>.d)|_=>.d
 |.h=>match xB s y with
  |some vs=>if flat x&&vs.all flat then .e (.e (vs.any λz=>eqF z x)) s else if inD x vs then .e (.e (vs.any λz=>Cb z.d x.d)) s else .d
  |pn=>.d
 |.a=>match xB s y with
  |some vs=>if flat x&&vs.all flat then .e (.e !(vs.any λz=>eqF z x)) s else if inD x vs then .e (.e !(vs.any λz=>Cb z.d x.d)) s else .d
  |pn=>.d
 |.l=>match getD y x s with|some o=>.e (.e o.isSome) s|pn=>.d
 |.f=>match getD y x s with|some o=>.e (.e !o.isSome) s|pn=>.d
 |.g=>match x with
  |.p=>(match xB s y with
   |some vs=>(match M.intsOf vs with|some _=>.e (.e true) s|pn=>.d)
   |pn=>.d)
  |_=>(match xB s y with
   |some vs=>if flat x&&vs.all flat then .e (.e !(vs.any λz=>eqF z x)) s else if inD x vs then .e (.e !(vs.any λz=>Cb z.d x.d)) s else .d
   |pn=>.d)
 |.i=>match x,y with
  |.f a,.f b=>(match M.intsOf a,M.intsOf b with|some u,some v=>.e (.e (HT.lexLt v u)) s|_,_=>.d)
  |_,_=>.d
 |.n=>match x,y with|.c i,.c j=>.e (.e (decide (i<j))) s|_,_=>.d
 |.c=>match x,y with|.c i,.c j=>.e (.e (decide (i<=j))) s|_,_=>.d
 |.k=>match x,y with|.c i,.c j=>.e (.e (decide (j<i))) s|_,_=>.d
 |.j=>match x,y with|.c i,.c j=>.e (.e (decide (j<=i))) s|_,_=>.d
def binOp(m:Bool)(o:Bop)(x y:Val)(s:Sto):Out Val:=
 match o with
 |.a=>match x,y with
  |.c i,.c j=>.e (.c (i+j)) s
  |.m a,.m b=>if a.length+b.length<=zP then .e (.m (a++b)) s else .d
  |.f a,.f b=>if a.length+b.length<=zP then .e (.f (a++b)) s else .d
  |_,_=>match z0 s x,z0 s y with
   |some a,some b=>if a.length+b.length<=zP then newList m (a++b) s else .d
   |_,_=>.d
 |.c=>match x,y with|.c i,.c j=>.e (.c (i-j)) s|_,_=>.d
 |.b=>match x,y with
  |.c i,.c j=>if (-(2 ^ 64)<i/\i<2 ^ 64)\/(-(2 ^ 64)<j/\j<2 ^ 64) then .e (.c (i*j)) s else .d
  |.f a,.c k=>if -1000<=k/\k<=1000/\a≠[]/\a.length<=1000 then .e (.f (AR k.toNat a).flatten) s else .d
  |_,.c k=>match z0 s x with
   |some a=>if -1000<=k/\k<=1000/\a.length*k.toNat<=zP then newList m (AR k.toNat a).flatten s else .d
   |pn=>.d
  |_,_=>.d
 |.d=>match x,y with|.c i,.c j=>if 0<j/\j<1073741824 then .e (.c (i/j)) s else .d|_,_=>.d
 |.f=>match x,y with|.c i,.c j=>if 0<j then .e (.c (i%j)) s else .d|_,_=>.d
 |.g=>match x,y with|.c i,.c j=>if 0<=j/\j<=1000000/\i.natAbs<2 ^ 64 then .e (.c (i ^ j.toNat)) s else .d|_,_=>.d
 |.h=>match x,y with|.c i,.c j=>if 0<=j/\j<=1000000/\i.natAbs<2 ^ 64 then .e (.c (i*2 ^ j.toNat)) s else .d|_,_=>.d
 |.i=>match x,y with|.c i,.c j=>if 0<=j then .e (.c (i/2 ^ j.toNat)) s else .d|_,_=>.d
 |.e=>match x,y with|.c i,.c j=>.e (.c (Builtin.bitAnd i j)) s|_,_=>.d
noncomputable def kindOf:Val->Option L2.Kd
 |.h=>some .e
 |.e _=>some .i
 |.c _=>some .b
 |.m _=>some .g
 |.f _=>some .h
 |.g _=>some .d
 |.p=>some .f
 |.j _=>some .d
 |_=>pn
noncomputable def rK:String->Option L2.Kd
 |"bool"=>some .i
 |"int"=>some .b
 |"str"=>some .g
 |"list"=>some .d
 |"tuple"=>some .h
 |"dict"=>some .f
 |_=>pn
noncomputable def boolsOf:List Val->Option (List Bool)
 |[]=>some []
 |.e b::vs=>(boolsOf vs).map (b::·)
 |_=>pn
noncomputable def pairsOf:List Val->Option (List (Int × Int))
 |[]=>some []
 |.f [.c a,.c b]::vs=>(pairsOf vs).map ((a,b)::·)
 |_=>pn
noncomputable def prV(z:Int × Int):Val:=.f [.c z.1,.c z.2]
def iI(z:Int × Int):List (Int × Int)->List (Int × Int)
 |[]=>[z]
 |y::ys=>if L2.yb z<=L2.yb y then z::y::ys else y::iI z ys
def sj:List (Int × Int)->List (Int × Int)
 |[]=>[]
 |z::zs=>iI z (sj zs)
def yH:List Val->Option (List (List Int))
 |[]=>some []
 |.f a::vs=>match intsOf a,yH vs with
  |some z,some zs=>some (z::zs)
  |_,_=>pn
 |_=>pn
noncomputable def tpV(z:List Int):Val:=.f (z.map .c)
noncomputable def tpS(x:Str)(z:List Int):Val:=.f (.m x::z.map .c)
def Ud(x:Str):List Val->Option (List (List Int))
 |[]=>some []
 |.f (.m y::a)::vs=>if y=x then (match intsOf a,Ud x vs with
  |some z,some zs=>some (z::zs)
  |_,_=>pn) else pn
 |_=>pn
noncomputable def UJ:List Val->Str
 |.f (.m x::_)::_=>x
 |_=>""
def rR(m:Bool)(v:List Val)(s:Sto):Out Val:=match yH v with
 |some a=>if a.Nodup/\(a.length<2\/∀z∈a,z≠[]) then newList m ((L2.zm a).map tpV) s else .d
 |pn=>.d
noncomputable def nub:List (List Int)->List (List Int)
 |[]=>[]
 |z::zs=>if z∈zs then nub zs else z::nub zs
def setOk(v:List Val):Option (List (List Int)):=(yH v).bind λz=>if (nub z).length<306 then some (nub z) else pn
def vO(m:Bool)(v:List Val)(s:Sto):Out Val:=match setOk v with
 |some a=>if a.length<2\/∀z∈a,z≠[] then newList m ((L2.zm a).map tpV) s else .d
 |pn=>.d
def OB(m:Bool)(v:Val)(s:Sto):Out Val:=match z0 s v with
 |some vs=>vO m vs s
 |pn=>.d
def P0(a:List (List Int)):Bool:=decide (a.length<2)||match a with
 |[]=>true
 |z::_=>decide (0<z.length)&&a.all (λy=>decide (y.length=z.length))&&(Ag (a.length-1)).all λi=>!L2.r8 (a.getD (i+1) []) (a.getD i [])
def RR(m:Bool)(v:List Val)(s:Sto):Out Val:=match yH v with
 |some z=>if P0 z then newList m v s else .d
 |pn=>.d
noncomputable def insI(z:Int):List Int->List Int
 |[]=>[z]
 |y::ys=>if z<=y then z::y::ys else y::insI z ys
def sortI:List Int->List Int
 |[]=>[]
 |z::zs=>insI z (sortI zs)
def blt(f:Bf)(m:Bool)(v:List Val)(s:Sto):Out Val:=
 match f with
 |.a=>match v with
  |[.m x]=>if x.length<=zP then .e (.c x.length) s else .d
  |[x]=>match xB s x with|some vs=>.e (.c vs.length) s|pn=>.d
  |_=>.d
 |.p=>match v with
  |[x]=>match z0 s x with|some vs=>(match boolsOf vs with|some bs=>.e (.e (bs.all id)) s|pn=>.d)|pn=>.d
  |_=>.d
 |.r=>match v with
  |[x]=>match z0 s x with|some vs=>(match boolsOf vs with|some bs=>.e (.e (bs.any id)) s|pn=>.d)|pn=>.d
  |_=>.d
 |.d=>match v with
  |[.f vs]=>.e (.f vs) s
  |[x]=>match z0 s x with|some vs=>.e (.f vs) s|pn=>.d
  |_=>.d
 |.l=>match v with
  |[x]=>match xB s x with|some vs=>newList m vs s|pn=>.d
  |_=>.d
 |.o=>match v with
  |[x]=>if (zy s x).isR&&Sg (zy s x).d then .e (.m (zy s x).d.shown) s else .d
  |_=>.d
 |.h=>match v with
  |[.c i,.c j]=>.e (.c (if j > i then j else i)) s
  |[.f vs]=>(match M.intsOf vs with|some ns=>if ns≠[] then .e (.c (L2.xh 0 ns)) s else .d|pn=>.d)
  |[x]=>match z0 s x with|some vs=>(match M.intsOf vs with|some ns=>if ns≠[] then .e (.c (L2.xh 0 ns)) s else .d|pn=>.d)|pn=>.d
  |_=>.d
 |.j=>match v with
  |[.c i,.c j]=>.e (.c (if j<i then j else i)) s
  |[.f vs]=>(match M.intsOf vs with|some ns=>if ns≠[] then .e (.c (L2.uP 0 ns)) s else .d|pn=>.d)
  |[x]=>match z0 s x with|some vs=>(match M.intsOf vs with|some ns=>if ns≠[] then .e (.c (L2.uP 0 ns)) s else .d|pn=>.d)|pn=>.d
  |_=>.d
 |.q=>match v with
  |[.c i]=>.e (.c i) s
  |[.e b]=>.e (.c (if b then 1 else 0)) s
  |_=>.d
 |.i=>match v with
  |[x,.t n]=>match kindOf x,rK n with|some a,some c=>.e (.e (a.sub c)) s|_,_=>.d
  |_=>.d
 |.c=>match v with
  |[.c i,.c j]=>if 0<j/\j<1073741824 then .e (.f [.c (i/j),.c (i%j)]) s else .d
  |_=>.d
 |.s=>match v with
  |[.c i]=>if i.natAbs.log2<1920 then .e (.m (toString i)) s else .d
  |_=>.d
 |.k=>match v with
  |[x]=>match z0 s x with|some vs=>(match M.intsOf vs with|some ns=>if L2.p5 ns then .e (.c ns.sum) s else .d|pn=>.d)|pn=>.d
  |_=>.d
 |.b=>match v with
  |[x]=>match z0 s x with
   |some vs=>(match pairsOf vs with
    |some y=>if y.Nodup/\∀z∈y,0<=z.2/\z.2<1000 then newList m ((sj y).map prV) s else rR m vs s
    |pn=>rR m vs s)
   |pn=>.d
  |_=>.d
 |.n=>match v with
  |[x]=>match z0 s x with|some vs=>(match yH vs with|some y=>if y≠[] then .e (tpV (L2.Q1 y)) s else .d|pn=>.d)|pn=>.d
  |_=>.d
 |.m=>match v with
  |[x]=>match z0 s x with|some vs=>(match Ud (UJ vs) vs with|some y=>if y≠[] then .e (tpS (UJ vs) (L2.Q1 y)) s else .d|pn=>.d)|pn=>.d
  |_=>.d
 |.g=>match v with
  |[x]=>match z0 s x with|some vs=>RR m vs s|pn=>.d
  |_=>.d
 |.e=>match v with
  |[x]=>match xB s x with|some vs=>(match M.intsOf vs with|some ns=>if ns.length<64 then newList m ((sortI ns).map .c) s else .d|pn=>.d)|pn=>.d
  |_=>.d
def mxD(x y:Val)(s:Sto):Out Val:=match y with
 |.c k=>(match z0 s x with|some vs=>(match M.intsOf vs with|some ns=>.e (.c (L2.xh k ns)) s|pn=>.d)|pn=>.d)
 |_=>.d
noncomputable def upd(s:Sto)(i:Nat)(v:List Val):Sto:=s.set i (.c v)
def yT(f:Mf)(o:Val)(x:List Val)(s:Sto):Out Val:=
 match f with
 |.b=>match o,x with
  |.f vs,[y]=>if flat y&&vs.all flat then .e (.c (vs.countP λz=>eqF z y:Nat)) s else .d
  |_,[y]=>match z0 s o with|some vs=>if flat y&&vs.all flat then .e (.c (vs.countP λz=>eqF z y:Nat)) s else .d|pn=>.d
  |_,_=>.d
 |.a=>match o,x with
  |.j i,[y]=>match s[i]? with|some (.c vs)=>if vs.length<zP then .e .h (upd s i (vs++[y])) else .d|_=>.d
  |_,_=>.d
 |.c=>match o,x with
  |.j i,[y]=>match s[i]?,z0 s y with|some (.c vs),some ws=>if vs.length+ws.length<=zP then .e .h (upd s i (vs++ws)) else .d|_,_=>.d
  |_,_=>.d
 |.f=>match o,x with
  |.j i,[.c k]=>(match s[i]? with
   |some (.c vs)=>if -(2 ^ 63)<=k/\k<2 ^ 63 then (match seqIndex? k vs.length with
    |some j=>(match vs[j]? with|some y=>.e y (upd s i (vs.eraseIdx j))|pn=>.d)
    |pn=>.d) else .d
   |_=>.d)
  |.j i,[]=>(match s[i]? with
   |some (.c vs)=>(match vs[vs.length-1]? with|some y=>.e y (upd s i (vs.take (vs.length-1)))|pn=>.d)
   |_=>.d)
  |_,_=>.d
 |.d=>match o,x with
  |.f vs,[y]=>if flat y&&vs.all flat then (match vs.findIdx? λz=>eqF z y with|some j=>.e (.c (j:Nat)) s|pn=>.d) else .d
  |_,_=>.d
 |.e=>match o,x with
  |.m z,[y]=>(match z0 s y with
   |some vs=>(match strsOf vs with|some g=>if (g.map (·.length)).sum+g.length*z.length<=16777216 then .e (.m (L2.Qp z g)) s else .d|pn=>.d)
   |pn=>.d)
  |_,_=>.d
def vt(a b:Val)(s:Sto):Out Val:=
 match b with
 |.c i=>match xB s a with|some vs=>(match L2.atI vs i with|some v=>.e v s|pn=>.d)|pn=>.d
 |_=>.d
def uv{a:Type}(x:List a)(l h:Option Int):List a:=(x.drop (HT.sIx x.length 0 l)).take (HT.sIx x.length x.length h-HT.sIx x.length 0 l)
def wu(m:Bool)(a:Val)(l h b:Option Int)(s:Sto):Out Val:=
 match a,b with
 |.f vs,pn=>.e (.f (uv vs l h)) s
 |.f vs,some c=>if c≠0/\(L2.yI vs.length l h c).2<=zP then .e (.f (L2.zl vs (L2.yI vs.length l h c).1 c (L2.yI vs.length l h c).2)) s else .d
 |_,pn=>match z0 s a with|some vs=>newList m (uv vs l h) s|pn=>.d
 |_,some c=>match z0 s a with|some vs=>if c≠0 then newList m (L2.zl vs (L2.uC vs.length l h c).1 c (L2.uC vs.length l h c).2) s else .d|pn=>.d
def Wq(m:Bool)(x y z:Val)(s:Sto):Out Val:=match x,y,z with
 |.c i,.c j,.c k=>if -(2 ^ 30)<=i/\i<=2 ^ 30∧-(2 ^ 30)<=j/\j<=2 ^ 30/\0<k/\k<=2 ^ 29/\A4 i j k<=1000 then newList m ((L2.xP i j k).map .c) s else .d
 |.h,y,.m _=>(match xB s y with|some vs=>(match M.intsOf vs with|some ns=>if ns.length<=1000 then .e (.c (L2.dN ns:Nat)) s else .d|pn=>.d)|pn=>.d)
 |.c i,.c j,.e _=>if -(2 ^ 30)<=i/\i<=2 ^ 30∧-(2 ^ 30)<=j/\j<=2 ^ 30/\A4 i j 1<=1000 then newList m ((L2.xP i j 1).map .c) s else .d
 |.c i,.c j,.h=>if -(2 ^ 30)<=i/\i<=2 ^ 30∧-(2 ^ 30)<=j/\j<=2 ^ 30/\A4 i j 1<=1000 then .e (.f ((L2.xP i j 1).map .c)) s else .d
 |_,_,_=>.d
noncomputable def yC(t:Tgt)(v:Val)(c:Env):Option Env:=
 match t with
 |.a i=>some (c.set i (some v))
 |.b is=>match v with
  |.f vs=>if vs.length=is.length then some ((is.zip vs).foldl (λe p=>e.set p.1 (some p.2)) c) else pn
  |_=>pn
structure Src where
 a:List Val
 b:Option Nat
def Src.ok(r:Src)(s:Sto):Bool:=match r.b with
 |pn=>true
 |some i=>match s[i]? with
  |some (.c vs)=>rC vs r.a
  |_=>false
noncomputable def OV:List Val->List Val->List Val
 |v::vs,w::ws=>.f [v,w]::OV vs ws
 |_,_=>[]
noncomputable def yZ(n:Nat):List Val->List Val
 |[]=>[]
 |v::vs=>.f [.c n,v]::yZ (n+1) vs
noncomputable def srcOf(s:Sto):Val->Option Src
 |.f vs=>some ⟨vs,pn⟩
 |.g vs=>some ⟨vs,pn⟩
 |.o ns=>some ⟨ns.map .c,pn⟩
 |.j i=>match s[i]? with
  |some (.c vs)=>some ⟨vs,some i⟩
  |_=>pn
 |_=>pn
noncomputable def P1(l c:Int)(n:Nat):List Val:=(Ag n).map λ(k:Nat)=>Val.c (l+k*c)
def O3(x y z:Val)(s:Sto):Out Src:=match x,y,z with
 |.c i,.c j,.c k=>if 0<=i/\i<=1000/\0<=j/\j<=1000/\1<=k/\k<=1000 then .e ⟨P1 i k (A4 i j k).toNat,pn⟩ s else .d
 |_,_,_=>.d
noncomputable def yP(l:Int)(n:Nat):List Val:=(Ag n).map λ(k:Nat)=>Val.c (l+k)
def zz(r:Src)(t:Tgt)(b:Env->Sto->List Val->Out (List Val × Env)):List Val->Env->Sto->List Val->Out (List Val × Env)
 |[],env,s,acc=>if r.ok s then .e (acc,env) s else .d
 |x::xs,env,s,acc=>if r.ok s then match yC t x env with
    |pn=>.d
    |some u=>(b u s acc).bind λp w=>zz r t b xs p.2 w p.1
  else .d
noncomputable def zL(f:List (Option Nat))(e:Env):Env:=f.map λo=>match o with|some j=>(e[j]?).join|pn=>pn
inductive Fl
 |a (env:Env)|c (env:Env)|d (env:Env)|b (v:Val)
def vn(r:Src)(t:Tgt)(f:Env->Sto->Out Fl):List Val->Env->Sto->Out Fl
 |[],env,s=>if r.ok s then .e (.a env) s else .d
 |x::xs,env,s=>if r.ok s then match yC t x env with
    |pn=>.d
    |some u=>(f u s).bind λF w=>match F with
     |.a e=>vn r t f xs e w
     |.d e=>vn r t f xs e w
     |.c e=>.e (.a e) w
     |.b v=>.e (.b v) w
  else .d
def uN(c:Env->Sto->Out Bool)(f:Env->Sto->Out Fl):Nat->Env->Sto->Out Fl
 |0,_,_=>.d
 |n+1,env,s=>(c env s).bind λb w=>if b then (f env w).bind λF u=>match F with
    |.a e=>uN c f n e u
    |.d e=>uN c f n e u
    |.c e=>.e (.a e) u
    |.b v=>.e (.b v) u
  else .e (.a env) w
noncomputable def qW:Nat:=100000
noncomputable def XJ:Sto->List Str
 |.f x::r=>x::XJ r
 |_=>[]
section
variable (Φ:Calls)(G:Str->Option Val)
mutual
noncomputable def evE(N:Env):Ex->Sto->Out Val
 |.h v,s=>.e v s
 |.e i,s=>match N[i]? with|some (some v)=>.e v s|_=>.d
 |.E x,s=>match G x with|some v=>.e v s|pn=>.d
 |.O _ n,s=>.e (.t n) s
 |.l m op a b,s=>(evE N a s).bind λx S=>(evE N b S).bind λy U=>binOp m op x y U
 |.C a,s=>(evE N a s).bind λx S=>match x with|.c i=>.e (.c (-i)) S|_=>.d
 |.I a,s=>(evE N a s).bind λx S=>match x with|.e b=>.e (.e !b) S|_=>.d
 |.k op a b,s=>(evE N a s).bind λx S=>(evE N b S).bind λy U=>zO op x y U
 |.s op op' a b c,s=>(evE N a s).bind λx S=>(evE N b S).bind λy U=>(zO op x y U).bind λr s3=>match r with
  |.e true=>(evE N c s3).bind λz s4=>zO op' y z s4
  |.e false=>.e (.e false) s3
  |_=>.d
 |.z a es,s=>match es with
  |.b=>evE N a s
  |.a _ _=>(evE N a s).bind λx S=>match x with
   |.e true=>rd N es S
   |.e false=>.e (.e false) S
   |_=>.d
 |.P a es,s=>match es with
  |.b=>evE N a s
  |.a _ _=>(evE N a s).bind λx S=>match truth S x with
   |some false=>kG N es S
   |some true=>.e x S
   |pn=>.d
 |.H c a b,s=>(evT N c s).bind λt S=>if t then evE N a S else evE N b S
 |.p es,s=>(yf N es s).bind λvs S=>if vs.length<=zP then .e (.f vs) S else .d
 |.w m es,s=>(yf N es s).bind λvs S=>if vs.length<=zP then newList m vs S else .d
 |.K,s=>.e .p s
 |.g f ver es,s=>(yf N es s).bind λvs S=>Φ f ver vs S
 |.j f m es,s=>(yf N es s).bind λvs S=>blt f m vs S
 |.L a d,s=>(evE N a s).bind λx S=>(evE N d S).bind λy U=>mxD x y U
 |.J f _ o es,s=>(evE N o s).bind λx S=>(yf N es S).bind λvs U=>yT f x vs U
 |.u a b,s=>(evE N a s).bind λx S=>(evE N b S).bind λy U=>vt x y U
 |.F m a lo hi st,s=>(evE N a s).bind λx S=>(evO N lo S).bind λl U=>(evO N hi U).bind λh s3=>(evO N st s3).bind λc s4=>wu m x l h c s4
 |.q m _ fr elt t it ifs,s=>(zx N it s).bind λr S=>
  (zz r t (λe s' W=>(yM e ifs s').bind λb U=>if b then (evE e elt U).bind λv s3=>.e (W++[v],e) s3 else .e (W,e) U) r.a (zL fr N) S []).bind λp U=>newList m p.1 U
 |.y m _ fr elt t it ifs t2 it2 ifs2,s=>(zx N it s).bind λr S=>
  (zz r t (λe s' W=>(yM e ifs s').bind λb U=>if b then (zx e it2 U).bind λr2 s3=>
      zz r2 t2 (λe' s4 Y=>(yM e' ifs2 s4).bind λb' s5=>if b' then (evE e' elt s5).bind λv s6=>.e (Y++[v],e') s6 else .e (Y,e') s5) r2.a e s3 W
   else .e (W,e) U) r.a (zL fr N) S []).bind λp U=>if p.1.length<=zP then newList m p.1 U else .d
 |.G t,s=>.e (.q s.length) (s++[if t then .e [] else .d []])
 |.Q a b,s=>(evE N a s).bind λx S=>(evE N b S).bind λy U=>ixD x y U
 |.D _,_=>.d
 |.M m a,s=>(evE N a s).bind λx S=>OB m x S
 |.B m _ fr elt t it ifs,s=>(zx N it s).bind λr S=>
  (zz r t (λe s' W=>(yM e ifs s').bind λb U=>if b then (evE e elt U).bind λv s3=>.e (W++[v],e) s3 else .e (W,e) U) r.a (zL fr N) S []).bind λp U=>vO m p.1 U
 |.A m _ fr elt t it ifs t2 it2 ifs2,s=>(zx N it s).bind λr S=>
  (zz r t (λe s' W=>(yM e ifs s').bind λb U=>if b then (zx e it2 U).bind λr2 s3=>
      zz r2 t2 (λe' s4 Y=>(yM e' ifs2 s4).bind λb' s5=>if b' then (evE e' elt s5).bind λv s6=>.e (Y++[v],e') s6 else .e (Y,e') s5) r2.a e s3 W
   else .e (W,e) U) r.a (zL fr N) S []).bind λp U=>vO m p.1 U
 |.r m a b c,s=>(evE N a s).bind λx S=>(evE N b S).bind λy U=>(evE N c U).bind λz s3=>Wq m x y z s3
noncomputable def rd(c:Env):Exs->Sto->Out Val
 |.b,_=>.d
 |.a a es,s=>match es with
  |.b=>evE c a s
  |.a _ _=>(evE c a s).bind λx u=>match x with
   |.e true=>rd c es u
   |.e false=>.e (.e false) u
   |_=>.d
noncomputable def kG(c:Env):Exs->Sto->Out Val
 |.b,_=>.d
 |.a a es,s=>match es with
  |.b=>evE c a s
  |.a _ _=>(evE c a s).bind λx u=>match truth u x with
   |some false=>kG c es u
   |some true=>.e x u
   |pn=>.d
noncomputable def yf(c:Env):Exs->Sto->Out (List Val)
 |.b,s=>.e [] s
 |.a e es,s=>(evE c e s).bind λv w=>(yf c es w).bind λd u=>.e (v::d) u
noncomputable def evO(f:Env):OEx->Sto->Out (Option Int)
 |.b,s=>.e pn s
 |.a e,s=>(evE f e s).bind λv u=>match v with|.c i=>.e (some i) u|_=>.d
/-- a test -/
noncomputable def evT(c:Env):Cn->Sto->Out Bool
 |.a e,s=>(evE c e s).truth
 |.b a,s=>(evT c a s).bind λb u=>.e (!b) u
 |.d a es,s=>(evT c a s).bind λb u=>if b then yM c es u else .e false u
 |.f a es,s=>(evT c a s).bind λb u=>if b then .e true u else r0 c es u
noncomputable def yM(c:Env):Cns->Sto->Out Bool
 |.a,s=>.e true s
 |.b a es,s=>(evT c a s).bind λb d=>if b then yM c es d else .e false d
noncomputable def r0(c:Env):Cns->Sto->Out Bool
 |.a,s=>.e false s
 |.b a es,s=>(evT c a s).bind λb d=>if b then .e true d else r0 c es d
noncomputable def zx(k:Env):Itb->Sto->Out Src
 |.d e,s=>(evE k e s).bind λv u=>match srcOf u v with|some r=>.e r u|pn=>.d
 |.f a,s=>(evE k a s).bind λx u=>match x with
  |.c j=>if -(2 ^ 62)<=j/\j<=zP then .e ⟨yP 0 j.toNat,pn⟩ u else .d
  |_=>.d
 |.g a b,s=>(evE k a s).bind λx u=>(evE k b u).bind λy w=>match x,y with
  |.c i,.c j=>if -(2 ^ 62)<=i/\i<2 ^ 62∧-(2 ^ 62)<=j/\j<2 ^ 62/\j-i<=zP then .e ⟨yP i (j-i).toNat,pn⟩ w else .d
  |_,_=>.d
 |.i a b c,s=>(evE k a s).bind λx u=>(evE k b u).bind λy w=>(evE k c w).bind λz F=>O3 x y z F
 |.h e,s=>(evE k e s).bind λv u=>match v with
  |.f vs=>.e ⟨yZ 0 vs,pn⟩ u
  |.g vs=>.e ⟨yZ 0 vs,pn⟩ u
  |_=>.d
 |.j a b,s=>(evE k a s).bind λx u=>(evE k b u).bind λy w=>match x,y with
  |.f vs,.f ws=>if ws.length<=vs.length then .e ⟨OV vs ws,pn⟩ w else .d
  |_,_=>.d
end
mutual
noncomputable def exS(A:Env):Sm->Sto->Out Fl
 |.g e,s=>(evE Φ G A e s).bind λ_ F=>.e (.a A) F
 |.d e,s=>(evE Φ G A e s).bind λv F=>.e (.b v) F
 |.v,s=>.e (.b .h) s
 |.f i e,s=>(evE Φ G A e s).bind λv F=>.e (.a (A.set i (some v))) F
 |.q is e,s=>(evE Φ G A e s).bind λv F=>match yC (.b is) v A with|some U=>.e (.a U) F|pn=>.d
 |.r is es,s=>(yf Φ G A es s).bind λO F=>if O.length=is.length then .e (.a ((is.zip O).foldl (λe p=>e.set p.1 (some p.2)) A)) F else .d
 |.w i op e,s=>match A[i]? with
  |some (some (.c x))=>(evE Φ G A e s).bind λv F=>match v with
   |.c y=>(binOp false op (.c x) (.c y) F).bind λz M=>.e (.a (A.set i (some z))) M
   |_=>.d
  |some (some (.f x))=>if op=.a then (evE Φ G A e s).bind λv F=>match v with
   |.f y=>(binOp false .a (.f x) (.f y) F).bind λz M=>.e (.a (A.set i (some z))) M
   |_=>.d
   else .d
  |_=>.d
 |.p o i e,s=>(evE Φ G A e s).bind λv F=>(evE Φ G A o F).bind λx M=>(evE Φ G A i M).bind λy W=>match x,y with
  |.j r,.c k=>(match W[r]? with
   |some (.c O)=>(match L2.ixN O.length k with|some j=>.e (.a A) (upd W r (O.set j v))|pn=>.d)
   |_=>.d)
  |_,_=>.d
 |.j c a b,s=>(evT Φ G A c s).bind λt F=>if t then zU A a F else zU A b F
 |.l t it b,s=>(zx Φ G A it s).bind λr F=>vn r t (λe S=>zU e b S) r.a A F
 |.m c b,s=>uN (λe S=>evT Φ G e c S) (λe S=>zU e b S) qW A s
 |.s,s=>.e (.a A) s
 |.y,s=>.e (.c A) s
 |.u,s=>.e (.d A) s
 |.n _,_=>.d
 |.x o i e,s=>(evE Φ G A e s).bind λv F=>(evE Φ G A o F).bind λx M=>(evE Φ G A i M).bind λy W=>match putD x y v W with|some Y=>.e (.a A) Y|pn=>.d
noncomputable def zU(h:Env):Sms->Sto->Out Fl
 |.f,s=>.e (.a h) s
 |.e c cs,s=>(exS h c s).bind λu F=>match u with
  |.a e=>zU e cs F
  |u=>.e u F
 |.g i L mid k d o b cs,s=>(zU (h.set i pn) mid s).bind λu U=>match u with
  |.a e0=>if XJ s=XJ U then (yf Φ G e0 L U).bind λM F=>if k=0 then .e (.b (.g M)) F else
   if k=1 then (evE Φ G e0 d F).bind λy O=>(zO .d (.g M) y O).bind λr w=>.e (.b r) w
   else ((evE Φ G e0 d F).bind λy O=>((zO .b (.g M) y O).truth).bind λr w=>if r then .e true w else r0 Φ G e0 o w).bind λr w=>
    (if r then zU e0 b w else .e (.a e0) w).bind λu S=>match u with
   |.a e=>zU e cs S
   |u=>.e u S
   else .d
  |_=>.d
end
end
abbrev Oc:=Option (Str × List Val × Sto)
abbrev Ob:=Str->Nat->List Val->Sto->Oc
noncomputable def ze(N:List Str)(v:List Val):Env:=v.map some++AR (N.length-v.length) pn
def leave(F:Fn)(a:Sto)(v:Val)(s:Sto):Out Val:=
 if F.c then .e v s
 else if x9 a s then (match freeze a.length s v with|some b=>.e b (s.take a.length)|pn=>.d) else .d
structure Tbl where
 c:Str->Nat->Option Fn
 b:Str->Option Val
 /-- the defs whose tables the store holds,from its start -/
 d:List Str:=[]
 /-- the classes of exceptions,and what the law's def says of each -/
 xc:List (Str × Str):=[]
 /-- which of the law's two defs that try a call is there -/
 e:Bool->Bool:=λ_=>false
def run(T:Tbl)(A:Calls)(F:Fn)(c:List Val)(s:Sto):Out Val:=
 if c.length=F.a.length then (zU A T.b (ze F.N c) F.b s).bind λg f=>match g with
  |.a _=>leave F s .h f
  |.b v=>leave F s v f
  |_=>.d
 else .d
def zE(T:Tbl):Nat->Calls
 |0=>λ_ _ _ _=>.d
 |n+1=>λf e u s=>match T.c f e with|some F=>run T (zE T n) F u s|pn=>.d
abbrev KF:=AH
structure Own where
 o:List Addr
 h:List Addr
def Own.no(b:Own)(a:Addr):Prop:=a ∉ b.o/\a ∉ b.h
def KT(K:KF)(a:Addr)(x:List L2.V):Prop:=∃(o:Obj) (i:Array Value) (n:Nat),K.lookup a=some o/\o.cls=.type "tuple"/\o.data=.seq i n/\i.size<=AI/\L2.Vals x i.toList
def SC(K:KF)(c:Own)(H:L2.Hp)(a:Addr)(x:List L2.V):Prop:=(c.no a/\L2.Rd H a (.b x)) \/
 ∃(o:Obj) (i:Array Value) (n:Nat),K.lookup a=some o/\o.cls=.type "list"/\o.dict=none/\o.data=.seq i n/\i.size<=AI/\L2.Vals x i.toList
noncomputable def hk:Option L2.HO->Nat
 |some (.b _)=>1
 |some (.j _)=>2
 |some (.k _)=>3
 |some (.d _)=>4
 |_=>0
mutual
inductive RD(K:KF)(mg:Str->Option Value)(ρ:Own)(H:L2.Hp):Val->L2.V->Prop
 |p:RD K mg ρ H .h .f
 |j (b:Bool):RD K mg ρ H (.e b) (.e b)
 |l (i:Int):RD K mg ρ H (.c i) (.d i)
 |E (x:Str):RD K mg ρ H (.m x) (.g x)
 |m {a:Addr} {vs:List Val} {xs:List L2.V}:ρ.no a->H a=some (.c xs)->RDs K mg ρ H vs xs->RD K mg ρ H (.f vs) (.c a)
 |D {a:Addr} {vs:List Val} {xs:List L2.V}:ρ.no a->H a=some (.b xs)->RDs K mg ρ H vs xs->RD K mg ρ H (.g vs) (.c a)
 |B {a:Addr}:ρ.no a->H a=some (.j [])->RD K mg ρ H .p (.c a)
 |s {a:Addr} {ns:List Int}:KT K a (ns.map L2.V.d)->RD K mg ρ H (.o ns) (.c a)
 |F {a:Addr} {ns:List Int}:SC K ρ H a (ns.map L2.V.d)->RD K mg ρ H (.r ns) (.c a)
 |C {a:Addr} {i:Nat}:ρ.o[i]?=some a->hk (H a)=1->RD K mg ρ H (.j i) (.c a)
 |A {a:Addr} {i:Nat}:ρ.o[i]?=some a->1<hk (H a)->RD K mg ρ H (.q i) (.c a)
 |I {x:Str} {f:Addr}:mg x=some (.ref f)->RD K mg ρ H (.u x) (.c f)
 |J (n:String):RD K mg ρ H (.t n) (.k n)
 |G (a k:Nat):RD K mg ρ H (.s a k) (.c a)
inductive RDs(K:KF)(mg:Str->Option Value)(ρ:Own)(H:L2.Hp):List Val->List L2.V->Prop
 |d:RDs K mg ρ H [] []
 |a {v:Val} {x:L2.V} {vs:List Val} {xs:List L2.V}:RD K mg ρ H v x->RDs K mg ρ H vs xs->RDs K mg ρ H (v::vs) (x::xs)
end
noncomputable def Ou(x:Str):Str:=(x++(".<locals>.":Str))++("<lambda>":Str)
def OZ(K:KF)(m:Str->Option Value)(j:Own)(H:L2.Hp)(P:Addr)(x:Str):Prop:=∃p,H P=some (.d p)/\TriplesOk p.toList /\
 (∀(a:Pos) (i:Value),codeAmong a p.toList=some i->∃(c:Addr) (o:Obj) (vs:Array Value) (t:Tok),i=.ref c/\j.no c/\H c=some (.g o (.e 0))/\o.data=.fields vs/\vs[1]?=some (.str (Ou x) t)) /\
 ∃(b c:Addr) (o:Obj) (f:Ec),m x=some (.ref b)/\K.lookup b=some o/\o.data=.func f/\f.code=.ref c/\∀h:Heap,K.In h->PySem.W.CodeHd h c P
def CR(K:KF)(m:Str->Option Value)(g:Own)(H:L2.Hp)(a:Addr):Cel->Prop
 |.c vs=>∃w,H a=some (.b w)/\RDs K m g H vs w
 |.d kvs=>∃u,H a=some (.j u)/\u.map (·.1)=kvs.map (λp=>FT p.1)/\RDs K m g H (kvs.map (·.2)) (u.map (·.2))
 |.e kvs=>∃u,H a=some (.k u)/\u.map (·.1)=kvs.map (λp=>p.1.map FR)/\RDs K m g H (kvs.map (·.2)) (u.map (·.2))
 |.f x=>OZ K m g H a x
inductive Hid
 |b (xs:List L2.V)|a (φ:Heap->Prop)
noncomputable def Hid.o:Hid->L2.HO
 |.b xs=>.b xs
 |.a φ=>.i φ
structure HR(K:KF)(mg:Str->Option Value)(ρ:Own)(s:Sto)(H:L2.Hp):Prop where
 f:ρ.o.length=s.length
 l:ρ.o.Nodup
 g:∀(i:Nat) (c:Cel),s[i]?=some c->∃a:Addr,ρ.o[i]?=some a/\CR K mg ρ H a c
 d:∀a∈ρ.h,(∃o:Hid,H a=some o.o)/\a ∉ ρ.o
structure Ext(ρ:Own)(H:L2.Hp)(ρ':Own)(H':L2.Hp):Prop where
 d:∃new:List Addr,ρ'.o=ρ.o++new/\∀a∈new,H a=none
 f:ρ'.h=ρ.h
 c:∀(a:Addr) (o:L2.HO),H a=some o->a ∉ ρ.o->H' a=some o
 g:∀a∈ρ.o,hk (H' a)=hk (H a)
structure ER(K:KF)(mg:Str->Option Value)(ρ:Own)(H:L2.Hp)(env:Env)(σ:L2.St):Prop where
 b:env.length=σ.length
 a:∀(i:Nat) (v:Val),env[i]?=some (some v)->∃x:L2.V,σ[i]?=some (some x)/\RD K mg ρ H v x
section
variable {K:KF}{mg:Str->Option Value}{ρ ρ' ρ'':Own}{H H' H'':L2.Hp}{s s':Sto}
def HR.obj(h:HR K mg ρ s H)(i:Nat)vs(e:s[i]?=some (Cel.c vs)):∃(a:Addr) (xs:List L2.V),ρ.o[i]?=some a/\H a=some (.b xs)/\RDs K mg ρ H vs xs:=by refine byG λp f=>?_;obtain⟨a,k,xs,j,r⟩:=h.g i _ e;refine f ?_;exact⟨a,xs,k,j,r⟩
def CR.there(h:CR K mg ρ H a c):∃o,H a=some o:=by
 cases c with
 |c vs=>obtain⟨b,e,_⟩:=h;exact⟨_,e⟩
 |d k=>obtain⟨b,e,_⟩:=h;exact⟨_,e⟩
 |e k=>obtain⟨b,e,_⟩:=h;exact⟨_,e⟩
 |f x=>obtain⟨p,e,_⟩:=h;exact⟨_,e⟩
theorem CR.hk{a:Addr}{c:Cel}(h:CR K mg ρ H a c):0<hk (H a):=by
 cases c with
 |c vs=>obtain⟨b,e,_⟩:=h;rw[e];exact Cz 0
 |d k=>obtain⟨b,e,_⟩:=h;rw[e];exact FY rfl
 |e k=>obtain⟨b,e,_⟩:=h;rw[e];exact FY rfl
 |f x=>obtain⟨p,e,_⟩:=h;rw[e];exact FY rfl
def HR.trk(h:HR K mg ρ s H)(l:a∈ρ.o):∃o,H a=some o:=by
 obtain⟨i,c,e⟩:=Bz l;have k:i<s.length:=by rw[<-h.f];exact c
 obtain⟨b,j,m⟩:=h.g i _ (dS k);rw[dS c,e]at j;cases j;exact m.there
def mV(h:hk (H a)=1):∃d,H a=some (.b d):=by
 cases e:H a with
 |none=>rw[e]at h;cases h
 |some o=>
  rw[e]at h;cases o with
  |b d=>exact⟨d,rfl⟩
  |_=>cases h
def HR.new(h:HR K mg ρ s H)(b:H p=none):ρ.no p:=by
 refine⟨λa=>?_,λa=>?_⟩
 . obtain⟨x,e⟩:=h.trk a
   rw[b]at e;cases e
 . obtain⟨⟨x,e⟩,_⟩:=h.d p a
   rw[b]at e;cases e
def Ext.refl:Ext ρ H ρ H:=⟨⟨[],by simp,λa h=>by cases h⟩,rfl,λa o e _=>e,λ_ _=>rfl⟩
def Ext.Q5(x:Ext ρ H ρ' H')(e:H a=some o)(n:ρ.no a):ρ'.no a:=by
 obtain⟨b,g,c⟩:=x.d;refine⟨?_,by rw[x.f];exact n.2⟩
 rw[g];intro h;rcases AS.mp h with h|h
 . exact n.1 h
 . rw[c a h]at e;cases e
def Ext.get(x:Ext ρ H ρ' H'){i:Nat}(e:ρ.o[i]?=some a):ρ'.o[i]?=some a:=by obtain⟨n,b,c⟩:=x.d;have h:i<ρ.o.length:=(Ar.mp e).1;rw[b,A0 h];exact e
theorem Ext.trans(x:Ext ρ H ρ' H')(h:HR K mg ρ' s H')(y:Ext ρ' H' ρ'' H''):Ext ρ H ρ'' H'':=by
 obtain⟨m,l,p⟩:=x.d;obtain⟨j,r,k⟩:=y.d;refine⟨⟨m++j,by rw[r,l,Aq],λa b=>?_⟩,y.f.trans x.f,λa o e n=>y.c a o (x.c a o e n) ?_,λa b=>(y.g a (by rw[l];exact Bp _ b)).trans (x.g a b)⟩
 . rcases AS.mp b with b|b
   . exact p a b
   . cases q:H a with
     |none=>rfl
     |some o=>
      by_cases i:a∈ρ.o
      . obtain⟨t,e⟩:=h.trk (a:=a) (by rw[l];exact Bp _ i)
        rw[k a b]at e;cases e
      . have:=x.c a o q i
        rw[k a b]at this;cases this
 . rw[l]
   intro i;rcases AS.mp i with i|i
   . exact n i
   . rw[p a i]at e;cases e
def SC.sql(h:SC K ρ H a xs):L2.SqL K H a xs:=by
 rcases h with⟨_,h⟩|h
 . exact .inl h
 . exact .inr h
def KT.sqt(h:KT K a xs):L2.SqT K H a xs:=.inr h
structure Mv(ρ:Own)(H:L2.Hp)(ρ':Own)(H':L2.Hp):Prop where
 b:∀(a:Addr) (o:L2.HO),H a=some o->ρ.no a->H' a=some o/\ρ'.no a
 c:∀(i:Nat) (a:Addr),ρ.o[i]?=some a->ρ'.o[i]?=some a
 d:∀a∈ρ.o,hk (H' a)=hk (H a)
def Ext.mv(x:Ext ρ H ρ' H'):Mv ρ H ρ' H':=⟨λa o e n=>⟨x.c a o e n.1,x.Q5 e n⟩,λi a e=>x.get e,x.g⟩
def SC.mv(x:Mv ρ H ρ' H')(h:SC K ρ H a xs):SC K ρ' H' a xs:=by
 rcases h with⟨n,h|⟨o,h⟩⟩|h
 . exact .inl ⟨(x.b _ _ h n).2,.inl (x.b _ _ h n).1⟩
 . exact .inl ⟨(x.b _ _ h n).2,.inr ⟨o,(x.b _ _ h n).1⟩⟩
 . exact .inr h
end
mutual
theorem RD.mv{K:KF}{o:Str->Option Value}{g f:Own}{H L:L2.Hp}(x:Mv g H f L){v:Val}{u:L2.V}(q:RD K o g H v u):RD K o f L v u:=by
 cases q with
 |p=>exact .p
 |j b=>exact .j b
 |l i=>exact .l i
 |E t=>exact .E t
 |m n e r=>exact .m (x.b _ _ e n).2 (x.b _ _ e n).1 (RDs.mv x r)
 |D n e r=>exact .D (x.b _ _ e n).2 (x.b _ _ e n).1 (RDs.mv x r)
 |B n e=>exact .B (x.b _ _ e n).2 (x.b _ _ e n).1
 |s h=>exact .s h
 |F h=>exact .F (h.mv x)
 |C e k=>exact .C (x.c _ _ e) ((x.d _ (AD e)).trans k)
 |A e k=>exact .A (x.c _ _ e) (by rw[x.d _ (AD e)];exact k)
 |G a k=>exact .G a k
 |I e=>exact .I e
 |J n=>exact .J n
theorem RDs.mv{K:KF}{m:Str->Option Value}{c b:Own}{H A:L2.Hp}(x:Mv c H b A){v:List Val}{u:List L2.V}(q:RDs K m c H v u):RDs K m b A v u:=by
 cases q with
 |d=>exact .d
 |a r f=>exact .a (RD.mv x r) (RDs.mv x f)
end
theorem CR.mv(x:Mv ρ H ρ' H')(e:H' a=H a)(h:CR K mg ρ H a c):CR K mg ρ' H' a c:=by
 cases c with
 |c vs=>obtain⟨j,i,r⟩:=h;exact⟨j,e.trans i,RDs.mv x r⟩
 |d l=>obtain⟨j,i,k,r⟩:=h;exact⟨j,e.trans i,k,RDs.mv x r⟩
 |e l=>obtain⟨j,i,k,r⟩:=h;exact⟨j,e.trans i,k,RDs.mv x r⟩
 |f y=>
  obtain⟨v,i,k,r,g⟩:=h;refine⟨v,e.trans i,k,λp u z=>?_,g⟩;obtain⟨c,o,vs,t,s,m,q,n⟩:=r p u z;exact⟨c,o,vs,t,s,(x.b _ _ q m).2,(x.b _ _ q m).1,n⟩
def RD.mono(r:RD K mg ρ H v u)(x:Ext ρ H ρ' H'):RD K mg ρ' H' v u:=RD.mv x.mv r
def RDs.mono(r:RDs K mg ρ H v u)(x:Ext ρ H ρ' H'):RDs K mg ρ' H' v u:=RDs.mv x.mv r
section
variable {K:KF}{mg:Str->Option Value}{ρ ρ' ρ'':Own}{H H' H'':L2.Hp}{s s':Sto}
theorem RDs.length(q:RDs K mg ρ H vs xs):vs.length=xs.length:=by
 cases q with
 |d=>rfl
 |a _ r=>rw[Ap,Ap,r.length]
theorem RDs.get{i:Nat}(q:RDs K mg ρ H vs xs)(e:vs[i]?=some v):∃x,xs[i]?=some x/\RD K mg ρ H v x:=by
 cases q with
 |d=>cases e
 |a r b=>
  cases i with
  |zero=>cases e;exact⟨_,rfl,r⟩
  |succ i=>exact RDs.get (i:=i) b e
theorem RDs.QV{i:Nat}(q:RDs K mg ρ H vs xs)(e:xs[i]?=some x):∃v,vs[i]?=some v/\RD K mg ρ H v x:=by
 cases q with
 |d=>cases e
 |a r b=>
  cases i with
  |zero=>cases e;exact⟨_,rfl,r⟩
  |succ i=>exact RDs.QV (i:=i) b e
theorem RDs.append(p:RDs K mg ρ H vs xs)(q:RDs K mg ρ H ws ys):RDs K mg ρ H (vs++ws) (xs++ys):=by
 cases p with
 |d=>exact q
 |a r b=>exact .a r (b.append q)
theorem RDs.take n(q:RDs K mg ρ H vs xs):RDs K mg ρ H (vs.take n) (xs.take n):=by
 cases n with
 |zero=>exact .d
 |succ n=>cases q with
  |d=>exact .d
  |a r b=>exact .a r (b.take n)
theorem RDs.drop n(q:RDs K mg ρ H vs xs):RDs K mg ρ H (vs.drop n) (xs.drop n):=by
 cases n with
 |zero=>exact q
 |succ n=>cases q with
  |d=>exact .d
  |a _ r=>exact r.drop n
theorem RDs.set(r:RD K mg ρ H v x)i(q:RDs K mg ρ H vs xs):RDs K mg ρ H (vs.set i v) (xs.set i x):=by
 cases q with
 |d=>exact .d
 |a q t=>cases i with
  |zero=>exact .a r t
  |succ i=>exact .a q (RDs.set r i t)
theorem RDs.rep(r:RDs K mg ρ H vs xs):∀k:Nat,RDs K mg ρ H (AR k vs).flatten (AR k xs).flatten
 |0=>.d
 |k+1=>by rw[CI,CI,DI,DI];exact r.append (RDs.rep r k)
theorem RDs.pick(r:RDs K mg ρ H vs xs):∀(is:List Nat),RDs K mg ρ H (is.filterMap λi=>vs[i]?) (is.filterMap λi=>xs[i]?)
 |[]=>.d
 |i::is=>by
  rw[Bo,Bo];cases hx:vs[i]? with
  |none=>
   have:xs[i]?=none:=by have c:vs.length<=i:=CW.mp hx;exact CW.mpr (by rw[<-r.length];exact c)
   rw[this];exact RDs.pick r is
  |some v=>
   obtain⟨u,h,b⟩:=r.get hx;rw[h];exact .a b (RDs.pick r is)
theorem RDs.zl(r:RDs K mg ρ H vs xs)lo st n:RDs K mg ρ H (L2.zl vs lo st n) (L2.zl xs lo st n):=by have h:=r.pick ((Ag n).map λ(k:Nat)=>(lo+(k:Int)*st).toNat);rw[CQ,CQ]at h;exact h
theorem RDs.ints:∀(ns:List Int),RDs K mg ρ H (ns.map .c) (ns.map .d)
 |[]=>.d
 |n::ns=>.a (.l n) (RDs.ints ns)
def RDs.cut(r:RDs K mg ρ H vs xs)lo hi:RDs K mg ρ H (uv vs lo hi) (L2.oI xs lo hi):=by unfold uv L2.oI;rw[r.length];exact(r.drop _).take _
theorem Zp{b:Type}:∀{l:List b} {i j:Nat} {x},l.Nodup->l[i]?=some x->l[j]?=some x->i=j
 |[],_,_,_,_,e,_=>by simp at e
 |a::l,0,0,_,_,_,_=>rfl
 |a::l,0,j+1,x,nd,e1,e2=>by
  simp at e1 e2;subst e1;exact absurd (AD e2) (Bm.mp nd).1
 |a::l,i+1,0,x,nd,e1,e2=>by
  simp at e1 e2;subst e2;exact absurd (AD e1) (Bm.mp nd).1
 |a::l,i+1,j+1,x,nd,e1,e2=>by simp at e1 e2;rw[Zp (Bm.mp nd).2 e1 e2]
theorem Ext.new(h:HR K mg ρ s H)(c:H p=none)o:Ext ρ H ρ (L2.upd H p o):=
 ⟨⟨[],by simp,λa b=>by cases b⟩,rfl,λa u e _=>by rw[L2.zM (L2.zY e c)];exact e,λa b=>by rw[L2.zM λz=>(h.new c).1 (by rw[<-z];exact b)]⟩
def HR.more(h:HR K mg ρ s H)(b:H p=none)o:HR K mg ρ s (L2.upd H p o):=by
 refine⟨h.f,h.l,λi c e=>?_,λa j=>?_⟩
 . obtain⟨a,m,r⟩:=h.g i c e
   obtain⟨u,k⟩:=r.there;exact⟨a,m,r.mv (Ext.new h b o).mv (L2.zM (L2.zY k b))⟩
 . obtain⟨⟨x,e⟩,n⟩:=h.d a j
   exact⟨⟨x,by rw[L2.zM (L2.zY e b)];exact e⟩,n⟩
noncomputable def Own.more(ρ:Own)(p:Addr):Own:=⟨ρ.o++[p],ρ.h⟩
def Ext.own(h:HR K mg ρ s H)(b:H p=none)o:Ext ρ H (ρ.more p) (L2.upd H p o):=
 ⟨⟨[p],rfl,λa c=>by rw[Al.mp c];exact b⟩,rfl,λa u e _=>by rw[L2.zM (L2.zY e b)];exact e,λa c=>by rw[L2.zM λz=>(h.new b).1 (by rw[<-z];exact c)]⟩
def qO(h:HR K mg ρ s H)p:(ρ.more p).o[s.length]?=some p:=by show (ρ.o++[p])[s.length]?=some p;rw[<-h.f,AW (Ad _)];simp
def HR.wJ(h:HR K mg ρ s H)(j:H p=none)(r:CR K mg (ρ.more p) (L2.upd H p o) p c):HR K mg (ρ.more p) (s++[c]) (L2.upd H p o):=by
 have X:=Ext.own h j o;refine⟨by show (ρ.o++[p]).length=_;rw[Aw,Aw,h.f];rfl,?_,λi w q=>?_,λa v=>?_⟩
 . show (ρ.o++[p]).Nodup
   rw[El];exact⟨h.l,by simp,λa v b x=>by rw[Al.mp x];intro z;subst z;exact(h.new j).1 v⟩
 . by_cases hi:i<s.length
   . rw[A0 hi]at q
     obtain⟨a,A,t⟩:=h.g i w q;obtain⟨u,e⟩:=t.there;exact⟨a,X.get A,t.mv X.mv (L2.zM (L2.zY e j))⟩
   . have m:i=s.length:=by have:=(Ar.mp q).1;rw[Aw]at this;simp at this;omega
     subst m;rw[AW (Ad _)]at q;simp at q;subst q;exact⟨p,qO h p,r⟩
 . obtain⟨⟨y,q⟩,n⟩:=h.d a v
   refine⟨⟨y,by rw[L2.zM (L2.zY q j)];exact q⟩,λk=>?_⟩
   rcases AS.mp k with k|k
   . exact n k
   . rw[Al.mp k,j]at q;cases q
theorem HR.own(h:HR K mg ρ s H)(a:H p=none)(r:RDs K mg ρ H vs xs):HR K mg (ρ.more p) (s++[.c vs]) (L2.upd H p (.b xs)):=h.wJ a ⟨xs,L2.zc,r.mono (Ext.own h a _)⟩
def Ext.lO(h:HR K mg ρ s H){i:Nat}(e:ρ.o[i]?=some a)(k:hk (some o)=hk (H a)):Ext ρ H ρ (L2.upd H a o):=
 ⟨⟨[],by simp,λa c=>by cases c⟩,rfl,λb u q n=>by rw[L2.zM (λz=>n (by rw[z];exact AD e))];exact q,λb f=>by
   by_cases z:b=a
   . subst z;rw[L2.zc];exact k
   . rw[L2.zM z]⟩
def Ext.write(h:HR K mg ρ s H){i:Nat}(e:ρ.o[i]?=some a)(k:H a=some (.b ys))xs:Ext ρ H ρ (L2.upd H a (.b xs)):=Ext.lO h e (by rw[k];rfl)
theorem HR.lO(h:HR K mg ρ s H)(e:ρ.o[i]?=some a)(k:hk (some o)=hk (H a))(r:CR K mg ρ (L2.upd H a o) a c):HR K mg ρ (s.set i c) (L2.upd H a o):=by
 have X:=Ext.lO h e k;refine⟨by rw[D4];exact h.f,h.l,λj w q=>?_,λb m=>?_⟩
 . skip
   by_cases hij:i=j
   . subst hij
     have v:i<s.length:=by rw[<-h.f];exact(Ar.mp e).1
     rw[B1 v]at q;cases q;exact⟨a,e,r⟩
   . rw[DJ hij]at q
     obtain⟨b,p,t⟩:=h.g j w q;refine⟨b,p,t.mv X.mv ?_⟩;have m:b≠a:=by intro z;subst z;exact hij (Zp h.l e p)
     rw[L2.zM m]
 . obtain⟨⟨y,q⟩,n⟩:=h.d b m
   exact⟨⟨y,by rw[L2.zM (λz=>n (by rw[z];exact AD e))];exact q⟩,n⟩
theorem HR.write(h:HR K mg ρ s H)(e:ρ.o[i]?=some a)(k:H a=some (.b ys))(r:RDs K mg ρ H vs xs):HR K mg ρ (upd s i vs) (L2.upd H a (.b xs)):=
 h.lO e (by rw[k];rfl) ⟨xs,L2.zc,r.mono (Ext.write h e k xs)⟩
theorem ER.mono(x:Ext ρ H ρ' H')(h:ER K mg ρ H env σ):ER K mg ρ' H' env σ:=⟨h.b,λi v e=>by obtain⟨u,f,c⟩:=h.a i v e;exact⟨u,f,c.mono x⟩⟩
theorem ER.set(h:ER K mg ρ H env σ)i(r:RD K mg ρ H v x):ER K mg ρ H (env.set i (some v)) (σ.set i (some x)):=by
 refine⟨by rw[D4,D4,h.b],λj w e=>?_⟩
 by_cases hij:i=j
 . subst hij
   by_cases hi:i<env.length
   . rw[B1 hi]at e
     cases e;exact⟨x,by rw[B1 (by rw[<-h.b];exact hi)],r⟩
   . rw[CV (by rw[D4];omega)]at e
     cases e
 . rw[DJ hij]at e
   rw[DJ hij];exact h.a j w e
end
section
variable (K:KF)(mg:Str->Option Value)
def yQ{c b:Type}(R:Own->L2.Hp->c->b->Prop)(f:Own)(H:L2.Hp)(o:Out c)(Q:b->L2.Hp->Prop):Prop:=
 match o with
 |.e v s'=>∀a x A,Ext f H a A->HR K mg a s' A->R a A v x->Q x A
 |_=>False
def tV(e:Env)(s:Sto)(o:Out Val):L2.TE:=λb H Q=>∃a,HR K mg a s H/\ER K mg a H e b/\yQ K mg (RD K mg) a H o Q
def tVs(e:Env)(s:Sto)(o:Out (List Val)):L2.TA:=λb H Q=>∃a,HR K mg a s H/\ER K mg a H e b/\yQ K mg (RDs K mg) a H o Q
def tT(e:Env)(s:Sto)(o:Out Bool):L2.TT:=λf H Q=>∃c,HR K mg c s H/\ER K mg c H e f/\yQ K mg (λ_ _ a b=>a=b) c H o Q
def tO(e:Env)(s:Sto)(o:Out (Option Int)):L2.TO:=λf H Q=>∃c,HR K mg c s H/\ER K mg c H e f/\yQ K mg (λ_ _ a b=>a=b) c H o Q
end
def zg(h:L2.PE X e t)(i:∀d H Q,t' d H Q->t d H Q):L2.PE X e t':=λp s d H Q I q=>h p s d H Q I (i d H Q q)
def m9(h:L2.PT X e t)(i:∀d H Q,t' d H Q->t d H Q):L2.PT X e t':=λp s d H Q I q=>h p s d H Q I (i d H Q q)
def Z8{t b:L2.TA}(h:L2.PA X es t)(i:∀d H Q,b d H Q->t d H Q):L2.PA X es b:=λa p s d H Q I q=>h a p s d H Q I (i d H Q q)
def wC{t a:L2.TS}(h:L2.PS X st t)(i:∀D d H,a D d H->t D d H):L2.PS X st a:=λp s d H D I q=>h p s d H D I (i D d H q)
def eH{t a:L2.TS}(h:L2.PSs X st t)(i:∀D d H,a D d H->t D d H):L2.PSs X st a:=λp s d H D I q=>h p s d H D I (i D d H q)
def Pe(h:∀d H Q,¬t d H Q):L2.PE X e t:=λp s d H Q I q=>(h d H Q q).elim
def Pn(h:∀d H Q,¬t d H Q):L2.PT X e t:=λp s d H Q I q=>(h d H Q q).elim
def Pp(h:∀d H Q,¬t d H Q):L2.PW X e t:=λw p s d H Q I q=>(h d H Q q).elim
def Pb{t:L2.TA}(h:∀d H Q,¬t d H Q):L2.PA X es t:=λa p s d H Q I q=>(h d H Q q).elim
def OM(h:∀v d,o≠.e v d):¬tV K mg env s o σ H Q:=by
 rintro ⟨a,_,_,w⟩;cases o with
 |e v d=>exact h v d rfl
 |_=>exact w
def Ri(h:∀v d,o≠.e v d):¬tVs K mg env s o σ H Q:=by
 rintro ⟨a,_,_,w⟩;cases o with
 |e v d=>exact h v d rfl
 |_=>exact w
def Ub(h:∀v d,o≠.e v d):¬tT K mg env s o σ H Q:=by
 rintro ⟨a,_,_,w⟩;cases o with
 |e v d=>exact h v d rfl
 |_=>exact w
def yS:zP=AI:=by rw[AX];rfl
section
variable {K:KF}{mg:Str->Option Value}{ρ ρ':Own}{H H':L2.Hp}{s s':Sto}
def y8(g:HR K mg ρ s H)(r:RD K mg ρ H v x)(e:z0 s v=some vs):∃a d,x=.c a/\H a=some (.b d)/\RDs K mg ρ H vs d:=by
 cases r with
 |D n h q=>cases e;exact⟨_,_,rfl,h,q⟩
 |@C a i h _=>
  simp only[z0]at e;split at e
  . rename_i ws hw
    cases e;obtain⟨b,d,f,j,q⟩:=g.obj i _ hw;rw[h]at f;cases f;exact⟨_,_,rfl,j,q⟩
  . cases e
 |_=>cases e
def lG(g:HR K mg ρ s H)(r:RD K mg ρ H v x)(e:xB s v=some vs):∃a d,x=.c a/\(L2.SqL K H a d\/L2.SqT K H a d)/\RDs K mg ρ H vs d:=by
 cases r with
 |D n h q=>cases e;exact⟨_,_,rfl,.inl (.of h),q⟩
 |m n h q=>cases e;exact⟨_,_,rfl,.inr (.of h),q⟩
 |s h=>cases e;exact⟨_,_,rfl,.inr h.sqt,RDs.ints _⟩
 |F h=>cases e;exact⟨_,_,rfl,.inl h.sql,RDs.ints _⟩
 |@C a i h _=>
  simp only[xB]at e;split at e
  . rename_i ws hw
    cases e;obtain⟨b,d,f,j,q⟩:=g.obj i _ hw;rw[h]at f;cases f;exact⟨_,_,rfl,.inl (.of j),q⟩
  . cases e
 |_=>cases e
mutual
theorem RD.reads{P:Program}{w:World}{h:Heap}(L:L2.HOk P w H h){v:Val}{x:L2.V}{u:Value}(q:RD K mg ρ H v x)(f:v.isR=true)(r:L2.RelV x u):∃M,Reads h u v.d M/\(L2.xk v.d=false->C0 ∉ M):=by
 cases q with
 |p=>cases (show u=Af from r);exact⟨[],.none,λ_=>by simp⟩
 |j b=>cases (show u=D0 b from r);exact⟨[],.bool b,λ_=>by simp⟩
 |l i=>obtain⟨t,q⟩:=(show ∃t,u=Dr i t from r);cases q;exact⟨[],.int i t,λ_=>by simp⟩
 |E x=>obtain⟨t,q⟩:=(show ∃t,u=II x t from r);cases q;exact⟨[],.str x t,λ_=>by simp⟩
 |@D a vs xs n N Q=>
  cases (show u=Bk a from r);obtain⟨z,R,n,g,e⟩:=(show L2.z7 P w H h a (.b xs) from L a _ N);obtain⟨M,q,_⟩:=RDs.reads L Q (by simpa only[Val.isR] using f) g
  exact⟨a::M,.list e rfl rfl (by simpa using q),λz=>by simp[Val.d,L2.xk]at z⟩
 |@m a vs xs n N Q=>
  cases (show u=Bk a from r);obtain⟨z,R,g,o,e,c,n,X⟩:=(show L2.z7 P w H h a (.c xs) from L a _ N);obtain⟨M,q,S⟩:=RDs.reads L Q (by simpa only[Val.isR] using f) g
  exact⟨M,.tuple e c X.1 (by simpa using q),λz=>S (by simpa [Val.d,L2.xk] using z)⟩
 |@B a n N=>
  cases (show u=Bk a from r);obtain⟨z,y,vs,g,o,O,U,e,c,X,k⟩:=(show L2.z7 P w H h a (.j []) from L a _ N);cases g;have T:O=#[]:=by
   have Z:=k.2.1;cases hl:O.toList with
   |nil=>simpa using hl
   |cons a r=>rw[hl]at Z;cases Z
  subst T;refine⟨[a]++[],Reads.dict (as:=[]) (bs:=[]) e c.1 X .nil .nil,λ_=>?_⟩;have:a≠C0:=by simpa using y
  simpa using Co this
 |s _=>cases f
 |F _=>cases f
 |C _ _=>cases f
 |A _ _=>cases f
 |G _ _=>cases f
 |I _=>cases f
 |J _=>cases f
theorem RDs.reads{P:Program}{w:World}{h:Heap}(o:L2.HOk P w H h){v:List Val}{x:List L2.V}{u:List Value}(p:RDs K mg ρ H v x)(c:mW v=true)(q:L2.Vals x u):∃e,ReadsAll h u (ds v) e/\(L2.xJ (ds v)=false->C0 ∉ e):=by
 cases p with
 |d=>cases q;exact⟨[],.nil,λ_=>by simp⟩
 |a r f=>
  cases q with
  |cons i g=>
   rw[mW,ub]at c;obtain⟨e,m,l⟩:=RD.reads o r c.1 i;obtain⟨n,k,j⟩:=RDs.reads o f c.2 g;refine⟨e++n,.cons m k,λz=>?_⟩;rw[ds,L2.xJ,EM]at z;intro b;rcases AS.mp b with b|b
   . exact l z.1 b
   . exact j z.2 b
end
def sF(o:L2.HOk P w H h)(p:HR K mg ρ s H)(c:(yh s v).isR=true)(r:RD K mg ρ H v x)(f:L2.RelV x u) :
 ∃F,Reads h u (yh s v).d F/\(L2.xk (yh s v).d=false->C0 ∉ F):=by
 cases v with
 |j i=>
  cases r with
  |@C a _ y=>
  simp only[yh]at c ⊢;split at c
  . rename_i ws hw
    obtain⟨b,k,g,t,q⟩:=p.obj i _ hw;rw[y]at g;cases g;cases (show u=Bk a from f);obtain⟨z,m,n,l,e⟩:=(show L2.z7 P w H h a (.b k) from o a _ t);obtain⟨F,q,_⟩:=RDs.reads o q (by simpa only[Val.isR] using c) l
    exact⟨a::F,.list e rfl rfl (by simpa using q),λz=>by simp[Val.d,L2.xk]at z⟩
  . cases c
 |_=>exact RD.reads o r c f
theorem RDs.Yc(o:L2.HOk P w H h)(c:HR K mg ρ s H):∀{vs} {xs} {us},RDs K mg ρ H vs xs->mW (vs.map (yh s))=true->L2.Vals xs us->∃e,ReadsAll h us (ds (vs.map (yh s))) e/\(L2.xJ (ds (vs.map (yh s)))=false->C0 ∉ e)
 |_,_,_,.d,_,r=>by cases r;exact⟨[],.nil,λ_=>by simp⟩
 |_,_,_,.a r rs,hv,q=>by
  cases q with
  |cons F u=>
   rw[AG,mW,ub]at hv;obtain⟨e,O,M⟩:=sF o c hv.1 r F;obtain⟨i,g,f⟩:=RDs.Yc o c rs hv.2 u;rw[AG];refine⟨e++i,.cons O g,λz=>?_⟩;rw[ds,L2.xJ,EM]at z;intro b;rcases AS.mp b with b|b
   . exact M z.1 b
   . exact f z.2 b
def aO{v:Val}(h:∀d,v≠.f d):zy s v=yh s v:=by
 cases v<;>first|rfl|exact absurd rfl (h _)
def xT(b:L2.HOk P w H h)(j:HR K mg ρ s H)(g:(zy s v).isR=true)(r:RD K mg ρ H v x)(i:L2.RelV x u) :
 ∃F,Reads h u (zy s v).d F/\(L2.xk (zy s v).d=false->C0 ∉ F):=by
 cases v with
 |f vs=>
  cases r with
  |@m a _ xs n y l=>
   cases (show u=Bk a from i);obtain⟨z,t,k,o,e,c,n,A⟩:=(show L2.z7 P w H h a (.c xs) from b a _ y);obtain⟨F,q,p⟩:=RDs.Yc b j l (by simpa only[zy,Val.isR] using g) k
   exact⟨F,.tuple e c A.1 (by simpa using q),λz=>p (by simpa [zy,Val.d,L2.xk] using z)⟩
 |_=>exact(show _ from by rw[aO (λ_ h=>by cases h)]at g ⊢;exact sF b j g r i)
mutual
theorem yR:∀{v:Val},v.isD=true->v.isR=true
 |.h,_=>rfl
 |.e _,_=>rfl
 |.c _,_=>rfl
 |.m _,_=>rfl
 |.f vs,h=>by rw[Val.isR];exact vh (by simpa only[Val.isD] using h)
 |.g vs,h=>by rw[Val.isR];exact vh (by simpa only[Val.isD] using h)
 |.p,h=>by cases h
 |.o _,h=>by cases h
 |.r _,h=>by cases h
 |.j _,h=>by cases h
 |.u _,h=>by cases h
 |.t _,h=>by cases h
theorem vh:∀{d:List Val},ux d=true->mW d=true
 |[],_=>rfl
 |v::d,h=>by rw[ux,ub]at h;rw[mW,yR h.1,vh h.2];rfl
end
mutual
theorem zj:∀{v:Val},v.isD=true->v.d.canLay0=true
 |.h,_=>rfl
 |.e _,_=>rfl
 |.c _,_=>rfl
 |.m _,h=>by simpa only[Val.isD,Val.d,Io] using h
 |.f vs,h=>by rw[Val.d,Io];exact xY (by simpa only[Val.isD] using h)
 |.g vs,h=>by rw[Val.d,Io];exact xY (by simpa only[Val.isD] using h)
 |.p,h=>by cases h
 |.o _,h=>by cases h
 |.r _,h=>by cases h
 |.j _,h=>by cases h
 |.u _,h=>by cases h
 |.t _,h=>by cases h
theorem xY:∀{d:List Val},ux d=true->PyData.canLayAll0 (ds d)=true
 |[],_=>rfl
 |v::d,h=>by rw[ux,ub]at h;rw[ds,PyData.canLayAll0,zj h.1,xY h.2];rfl
end
def xn(h:HR K mg ρ s H)(r:RDs K mg ρ H vs xs)(w:yQ K mg (RD K mg) ρ H (newList m vs s) Q):∀p,H p=none->Q (.c p) (L2.upd H p (.b xs)):=λp a=>by
 cases m with
 |true=>exact w _ _ _ (Ext.own h a _) (h.own a r) (.C (qO h p) (by rw[L2.zc];rfl))
 |false=>exact w _ _ _ (Ext.new h a _) (h.more a _) (.D (h.new a) L2.zc (r.mono (Ext.new h a _)))
def ml(h:HR K mg ρ s H)(r:RDs K mg ρ H vs xs)(w:yQ K mg (RD K mg) ρ H (.e (.f vs) s) Q):∀p,H p=none->Q (.c p) (L2.upd H p (.c xs)):=λp a=>
 w _ _ _ (Ext.new h a _) (h.more a _) (.m (h.new a) L2.zc (r.mono (Ext.new h a _)))
def Ext.same(c:HR K mg ρ s H)(e:L2.rB H H'):Ext ρ H ρ H':=⟨⟨[],by simp,λa b=>by cases b⟩,rfl,λa o h _=>e a o h,λa b=>by obtain⟨o,q⟩:=c.trk b;rw[q,e a o q]⟩
theorem HR.same(h:HR K mg ρ s H)(e:L2.rB H H'):HR K mg ρ s H':=⟨h.f,h.l,λi c q=>by
 obtain⟨a,k,r⟩:=h.g i c q;obtain⟨o,b⟩:=r.there;exact⟨a,k,r.mv (Ext.same h e).mv ((e a _ b).trans b.symm)⟩,λa j=>by
 obtain⟨⟨y,q⟩,n⟩:=h.d a j;exact⟨⟨y,e a _ q⟩,n⟩⟩
def uG(c:HR K mg ρ s H)(r:RDs K mg ρ H vs xs)(w:yQ K mg (RD K mg) ρ H (.e (.f vs) s) Q):L2.rX H xs Q:=λp H' e h=>by
 have a:=c.same e;refine w _ _ _ (Ext.same c e) a (.m ⟨λj=>?_,λj=>?_⟩ h (r.mono (Ext.same c e)))
 . obtain⟨i,k,q⟩:=Bz j
   have n:i<s.length:=by rw[<-a.f];exact k
   obtain⟨b,l,o⟩:=a.g i _ (dS n);rw[dS k,q]at l;cases l;have:=o.hk;rw[h]at this;exact absurd this (BX 0)
 . obtain⟨⟨y,q⟩,_⟩:=a.d _ j
   rw[h]at q;cases y<;>cases q
end
section
variable (K:KF)(mg:Str->Option Value)
def rM2(g:Val->Val->Sto->Out Val):L2.R2:=λx y H Q=>∃a s v w,HR K mg a s H/\RD K mg a H v x/\RD K mg a H w y/\yQ K mg (RD K mg) a H (g v w s) Q
def rMc(g:List Val->Sto->Out Val):List L2.V->L2.Hp->L2.VK->Prop:=λx H Q=>∃a s v,HR K mg a s H/\RDs K mg a H v x/\yQ K mg (RD K mg) a H (g v s) Q
end
def zH(h:HR K mg ρ s H)(r:RD K mg ρ H v x)(w:yQ K mg (RD K mg) ρ H (.e v s) Q):Q x H:=w _ _ _ Ext.refl h r
def il m:L2.OpR X (B2 .Add) (rM2 X.K X.d (binOp m .a)):=by
 intro p s g H x y v u Q I i r h;obtain⟨o,t,a,b,c,k,j,w⟩:=h;simp only[binOp]at w;split at w
 . cases k;cases j
   exact L2.Si p s g H _ _ v u Q I i r ⟨_,_,rfl,rfl,zH c (.l _) w⟩
 . split at w
   . rename_i hz
     cases k;cases j;exact L2.ik p s g H _ _ v u Q I i r ⟨_,_,rfl,rfl,by rw[<-yS];exact hz,zH c (.E _) w⟩
   . exact w.elim
 . split at w
   . rename_i hz
     cases k with
     |m D n f=>
      cases j with
      |m C h2 q=>
       refine L2.Zz p s g H _ _ v u Q I i r ⟨_,_,_,_,rfl,rfl,n,h2,?_,uG c (f.append q) w⟩;rw[<-f.length,<-q.length,<-yS];exact hz
   . exact w.elim
 . split at w
   . rename_i ea eb
     split at w
     . rename_i hz
       obtain⟨B,e,rfl,n,f⟩:=y8 c k ea;obtain⟨A,z,rfl,h2,q⟩:=y8 c j eb;refine L2.Sk p s g H _ _ v u Q I i r ⟨_,_,_,_,rfl,rfl,n,h2,?_,xn c (f.append q) w⟩;rw[<-f.length,<-q.length,<-yS];exact hz
     . exact w.elim
   . exact w.elim
def iu m:L2.OpR X (B2 .Sub) (rM2 X.K X.d (binOp m .c)):=by
 intro p s f H x y v u Q I g r h;obtain⟨n,t,a,b,k,j,i,w⟩:=h;simp only[binOp]at w;split at w
 . cases j;cases i
   exact L2.Su p s f H _ _ v u Q I g r ⟨_,_,rfl,rfl,zH k (.l _) w⟩
 . exact w.elim
def iq m:L2.OpR X (B2 .Mult) (rM2 X.K X.d (binOp m .b)):=by
 intro p s f H x y v u Q I g r h;obtain⟨B,t,a,b,c,j,i,w⟩:=h;simp only[binOp]at w;split at w
 . split at w
   . rename_i hz
     cases j;cases i;exact L2.Sq p s f H _ _ v u Q I g r ⟨_,_,rfl,rfl,hz,zH c (.l _) w⟩
   . exact w.elim
 . split at w
   . rename_i hz
     obtain⟨o,n,z,A⟩:=hz;cases j with
     |m E k q=>
      cases i;refine L2.W7 p s f H _ _ v u Q I g r ⟨_,_,_,rfl,rfl,k,o,n,?_,?_,uG c (q.rep _) w⟩
      . intro e;subst e;cases q;exact z rfl
      . rw[<-q.length];exact A
   . exact w.elim
 . split at w
   . rename_i ea
     split at w
     . rename_i hz
       obtain⟨o,n,z⟩:=hz;obtain⟨D,C,rfl,k,q⟩:=y8 c j ea;cases i;refine L2.Ss p s f H _ _ v u Q I g r ⟨_,_,_,rfl,rfl,k,⋯,⋯,?_,xn c (q.rep _) w⟩
       rw[<-q.length,<-yS];exact z
     . exact w.elim
   . exact w.elim
 . exact w.elim
def kr m:L2.OpR X (B2 .FloorDiv) (rM2 X.K X.d (binOp m .d)):=by
 intro p s c H x y v u Q I f r h;obtain⟨k,t,a,b,j,i,g,w⟩:=h;simp only[binOp]at w;split at w
 . split at w
   . rename_i hz
     cases i;cases g;exact L2.W5 p s c H _ _ v u Q I f r ⟨_,_,rfl,rfl,hz,zH j (.l _) w⟩
   . exact w.elim
 . exact w.elim
def ip m:L2.OpR X (B2 .Mod) (rM2 X.K X.d (binOp m .f)):=by
 intro p s c H x y v u Q I g r h;obtain⟨n,t,a,b,k,j,i,w⟩:=h;simp only[binOp]at w;split at w
 . split at w
   . rename_i hz
     cases j;cases i;exact L2.So p s c H _ _ v u Q I g r ⟨_,_,rfl,rfl,hz,zH k (.l _) w⟩
   . exact w.elim
 . exact w.elim
def ir m:L2.OpR X (B2 .Pow) (rM2 X.K X.d (binOp m .g)):=by
 intro p s c H x y v u Q I f r h;obtain⟨n,t,a,b,k,j,i,w⟩:=h;simp only[binOp]at w;split at w
 . split at w
   . rename_i hz
     cases j;cases i;exact L2.Sr p s c H _ _ v u Q I f r ⟨_,_,rfl,rfl,hz,zH k (.l _) w⟩
   . exact w.elim
 . exact w.elim
end M
end
section
namespace L2
open PySem PyProof PyProof.Rows
section
variable {κ:Type} [DecidableEq κ]
theorem KV.length{k:List (κ × V)}{v:List (κ × Value)}(r:KV k v):k.length=v.length:=Iy r
end
def Inv.big(I:Inv X pins σ H s):C0<s.heap.objs.size:=by have h:Bt<s.heap.objs.size:=(I.mod.a.keeps I.bk).lt;exact Nat.lt_trans (by decide) h
def aP(h:Heap)(a:C0<h.objs.size):z7 P w H (h.push {cls:=.type "dict",data:=.dict #[]}) h.objs.size (.j []):=
 ⟨AV _,beq_eq_false_iff_ne.mpr (Co (Ay a)),[],.nil,Heap.DictOf.new h⟩
def aR(h:Heap)(a:C0<h.objs.size):z7 P w H (h.push {cls:=.type "dict",data:=.dict #[]}) h.objs.size (.k []):=
 ⟨AV _,beq_eq_false_iff_ne.mpr (Co (Ay a)),[],.nil,_,#[],0,Az _ rfl,⟨rfl,rfl,rfl⟩,rfl,rfl,Il⟩
def Rf:TE:=λ_ H Q=>∀p,H p=none->Q (.c p) (upd H p (.j []))
def Rg:TE:=λ_ H Q=>∀p,H p=none->Q (.c p) (upd H p (.k []))
def YC:PE X (.Dict [] [] pos) Rf:=λp s b H Q I h=>
 wpAny_Dict_empty ⟨.c s.heap.objs.size,_,I.laid (a:=s.heap.objs.size) (o:=.j []) (t':=s.toks) (λ_ _ q=>xd _ q) (Ad _) (aP s.heap I.big),rfl,h _ (I.j.fresh (Ad _))⟩
def YD:PE X (.Dict [] [] pos) Rg:=λp s b H Q I h=>
 wpAny_Dict_empty ⟨.c s.heap.objs.size,_,I.laid (a:=s.heap.objs.size) (o:=.k []) (t':=s.toks) (λ_ _ q=>xd _ q) (Ad _) (aR s.heap I.big),rfl,h _ (I.j.fresh (Ad _))⟩
end L2
end
section
namespace M
open PySem
section
variable {K:KF}{mg:Str->Option Value}{ρ ρ':Own}{H H':L2.Hp}{s s':Sto}
theorem RD.flat{v:Val}{x:L2.V}(r:RD K mg ρ H v x)(h:flat v=true):L2.vB x=true:=by
 cases r<;>first|rfl|cases h
theorem RD.eqF(r:RD K mg ρ H v x)(q:RD K mg ρ H w y)(h:M.flat v=true)(a:M.flat w=true):L2.eqV x y=M.eqF v w:=by
 cases r<;>first|(cases h;done)|(cases q<;>first|rfl|(cases a;done))
theorem RDs.flat:∀{e:List Val} {xs:List L2.V},RDs K mg ρ H e xs->e.all flat=true->xs.all L2.vB=true
 |_,_,.d,_=>rfl
 |_,_,.a r rs,h=>by rw[Dh,ub]at h;rw[Dh,r.flat h.1,rs.flat h.2];rfl
theorem RDs.any(q:RD K mg ρ H w y)(b:M.flat w=true):∀{vs} {xs},RDs K mg ρ H vs xs->vs.all M.flat=true->(xs.any λz=>L2.eqV z y)=vs.any λz=>M.eqF z w
 |_,_,.d,_=>rfl
 |_,_,.a r rs,h=>by rw[Dh,ub]at h;rw[DZ,DZ,r.eqF q h.1 b,RDs.any q b rs h.2]
theorem RDs.countP(q:RD K mg ρ H w y)(b:M.flat w=true):∀{vs} {xs},RDs K mg ρ H vs xs->vs.all M.flat=true->(xs.countP λz=>L2.eqV z y)=vs.countP λz=>M.eqF z w
 |_,_,.d,_=>rfl
 |_,_,.a r rs,h=>by rw[Dh,ub]at h;rw[EH,EH,r.eqF q h.1 b,RDs.countP q b rs h.2]
theorem RDs.bools:∀{vs} {xs} {bs},RDs K mg ρ H vs xs->boolsOf vs=some bs->xs=bs.map L2.V.e
 |_,_,_,.d,h=>by cases h;rfl
 |_,_,_,.a r rs,h=>by
  cases r with
  |j b=>
   simp only[boolsOf,AB]at h;obtain⟨F,w,u⟩:=h;subst u;rw[rs.bools w];rfl
  |_=>cases h
theorem RDs.pB:∀{vs} {xs} {ns},RDs K mg ρ H vs xs->intsOf vs=some ns->xs=ns.map L2.V.d
 |_,_,_,.d,h=>by cases h;rfl
 |_,_,_,.a r rs,h=>by
  cases r with
  |l b=>
   simp only[intsOf,AB]at h;obtain⟨w,u,e⟩:=h;subst e;rw[rs.pB u];rfl
  |_=>cases h
def Xm(r:RDs K mg ρ H vs xs)(h:L2.atI vs i=some v):∃x,L2.atI xs i=some x/\RD K mg ρ H v x:=by unfold L2.atI at h ⊢;rw[<-r.length];obtain⟨j,f,c⟩:=Fp.mp h;obtain⟨x,b,a⟩:=r.get c;exact⟨x,by rw[f];exact b,a⟩
def XO(o:HR K mg ρ s H)(r:RD K mg ρ H v x)(h:truth s v=some b):L2.Xf K x H b:=by
 have f:∀{g:List Val} {xs:List L2.V},RDs K mg ρ H g xs->g.isEmpty=xs.isEmpty:=λr=>by cases r<;>rfl
 cases r with
 |p=>cases h;rfl
 |j b=>cases h;rfl
 |l i=>cases h;rfl
 |E x=>
  simp only[truth]at h;split at h
  . cases h
    rename_i q;exact⟨by rw[<-yS];exact q,rfl⟩
  . cases h
 |m n e q=>cases h;exact .inr (.inl ⟨_,.of e,by rw[f q]⟩)
 |D n e q=>cases h;exact .inl ⟨_,.of e,by rw[f q]⟩
 |B n e=>cases h;exact .inr (.inr ⟨_,e,rfl⟩)
 |s _=>cases h
 |F _=>cases h
 |@C a i e _=>
  simp only[truth]at h;split at h
  . rename_i ws hw
    cases h;obtain⟨c,xs,k,t,q⟩:=o.obj i _ hw;rw[e]at k;cases k;exact .inl ⟨_,.of t,by rw[f q]⟩
  . cases h
 |I _=>cases h
 |J _=>cases h
 |A _ _=>cases h
 |G _ _=>cases h
def OO(t:HR K mg ρ s H)(r:RD K mg ρ H v x)(h:kindOf v=some a):(L2.t6 K H x (.type a.nm)):=by
 cases r with
 |p=>cases h;exact .d
 |j b=>cases h;exact .bl b
 |l i=>cases h;exact .c i
 |E x=>cases h;exact .f x
 |m n e q=>cases h;exact .g e
 |D n e q=>cases h;exact .b e
 |B n e=>cases h;exact .dK e
 |C e k=>
  cases h;obtain⟨o,q⟩:=mV k;exact .b q
 |_=>cases h
def Qr(h:rK n=some c):n=c.nm/\c≠.e:=by unfold rK at h;split at h<;>first|(cases h;exact⟨rfl,by decide⟩)|cases h
end
section
variable {X:L2.Cx}{k:Nat}
def cG(m:L2.xD k X.A):L2.OpR X (Bc .Eq) (rM2 X.K X.d (zO .d)):=by
 intro l s N H x y v u Q I z r h;obtain⟨J,t,a,b,i,C,B,w⟩:=h;simp only[zO,qm]at w;split at w
 . rename_i p q
   cases C;cases B;have e:decide (L2.V.g p=L2.V.g q)=decide (p=q):=by rw[BN];simp
   refine L2.Q6 l s N H _ _ v u Q I z r ⟨rfl,?_⟩;rw[e];exact zH i (.j _) w
 . rename_i a ns
   cases B with
   |s g=>
    by_cases hc:((zy t (.f a)).isD&&(Val.f (ns.map .c)).isD&&decide ((Val.f (ns.map .c)).d.depth<=60))=true
    . rw[if_pos hc]at w
      simp only[ub,decide_eq_true_eq]at hc;obtain⟨S,E,_⟩:=xT I.j i (yR hc.1.1) C z;obtain⟨T,P,R,_⟩:=I.tuple g.sqt;obtain⟨o,F,G,n,O⟩:=id R;obtain⟨L,q,_⟩:=RDs.reads I.j (RDs.ints (K:=X.K) (mg:=X.d) (ρ:=J) (H:=H) ns) (yR hc.1.2) P;have D:Reads s.heap u (Val.f (ns.map .c)).d L:=by cases r;exact .tuple F G O (by simpa using q)
      have Z:=m.a;have M:=EE (zy t (.f a)).d.depth (Val.f (ns.map .c)).d.depth;exact SeqAt.compareEq_reads E D (zj hc.1.1) (zj hc.1.2) ⋯ ⟨.e _,H,I,rfl,zH i (.j _) w⟩
    . rw[if_neg hc]at w;exact w.elim
 . by_cases hc:((zy t a).isD&&(zy t b).isD&&decide ((zy t b).d.depth<=60))=true
   . rw[if_pos hc]at w
     simp only[ub,decide_eq_true_eq]at hc;obtain⟨S,E,_⟩:=xT I.j i (yR hc.1.1) C z;obtain⟨L,D,_⟩:=xT I.j i (yR hc.1.2) B r;have Z:=m.a;have M:=EE (zy t a).d.depth (zy t b).d.depth;exact SeqAt.compareEq_reads E D (zj hc.1.1) (zj hc.1.2) ⋯ ⟨.e _,H,I,rfl,zH i (.j _) w⟩
   . rw[if_neg hc]at w;exact w.elim
def cV(i:L2.xD k X.A):L2.OpR X (Bc .NotEq) (rM2 X.K X.d (zO .b)):=by
 intro c s o H x y v u Q I l r h;obtain⟨C,t,a,b,f,n,m,w⟩:=h;simp only[zO,qm]at w;split at w
 . rename_i p q
   cases n;cases m;have e:decide (L2.V.g p=L2.V.g q)=decide (p=q):=by rw[BN];simp
   refine L2.PD c s o H _ _ v u Q I l r ⟨rfl,?_⟩;rw[e];exact zH f (.j _) w
 . by_cases hc:((zy t a).isD&&(zy t b).isD&&decide ((zy t b).d.depth<=60))=true
   . rw[if_pos hc]at w
     simp only[ub,decide_eq_true_eq]at hc;obtain⟨J,B,_⟩:=xT I.j f (yR hc.1.1) n l;obtain⟨G,z,_⟩:=xT I.j f (yR hc.1.2) m r;have D:=i.a;have E:=EE (zy t a).d.depth (zy t b).d.depth;exact SeqAt.compareNe_reads B z (zj hc.1.1) (zj hc.1.2) ⋯ ⟨.e _,H,I,rfl,zH f (.j _) w⟩
   . rw[if_neg hc]at w;exact w.elim
def RD.isNone(r:RD K mg ρ H v x):decide (x=.f)=v.isN:=by
 cases r<;>first|rfl|exact decide_eq_false (λz=>nomatch z)
def cQ:L2.OpR X (Bc .Is) (rM2 X.K X.d (zO .m)):=by
 intro f s l H x y v u Q I g r h;obtain⟨o,t,a,b,k,i,n,w⟩:=h;cases n with
 |p=>
  refine L2.Sn f s l H _ _ v u Q I g r ⟨rfl,?_⟩;rw[i.isNone];exact zH k (.j _) w
 |j c=>
  cases i with
  |j d=>cases g;cases r;cases c<;>cases d<;>exact Ab ⟨.e _,H,I,rfl,zH k (.j _) w⟩
  |_=>exact w.elim
 |_=>exact w.elim
def mq:L2.OpR X (Bc .IsNot) (rM2 X.K X.d (zO .e)):=by
 intro f s l H x y v u Q I g r h;obtain⟨n,t,a,b,k,i,m,w⟩:=h;cases m with
 |p=>
  refine L2.W6 f s l H _ _ v u Q I g r ⟨rfl,?_⟩;rw[i.isNone];exact zH k (.j _) w
 |j c=>
  cases i with
  |j d=>cases g;cases r;cases c<;>cases d<;>exact Ab ⟨.e _,H,I,rfl,zH k (.j _) w⟩
  |_=>exact w.elim
 |_=>exact w.elim
theorem vF:∀{vs} {v},ux vs=true->v∈vs->v.isD=true
 |w::vs,v,h,m=>by
  rw[ux,ub]at h;rcases Ao.mp m with rfl|m
  . exact h.1
  . exact vF h.2 m
def mM{g:Val->Bool}(q:RDs K mg ρ H vs xs)(r:L2.Vals xs its)
 (v:∀z x w,z∈vs->RD K mg ρ H z x->L2.RelV x w->Br A s w u (g z)):∃f:Value->Bool,(∀w∈its.toArray,Br A s w u (f w))/\its.toArray.any f=vs.any g:=by
 classical
 have o:∀i w,its[i]?=some w->∃z x,vs[i]?=some z/\RD K mg ρ H z x/\L2.RelV x w:=λi w e=>by
  have b:i<xs.length:=by rw[r.length];exact(Ar.mp e).1
  have t:xs[i]?=some xs[i]:=dS b;obtain⟨D,y,a⟩:=r.get t;rw[e]at y;cases y;obtain⟨z,n,k⟩:=q.QV t;exact⟨z,_,n,k,a⟩
 refine⟨λw=>decide (∃(i:Nat) (z:Val),its[i]?=some w/\vs[i]?=some z/\g z=true),λw B=>?_,?_⟩
 . obtain⟨i,b⟩:=DQ (by simpa using B:w∈its)
   by_cases hd:∃(i:Nat) (z:Val),its[i]?=some w/\vs[i]?=some z/\g z=true
   . dsimp only;rw[decide_eq_true hd]
     obtain⟨j,z,n,c,m⟩:=hd;obtain⟨C,x,l,k,a⟩:=o j w n;rw[c]at l;cases l;rw[<-m];exact v z x w (AD c) k a
   . dsimp only;rw[decide_eq_false hd]
     obtain⟨z,x,l,k,a⟩:=o i w b;have p:g z=false:=by
      cases p:g z with
      |false=>rfl
      |true=>exact(hd ⟨i,z,b,l,p⟩).elim
     rw[<-p];exact v z x w (AD l) k a
 . rw[BN,Array.any_toList.symm,CP,CP]
   constructor
   . rintro ⟨w,_,h⟩
     obtain⟨i,z,_,c,m⟩:=of_decide_eq_true h;exact⟨z,AD c,m⟩
   . rintro ⟨z,d,m⟩
     obtain⟨i,b⟩:=DQ d;obtain⟨x,n,_⟩:=q.get b;obtain⟨w,c,_⟩:=r.get n;exact⟨w,AD c,decide_eq_true ⟨i,z,c,b,m⟩⟩
def eqD(k:A.units+60<cLine)(o:L2.HOk P w H s.heap)(g:RD K mg ρ H a x)(f:L2.RelV x v)(b:a.isD=true)(m:a.d.depth<=60)
 (r:RD K mg ρ H z y) (c:L2.RelV y u) (h:z.isD=true):Br A s u v (Cb z.d a.d):=by
 obtain⟨p,j,_⟩:=RD.reads o g (yR b) f;obtain⟨n,i,_⟩:=RD.reads o r (yR h) c;have l:=EE z.d.depth a.d.depth;exact SeqAt.eqAt_reads _ _ _ _ _ _ _ _ i j (zj h) (zj b) ⋯
def cP(G:L2.xD k X.A):L2.OpR X (Bc .In) (rM2 X.K X.d (zO .h)):=by
 intro l s P H x y v u Q I C N h;obtain⟨F,t,a,b,o,n,Z,w⟩:=h;simp only[zO]at w;split at w
 . rename_i vs e
   obtain⟨p,R,rfl,i,q⟩:=lG o Z e;split at w
   . rename_i hf
     rw[ub]at hf;refine L2.cW l s P H _ _ v u Q I C N ⟨p,R,rfl,i,n.flat hf.1,q.flat hf.2,?_⟩;simp only[L2.inV,As,if_false];rw[RDs.any n hf.1 q hf.2];exact zH o (.j _) w
   . split at w
     . rename_i hf
       simp only[inD,ub,decide_eq_true_eq]at hf;have M:=G.a;cases N;rcases i with i|i
       . obtain⟨E,r,D,m⟩:=I.list i
         obtain⟨f,L,J⟩:=mM (A:=X.A.in1) (s:=s) (u:=v) (g:=λz=>Cb z.d a.d) q r λz T V m B c=>eqD (show X.A.units+1+60<cLine by omega) I.j n C hf.1.1 hf.2 B c (vF hf.1.2 m)
         exact SeqAt.in_listAt f D.isList L ⟨.e _,H,I,rfl,by rw[J];exact zH o (.j _) w⟩
       . obtain⟨E,r,D,m⟩:=I.tuple i
         obtain⟨f,L,J⟩:=mM (A:=X.A.in1) (s:=s) (u:=v) (g:=λz=>Cb z.d a.d) q r λz T V m B c=>eqD (show X.A.units+1+60<cLine by omega) I.j n C hf.1.1 hf.2 B c (vF hf.1.2 m)
         exact SeqAt.in_tupleAt f D L ⟨.e _,H,I,rfl,by rw[J];exact zH o (.j _) w⟩
     . exact w.elim
 . exact w.elim
def mw(G:L2.xD k X.A):L2.OpR X (Bc .NotIn) (rM2 X.K X.d (zO .a)):=by
 intro l s P H x y v u Q I C N h;obtain⟨F,t,a,b,o,n,Z,w⟩:=h;simp only[zO]at w;split at w
 . rename_i vs e
   obtain⟨p,R,rfl,i,q⟩:=lG o Z e;split at w
   . rename_i hf
     rw[ub]at hf;refine L2.mz l s P H _ _ v u Q I C N ⟨p,R,rfl,i,n.flat hf.1,q.flat hf.2,?_⟩;simp only[L2.inV,if_true];rw[RDs.any n hf.1 q hf.2];exact zH o (.j _) w
   . split at w
     . rename_i hf
       simp only[inD,ub,decide_eq_true_eq]at hf;have M:=G.a;cases N;rcases i with i|i
       . obtain⟨E,r,D,m⟩:=I.list i
         obtain⟨f,L,J⟩:=mM (A:=X.A.in1) (s:=s) (u:=v) (g:=λz=>Cb z.d a.d) q r λz T V m B c=>eqD (show X.A.units+1+60<cLine by omega) I.j n C hf.1.1 hf.2 B c (vF hf.1.2 m)
         exact SeqAt.notIn_listAt f D.isList L ⟨.e _,H,I,rfl,by rw[J];exact zH o (.j _) w⟩
       . obtain⟨E,r,D,m⟩:=I.tuple i
         obtain⟨f,L,J⟩:=mM (A:=X.A.in1) (s:=s) (u:=v) (g:=λz=>Cb z.d a.d) q r λz T V m B c=>eqD (show X.A.units+1+60<cLine by omega) I.j n C hf.1.1 hf.2 B c (vF hf.1.2 m)
         exact SeqAt.notIn_tupleAt f D L ⟨.e _,H,I,rfl,by rw[J];exact zH o (.j _) w⟩
     . exact w.elim
 . exact w.elim
def cU:L2.OpR X (Bc .Lt) (rM2 X.K X.d (zO .n)):=by
 intro p s c H x y v u Q I f r h;obtain⟨l,t,a,b,k,i,g,w⟩:=h;simp only[zO]at w;split at w
 . cases i;cases g
   exact L2.PC p s c H _ _ v u Q I f r ⟨_,_,rfl,rfl,zH k (.j _) w⟩
 . exact w.elim
def cT:L2.OpR X (Bc .LtE) (rM2 X.K X.d (zO .c)):=by
 intro p s f H x y v u Q I g r h;obtain⟨m,t,a,b,l,k,i,w⟩:=h;simp only[zO]at w;split at w
 . cases k;cases i
   exact L2.Q9 p s f H _ _ v u Q I g r ⟨_,_,rfl,rfl,zH l (.j _) w⟩
 . exact w.elim
def cJ:L2.OpR X (Bc .Gt) (rM2 X.K X.d (zO .k)):=by
 intro p s c H x y v u Q I f r h;obtain⟨m,t,a,b,l,i,g,w⟩:=h;simp only[zO]at w;split at w
 . cases i;cases g
   exact L2.Q8 p s c H _ _ v u Q I f r ⟨_,_,rfl,rfl,zH l (.j _) w⟩
 . exact w.elim
def cI:L2.OpR X (Bc .GtE) (rM2 X.K X.d (zO .j)):=by
 intro p s c H x y v u Q I f r h;obtain⟨l,t,a,b,k,i,g,w⟩:=h;simp only[zO]at w;split at w
 . cases i;cases g
   exact L2.Q7 p s c H _ _ v u Q I f r ⟨_,_,rfl,rfl,zH k (.j _) w⟩
 . exact w.elim
noncomputable def Cop.op:Cop->CmpOp
 |.d=>.Eq|.b=>.NotEq|.n=>.Lt|.c=>.LtE|.k=>.Gt|.j=>.GtE|.m=>.Is|.e=>.IsNot|.h=>.In|.a=>.NotIn|.l=>.In|.f=>.NotIn|.g=>.NotIn|.i=>.Gt
theorem iJ:∀{vs} {ns} {xs},intsOf vs=some ns->RDs K mg ρ H vs xs->xs=ns.map L2.V.d
 |[],_,_,h,.d=>by cases h;rfl
 |v::vs,ns,_,h,.a r rs=>by
  cases v with
  |c i=>
   simp only[intsOf,AB]at h;obtain⟨u,e,rfl⟩:=h;cases r;rw[iJ e rs];rfl
  |_=>cases h
def iw(f:L2.xD k X.A):L2.OpR X (Bc .Gt) (rM2 X.K X.d (zO .i)):=by
 intro p s l H x y v u Q I o r h;obtain⟨D,t,a,b,C,e,z,w⟩:=h;simp only[zO]at w;split at w
 . split at w
   . rename_i e1 e2
     cases e with
     |m n q B=>
      cases z with
      |m E g c=>
       rw[iJ e1 B]at q;rw[iJ e2 c]at g;exact L2.Sl (show X.A.units<cLine by have:=f.a;omega) p s l H _ _ v u Q I o r ⟨_,_,_,_,rfl,rfl,.of q,.of g,zH C (.j _) w⟩
   . exact w.elim
 . exact w.elim
noncomputable def okC:Cop->Bool
 |.l|.f|.g=>false
 |_=>true
def rN(o:L2.xD k X.A):∀u:Cop,okC u=true->L2.OpR X (Bc u.op) (rM2 X.K X.d (zO u))
 |.d,_=>cG o
 |.b,_=>cV o
 |.n,_=>cU
 |.c,_=>cT
 |.k,_=>cJ
 |.j,_=>cI
 |.m,_=>cQ
 |.e,_=>mq
 |.h,_=>cP o
 |.a,_=>mw o
 |.l,h=>by cases h
 |.f,h=>by cases h
 |.g,h=>by cases h
 |.i,_=>iw o
noncomputable def Bop.op:Bop->Operator
 |.a=>.Add|.c=>.Sub|.b=>.Mult|.d=>.FloorDiv|.f=>.Mod|.g=>.Pow|.h=>.LShift|.i=>.RShift|.e=>.BitAnd
noncomputable def okB:Bop->Bool
 |.h|.i|.e=>false
 |_=>true
def Sj m:∀u:Bop,okB u=true->L2.OpR X (B2 u.op) (rM2 X.K X.d (binOp m u))
 |.a,_=>il m
 |.c,_=>iu m
 |.b,_=>iq m
 |.d,_=>kr m
 |.f,_=>ip m
 |.g,_=>ir m
 |.h,h=>by cases h
 |.i,h=>by cases h
 |.e,h=>by cases h
def Qd:L2.IxR X (rM2 X.K X.d vt):=by
 intro c f g s o H x y v u Q I A r h D;obtain⟨E,t,a,b,j,C,B,w⟩:=h;simp only[vt]at w;split at w
 . split at w
   . rename_i vs e
     split at w
     . rename_i z hz
       obtain⟨p,l,rfl,i,q⟩:=lG j C e;cases B;obtain⟨k,n,m⟩:=Xm q hz;refine L2.Tb c f g s o H _ _ v u Q I A r ?_ D;rcases i with i|i
       . exact .inl ⟨p,l,_,k,rfl,rfl,i,n,zH j m w⟩
       . exact .inr (.inl ⟨p,l,_,k,rfl,rfl,i,n,zH j m w⟩)
     . exact w.elim
   . exact w.elim
 . exact w.elim
end
noncomputable def Bf.nm:Bf->Str
 |.a=>"len"|.p=>"all"|.r=>"any"|.d=>"tuple"|.l=>"list"|.b=>"sorted"|.o=>"repr"|.h=>"max"|.j=>"min"|.k=>"sum"|.q=>"int"|.i=>"isinstance"|.c=>"divmod"|.s=>"str"|.e=>"sorted"|.n=>"min"|.g=>"sorted"|.m=>"min"
noncomputable def Bf.val:Bf->Value
 |.a=>.builtin "len"|.p=>.builtin "all"|.r=>.builtin "any"|.d=>.type "tuple"|.l=>.type "list"|.b=>.builtin "sorted"|.o=>.builtin "repr"|.h=>.builtin "max"|.j=>.builtin "min"|.k=>.builtin "sum"|.q=>.type "int"
 |.i=>.builtin "isinstance"|.c=>.builtin "divmod"|.s=>.type "str"|.e=>.builtin "sorted"|.n=>.builtin "min"|.g=>.builtin "sorted"|.m=>.builtin "min"
def Bf.boot:∀f:Bf,Ds f.nm=some f.val
 |.a=>boot_len|.p=>PyProof.Rows.boot_all|.r=>PyProof.Rows.boot_any|.d=>HG|.l=>Fy|.b=>DX|.o=>PyProof.Rows.boot_repr|.h=>PyProof.Rows.boot_max|.j=>FZ
 |.k=>PyProof.Rows.boot_sum|.q=>PyProof.Rows.boot_int|.i=>PyProof.Rows.boot_isinstance|.c=>PyProof.Rows.boot_divmod|.s=>PyProof.Rows.boot_str|.e=>DX|.n=>FZ|.g=>DX|.m=>FZ
section
variable {X:L2.Cx}{k:Nat}{m:Bool}
def tf(r:RDs K mg ρ H [v] xs):∃x,xs=[x]/\RD K mg ρ H v x:=by
 cases r with
 |a c b=>cases b;exact⟨_,rfl,c⟩
def Ya(r:RDs K mg ρ H [v,w] xs):∃x y,xs=[x,y]/\RD K mg ρ H v x/\RD K mg ρ H w y:=by
 cases r with
 |a f c=>
  obtain⟨y,rfl,b⟩:=tf c;exact⟨_,_,rfl,f,b⟩
def aD:L2.yJ X (.builtin "len") (rMc X.K X.d (blt .a m)):=by
 intro b s g H n u Q I r h;obtain⟨k,t,v,f,i,w⟩:=h;simp only[blt]at w;split at w
 . split at w
   . rename_i hz
     obtain⟨x,rfl,c⟩:=tf i;cases c;exact L2.mG b s g H _ u Q I r ⟨_,rfl,by rw[<-yS];exact hz,zH f (.l _) w⟩
   . exact w.elim
 . split at w
   . rename_i e
     obtain⟨x,rfl,c⟩:=tf i;obtain⟨p,y,rfl,j,q⟩:=lG f c e;refine L2.mF b s g H _ u Q I r ⟨p,y,rfl,j,?_⟩;rw[<-q.length];exact zH f (.l _) w
   . exact w.elim
 . exact w.elim
theorem qc(l:X.g=true):L2.yJ X (.builtin "all") (rMc X.K X.d (blt .p m)):=by
 intro a s f H o u Q I r h;obtain⟨n,t,v,b,k,w⟩:=h;simp only[blt]at w;split at w
 . split at w
   . rename_i e
     split at w
     . rename_i bs eb
       obtain⟨x,rfl,i⟩:=tf k;obtain⟨p,y,rfl,c,q⟩:=y8 b i e;rw[q.bools eb]at c;exact L2.qc l a s f H _ u Q I r ⟨p,bs,rfl,.of c,zH b (.j _) w⟩
     . exact w.elim
   . exact w.elim
 . exact w.elim
def j9:L2.yJ X (.type "tuple") (rMc X.K X.d (blt .d m)):=by
 intro a s f H k u Q I r h;obtain⟨j,t,v,c,g,w⟩:=h;simp only[blt]at w;split at w
 . obtain⟨x,rfl,b⟩:=tf g
   cases b with
   |m n e q=>exact L2.u0 a s f H _ u Q I r ⟨_,_,rfl,.inr ⟨.of e,zH c (.m n e q) w⟩⟩
 . split at w
   . rename_i e
     obtain⟨x,rfl,b⟩:=tf g;obtain⟨p,y,rfl,i,q⟩:=y8 c b e;exact L2.u0 a s f H _ u Q I r ⟨p,y,rfl,.inl ⟨.of i,ml c q w⟩⟩
   . exact w.elim
 . exact w.elim
def aE(j:X.g=true):L2.yJ X (.builtin "max") (rMc X.K X.d (blt .h m)):=by
 intro a s f H A u Q I r h;obtain⟨v,t,B,c,i,w⟩:=h;simp only[blt]at w;split at w
 . obtain⟨x,y,rfl,b,o⟩:=Ya i
   cases b;cases o;exact L2.eg j a s f H _ u Q I r ⟨_,_,rfl,zH c (.l _) w⟩
 . split at w
   . rename_i ns en
     split at w
     . rename_i hn
       obtain⟨x,rfl,b⟩:=tf i;cases b with
       |m n e q=>
        rw[q.pB en]at e;exact L2.eu j a s f H _ u Q I r ⟨_,ns,rfl,.of e,hn,zH c (.l _) w⟩
     . exact w.elim
   . exact w.elim
 . split at w
   . rename_i e
     split at w
     . rename_i ns en
       split at w
       . rename_i hn
         obtain⟨x,rfl,b⟩:=tf i;obtain⟨p,z,rfl,k,q⟩:=y8 c b e;rw[q.pB en]at k;exact L2.ek j a s f H _ u Q I r ⟨p,ns,rfl,.of k,hn,zH c (.l _) w⟩
       . exact w.elim
     . exact w.elim
   . exact w.elim
 . exact w.elim
def aG(n:X.g=true):L2.yJ X (.builtin "sum") (rMc X.K X.d (blt .k m)):=by
 intro a s f H v u Q I r h;obtain⟨o,t,z,b,j,w⟩:=h;simp only[blt]at w;split at w
 . split at w
   . rename_i e
     split at w
     . rename_i ns en
       split at w
       . rename_i hn
         obtain⟨x,rfl,i⟩:=tf j;obtain⟨p,y,rfl,c,q⟩:=y8 b i e;rw[q.pB en]at c;exact L2.dC n a s f H _ u Q I r ⟨p,ns,rfl,.of c,hn,zH b (.l _) w⟩
       . exact w.elim
     . exact w.elim
   . exact w.elim
 . exact w.elim
def aF(k:X.g=true):L2.yJ X (.builtin "min") (rMc X.K X.d (blt .j m)):=by
 intro a s f H B u Q I r h;obtain⟨z,t,C,c,i,w⟩:=h;simp only[blt]at w;split at w
 . obtain⟨x,y,rfl,b,v⟩:=Ya i
   cases b;cases v;exact L2.dA k a s f H _ u Q I r ⟨_,_,rfl,zH c (.l _) w⟩
 . split at w
   . rename_i ns en
     split at w
     . rename_i hn
       obtain⟨x,rfl,b⟩:=tf i;cases b with
       |m n e q=>
        rw[q.pB en]at e;exact L2.j7 k a s f H _ u Q I r ⟨_,ns,rfl,.of e,hn,zH c (.l _) w⟩
     . exact w.elim
   . exact w.elim
 . split at w
   . rename_i e
     split at w
     . rename_i ns en
       split at w
       . rename_i hn
         obtain⟨x,rfl,b⟩:=tf i;obtain⟨p,A,rfl,o,q⟩:=y8 c b e;rw[q.pB en]at o;exact L2.dB k a s f H _ u Q I r ⟨p,ns,rfl,.of o,hn,zH c (.l _) w⟩
       . exact w.elim
     . exact w.elim
   . exact w.elim
 . exact w.elim
def aC:L2.yJ X (.type "int") (rMc X.K X.d (blt .q m)):=by
 intro p s b H i u Q I r h;obtain⟨g,t,v,f,c,w⟩:=h;simp only[blt]at w;split at w
 . obtain⟨x,rfl,a⟩:=tf c
   cases a;exact L2.ou p s b H _ u Q I r (.inl ⟨_,rfl,zH f (.l _) w⟩)
 . obtain⟨x,rfl,a⟩:=tf c
   cases a;exact L2.ou p s b H _ u Q I r (.inr ⟨_,rfl,zH f (.l _) w⟩)
 . exact w.elim
theorem qd:L2.yJ X (.builtin "isinstance") (rMc X.K X.d (blt .i m)):=by
 intro p s b H n u Q I r h;obtain⟨l,t,v,a,g,w⟩:=h;simp only[blt]at w;split at w
 . split at w
   . rename_i ea ec
     obtain⟨x,y,rfl,f,c⟩:=Ya g;cases c;obtain⟨k,e⟩:=Qr ec;subst k;exact L2.qd p s b H _ u Q I r ⟨_,_,_,_,rfl,OO a f ea,L2.SR X.K _ _ e,zH a (.j _) w⟩
   . exact w.elim
 . exact w.elim
theorem uB:L2.yJ X (.builtin "divmod") (rMc X.K X.d (blt .c m)):=by
 intro p s b H n u Q I r h;obtain⟨k,t,v,j,i,w⟩:=h;simp only[blt]at w;split at w
 . split at w
   . rename_i hz
     obtain⟨x,y,rfl,g,f⟩:=Ya i;cases g;cases f;exact L2.uB p s b H _ u Q I r ⟨_,_,rfl,hz,ml j (.a (.l _) (.a (.l _) .d)) w⟩
   . exact w.elim
 . exact w.elim
theorem rH z:∀l,(iI z l).Perm (z::l)
 |[]=>.refl _
 |y::ys=>by
  unfold iI;split
  . exact .refl _
  . exact((rH z ys).cons y).trans (.swap z y ys)
theorem xQ:∀l,(sj l).Perm l
 |[]=>.refl _
 |z::zs=>(rH z _).trans ((xQ zs).cons z)
theorem fX z:∀l,l.Pairwise (λa b=>L2.yb a<=L2.yb b)->(iI z l).Pairwise (λa b=>L2.yb a<=L2.yb b)
 |[],_=>by simp[iI]
 |y::ys,h=>by
  rw[BK]at h;unfold iI;split
  . rename_i hz
    refine BK.mpr ⟨λa d=>?_,BK.mpr h⟩;rcases Ao.mp d with e|e
    . subst e;exact hz
    . exact Be hz (h.1 a e)
  . rename_i hz
    refine BK.mpr ⟨λa d=>?_,fX z ys h.2⟩;rcases Ao.mp ((rH z ys).mem_iff.mp d) with e|e
    . subst e;omega
    . exact h.1 a e
theorem jV:∀l,(sj l).Pairwise (λa b=>L2.yb a<=L2.yb b)
 |[]=>.nil
 |z::zs=>fX z _ (jV zs)
def Y9{l:List (Int × Int)}(n:l.Nodup)(f:∀z∈l,0<=z.2/\z.2<1000):(sj l).Pairwise (λa b=>L2.yb a<L2.yb b):=by
 have o:=jV l;have k:(sj l).Pairwise (·≠·):=(xQ l).nodup_iff.mpr n
 have j:=o.and k;refine j.imp_of_mem ?_;intro a b i c h;have g:=f a ((xQ l).mem_iff.mp i);have m:=f b ((xQ l).mem_iff.mp c);rcases GJ h.1 with z|z
 . exact z
 . exact absurd (L2.ox g m z) h.2
theorem YQ:∀{vs} {xs} {zs},RDs K mg ρ H vs xs->pairsOf vs=some zs->vs=zs.map prV/\L2.OX K H xs zs
 |_,_,_,.d,h=>by cases h;exact⟨rfl,rfl,λi z e=>by simp at e⟩
 |_,_,_,.a (v:=v) (x:=x) (vs:=vs) (xs:=xs) r rs,h=>by
  unfold pairsOf at h;split at h
  . rename_i hv;cases hv
  . rename_i a b ws hv
    cases hv;rw[AB]at h;obtain⟨g,l,rfl⟩:=h;obtain⟨s,p,o⟩:=YQ rs l;refine⟨by rw[s];rfl,by rw[Ap,Ap,p],λi z c=>?_⟩
    cases i with
    |zero=>
     simp at c;subst c;cases r with
     |m n e q=>
      cases q with
      |a k f=>
       cases f with
       |a f j=>
        cases k;cases f;cases j;exact⟨_,rfl,.of e⟩
    |succ i=>
     simp only[Fo]at c ⊢;exact o i z c
  . cases h
theorem Yb(r:RDs K mg ρ H vs xs):∀{ix:List Nat},(∀i∈ix,i<vs.length)->RDs K mg ρ H (ix.map λi=>vs.getD i .h) (ix.map λi=>xs.getD i .f)
 |[],_=>.d
 |i::ix,h=>by have e:=h i (.head _);obtain⟨x,g,c⟩:=r.get (dS e);refine .a ?_ (Yb r λj b=>h j (.tail _ b));show RD K mg ρ H (vs.getD i .h) (xs.getD i .f);rw[Aa,dS e,Aa,g];exact c
theorem XM:∀{vs} {xs} {zs},RDs K mg ρ H vs xs->yH vs=some zs->L2.Xg K H xs zs
 |_,_,_,.d,h=>by cases h;exact⟨rfl,λi z e=>by simp at e⟩
 |_,_,_,.a (v:=v) (x:=x) (vs:=vs) (xs:=xs) r rs,h=>by
  unfold yH at h;split at h
  . rename_i hv;cases hv
  . rename_i a ws hv
    cases hv;split at h
    . rename_i z zs' h1 h2
      cases h;obtain⟨g,f⟩:=XM rs h2;refine⟨by rw[Ap,Ap,g],λi c b=>?_⟩
      cases i with
      |zero=>
       simp at b;subst b;cases r with
       |m n e q=>exact⟨_,rfl,by rw[q.pB h1]at e;exact .of e⟩
      |succ i=>
       simp only[Fo]at b ⊢;exact f i c b
    . cases h
  . cases h
theorem ints_map:∀{a} {z},intsOf a=some z->a=z.map .c
 |[],_,h=>by cases h;rfl
 |v::vs,z,h=>by
  cases v with
  |c i=>
   obtain⟨n,d,rfl⟩:=AB.mp (show (intsOf vs).map (i::·)=some z from h)
   rw[ints_map d];rfl
  |_=>cases h
theorem XN:∀{vs} {xs} {zs},RDs K mg ρ H vs xs->yH vs=some zs->vs=zs.map tpV
 |_,_,_,.d,h=>by cases h;rfl
 |_,_,_,.a (v:=v) (x:=x) (vs:=vs) (xs:=xs) r rs,h=>by
  unfold yH at h;split at h
  . rename_i hv;cases hv
  . rename_i a ws hv
    cases hv;split at h
    . rename_i z zs' h1 h2
      cases h;rw[XN rs h2,AG];rw[ints_map h1];rfl
    . cases h
  . cases h
def nY{j:Type}{d}{f}{z l:List j}{a:List Nat}(q:RDs K mg ρ H (z.map f) ys)(g:a.Perm (Ag z.length))(h:(a.map λi=>z.getD i d).Perm z->(a.map λi=>z.getD i d)=l):RDs K mg ρ H (l.map f) (a.map λi=>ys.getD i .f):=by
 have b:∀i∈a,i<z.length:=λi c=>Ah.mp (g.mem_iff.mp c);have k:(a.map λi=>z.getD i d).Perm z:=L2.uo d g;have r:=Yb q (ix:=a) (by rw[Ac];exact b)
 have e:(a.map λi=>(z.map f).getD i .h)=l.map f:=by rw[<-h k,A7];refine BG λi c=>?_;have:=b i c;show _=f (z.getD i d);rw[Aa,An,dS this,Aa,dS this];rfl
 rw[e]at r;exact r
def lZ:L2.yJ X (.builtin "sorted") (rMc X.K X.d (blt .b m)):=by
 intro c s J H U P Q I r h;obtain⟨F,t,vs,G,B,w⟩:=h;have C:∀{v:Val} {ws:List Val},RDs X.K X.d F H [v] U->z0 t v=some ws->yQ X.K X.d (RD X.K X.d) F H (rR m ws t) Q->wpAny (model X.f X.w) X.A (call (.builtin "sorted") P) (L2.EP X c J Q) X.h s:=λ{v ws} B e w=>by
  unfold rR at w;split at w
  . rename_i zs ez
    split at w
    . rename_i hz
      obtain⟨x,rfl,R⟩:=tf B;obtain⟨p,N,rfl,T,q⟩:=y8 G R e;refine L2.qe c s J H _ P Q I r ⟨p,N,zs,λa=>((L2.zm zs).idxOf a:Int),rfl,.of T,XM q ez,hz.2,hz.1,λa g b k=>L2.p4 hz.1 g k,λa g b k=>L2.jX g k,λl W u y E=>xn G (nY (XN q ez▸q) y λD=>L2.pv hz.1 D E) w l u⟩
    . exact w.elim
  . exact w.elim
 simp only[blt]at w;split at w
 . split at w
   . rename_i e
     split at w
     . rename_i zs ez
       split at w
       . rename_i hz
         obtain⟨x,rfl,R⟩:=tf B;obtain⟨p,N,rfl,T,q⟩:=y8 G R e;obtain⟨Y,M⟩:=YQ q ez;subst Y;have k:∀{a:List Int},a∈zs.map L2.plI->∃z∈zs,L2.plI z=a:=λg=>AE.mp g;refine L2.qe c s J H _ P Q I r ⟨p,N,zs.map L2.plI,L2.Zd,rfl,.of T,⟨by rw[Ac];exact M.1,λi l u=>?_⟩,.inr λa g=>?_,CF.mpr (hz.1.imp λn h=>n (L2.VQ h)),λa g b o=>?_,λa g b o h=>?_,λl W u y E=>?_⟩
         . rw[An]at u
           obtain⟨z,D,rfl⟩:=AB.mp u;exact M.2 i z D
         . obtain⟨z,_,rfl⟩:=k g;exact List.cons_ne_nil _ _
         . obtain⟨z,Z,rfl⟩:=k g
           obtain⟨L,V,rfl⟩:=k o;exact L2.Wk (hz.2 z Z) (hz.2 L V)
         . obtain⟨z,Z,rfl⟩:=k g
           obtain⟨L,V,rfl⟩:=k o;rw[L2.ox (hz.2 z Z) (hz.2 L V) h]
         . rw[Ac]at y
           refine xn G (nY (d:=(0,0)) q y λD=>L2.ph ?_ (Y9 hz.1 hz.2) λx=>D.mem_iff.trans (xQ zs).mem_iff.symm) w l u;rw[CF]at E ⊢;refine E.imp_of_mem λ{i j} hi hj w=>?_;have S:=Ah.mp (y.mem_iff.mp hi);have O:=Ah.mp (y.mem_iff.mp hj);rw[Aa,An,dS S,Aa,An,dS O]at w;rw[Aa,dS S,Aa,dS O];exact w
       . exact C B e w
     . exact C B e w
   . exact w.elim
 . exact w.elim
noncomputable def okF:Bf->Bool
 |.r|.l|.o|.s|.e|.n|.g|.m=>false
 |_=>true
def Xp(t:X.g=true)(v:L2.xD k X.A):∀f m,okF f=true->L2.yJ X f.val (rMc X.K X.d (blt f m))
 |.a,_,_=>aD
 |.p,_,_=>qc t
 |.r,_,h=>by cases h
 |.d,_,_=>j9
 |.l,_,h=>by cases h
 |.b,_,_=>lZ
 |.o,_,h=>by cases h
 |.h,_,_=>aE t
 |.j,_,_=>aF t
 |.k,_,_=>aG t
 |.q,_,_=>aC
 |.i,_,_=>qd
 |.c,_,_=>uB
 |.s,_,h=>by cases h
 |.e,_,h=>by cases h
 |.g,_,h=>by cases h
 |.n,_,h=>by cases h
 |.m,_,h=>by cases h
end
noncomputable def Out.isOk{a:Type}:Out a->Bool
 |.e _ _=>true
 |.g _ _ _|.d=>false
def zF{o:Out α}(h:o.isOk=false)v s:o≠.e v s:=λe=>by subst e;cases h
noncomputable def plain:Expr->Bool
 |.Starred ..|.Set ..|.Slice ..=>false
 |_=>true
def zW(h:plain e=true):L2.noStar e=true:=by cases e<;>first|rfl|cases h
def vi(h:plain e=true):IA op e=false:=by cases e<;>first|rfl|cases h
def YM(h:plain e=true):L2.gn e:=by intro o i;cases e<;>first|rfl|cases h
def zr(h:plain e=true)x:AM e env x=pure x:=by cases e<;>first|rfl|cases h
noncomputable def mn:Expr->Bool
 |.Call (.Name _ _) [] [] _=>false
 |_=>true
def ve(h:mn o=true):EW o name env (eval o env)=eval o env:=by
 unfold EW;split
 . cases h
 . rfl
noncomputable def plainT:Expr->Bool
 |.UnaryOp .Not _ _|.BoolOp ..|.IfExp ..|.Compare ..=>false
 |_=>true
def cx(h:plainT e=true)whole:isTrue e env whole=(do let v <-whole;standAt e.pos;holding [v] (truthy v)):=by
 cases e with
 |UnaryOp o a p=>cases o<;>first|rfl|cases h
 |_=>first|rfl|cases h
def yX:List Expr->Bool
 |[]=>true
 |e::es=>plain e&&yX es
theorem td:∀{es} {pos} {env},yX es=true->(backTo pos (A6 es env)).any (·.1)=false
 |[],_,_,_=>rfl
 |e::es,pos,env,h=>by
  rw[yX,ub]at h;rw[L2.z6 (zW h.1)];show (false||(backTo pos (A6 es env)).any (·.1))=false
  rw[td h.2];rfl
def yQ.mono(w:yQ K mg R ρ H o Q)(x:Ext ρ H ρ' H')(h:HR K mg ρ' s1 H'):yQ K mg R ρ' H' o Q:=by
 cases o with
 |e v s'=>exact λa y A b c r=>w a y A (x.trans h b) c r
 |_=>exact w
section
variable {X:L2.Cx}{env:Env}{s:Sto}{E a b c:Expr}
def zI{o:Out Val}(h:∀v u,o≠.e v u):L2.PE X E (tV X.K X.d env s o):=Pe λ_ _ _=>OM h
def un1{g:Val->Sto->Out Val}(h:L2.PE X a (tV X.K X.d env s o))(b:∀M,L2.PE X a M->L2.PE X E (L2.tUn r M))
 (k:∀u H F v x Q,HR X.K X.d u F H->RD X.K X.d u H v x->yQ X.K X.d (RD X.K X.d) u H (g v F) Q->r x H Q):L2.PE X E (tV X.K X.d env s (o.bind g)):=by
 cases o with
 |e v F=>exact zg (b _ h) λl H Q ⟨u,hr,er,w⟩=>⟨u,hr,er,λf x A i c j=>k f A F v x Q c j (w.mono i c)⟩
 |g _ _ _=>exact zI (zF rfl)
 |d=>exact zI (zF rfl)
def Uw{i:Sto->Out Val}(t:L2.PE X a (tV X.K X.d env s o))(q:∀u,L2.PE X b (tV X.K X.d env u (i u)))
 (r:∀O M,L2.PE X a O->L2.PE X b M->L2.PE X E (L2.tOp (rM2 X.K X.d g) O M)):L2.PE X E (tV X.K X.d env s (o.bind λx u=>(i u).bind λy F=>g x y F)):=by
 cases o with
 |e v u=>
  show L2.PE X E (tV X.K X.d env s ((i u).bind λy F=>g v y F));have f:=q u;cases hb:i u with
  |e w F=>
   rw[hb]at f;exact zg (r _ _ t f) λz H Q ⟨ρ,hr,er,wt⟩=>⟨ρ,hr,er,λk x B m c p=>⟨k,c,er.mono m,λj y A l h n=>⟨j,F,v,w,h,p.mono l,n,wt.mono (m.trans c l) h⟩⟩⟩
  |g _ _ _=>exact zI (zF rfl)
  |d=>exact zI (zF rfl)
 |g _ _ _=>exact zI (zF rfl)
 |d=>exact zI (zF rfl)
def ZU{i h:Cop}{o:Out Val}{L J:Sto->Out Val}{k:Nat}{p:Pos}(k1:okC i=true)(k2:okC h=true)(G:L2.xD k X.A)(h1:L2.PE X a (tV X.K X.d env s o))(h2:∀F,L2.PE X b (tV X.K X.d env F (L F)))(h3:∀F,L2.PE X c (tV X.K X.d env F (J F)))(hm:plain c=true) :
 L2.PE X (.Compare a [i.op,h.op] [b,c] p) (tV X.K X.d env s (o.bind λx F=>(L F).bind λy S=>(zO i x y S).bind λr M=>match r with
  |.e true=>(J M).bind λz O=>zO h y z O
  |.e false=>.e (.e false) M
  |_=>.d)):=by
 cases o with
 |e v F=>
  have I:=h2 F;show L2.PE X _ (tV X.K X.d env s ((L F).bind _));cases hb:L F with
  |e w S=>
   rw[hb]at I;show L2.PE X _ (tV X.K X.d env s ((zO i v w S).bind _));cases hc:zO i v w S with
   |e r M=>
    cases r with
    |e t=>
     have T:=h3 M;have B:=L2.YB (pos:=p) (rN G i k1) (rN G h k2) h1 I T (show IJ [i.op,h.op] [b,c]=false from vi hm);refine zg B λσ H Q ⟨ρ,hr,er,wt⟩=>⟨ρ,hr,er,λR x H1 Y E r1=>⟨R,E,er.mono Y,λP y H2 W D r2=>⟨P,S,v,w,D,r1.mono W,r2,?_⟩⟩⟩;rw[hc];intro m z H3 U l r3;cases r3;refine⟨t,rfl,?_⟩;have V:=(Y.trans E W).trans D U;have n:=wt.mono V l;cases t with
     |true=>
      rw[if_pos rfl];refine⟨m,l,er.mono V,?_⟩;have f:yQ X.K X.d (RD X.K X.d) m H3 ((J M).bind λz O=>zO h w z O) Q:=n;cases hz:J M with
      |e u O=>
       rw[hz]at f;exact λN q H4 Z C r4=>⟨N,O,w,u,C,(r2.mono U).mono Z,r4,f.mono Z C⟩
      |g _ _ _=>rw[hz]at f;exact f
      |d=>rw[hz]at f;exact f
     |false=>
      rw[if_neg Aj];exact zH l (.j false) n
    |_=>exact zI (zF rfl)
   |g _ _ _=>exact zI (zF rfl)
   |d=>exact zI (zF rfl)
  |g _ _ _=>exact zI (zF rfl)
  |d=>exact zI (zF rfl)
 |g _ _ _=>exact zI (zF rfl)
 |d=>exact zI (zF rfl)
def T7{o:Out Val}{p:Pos}(h:L2.PE X a (tV X.K X.d env s o)):L2.PE X (.UnaryOp .USub a p) (tV X.K X.d env s (o.bind λx u=>match x with|.c i=>.e (.c (-i)) u|_=>.d)):=by
 refine un1 h (λt q=>L2.Ph L2.Rw q) λf H u v x Q b r w=>?_;cases r with
 |l i=>exact⟨i,rfl,zH b (.l _) w⟩
 |_=>exact w.elim
def T8{o:Out Val}{p:Pos}(h:L2.PE X a (tV X.K X.d env s o)):L2.PE X (.UnaryOp .Not a p) (tV X.K X.d env s (o.bind λx u=>match x with|.e b=>.e (.e !b) u|_=>.d)):=by
 refine un1 (r:=λx H Q=>∃c,x=.e c/\Q (.e (!c)) H) h (λt q=>L2.RG q) λg H u v x Q f r w=>?_;cases r with
 |j i=>exact⟨i,rfl,zH f (.j _) w⟩
 |_=>exact w.elim
def ZS{r:List Expr}{o:Out Val}{i:Sto->Out Val}{p:Pos}(m:L2.PE X a (tV X.K X.d env s o))(l:∀u,L2.PE X (.BoolOp .And (b::r) p) (tV X.K X.d env u (i u))) :
 L2.PE X (.BoolOp .And (a::b::r) p) (tV X.K X.d env s (o.bind λx u=>match x with|.e true=>i u|.e false=>.e (.e false) u|_=>.d)):=by
 cases o with
 |e v u=>
  refine zg (L2.RB m (l u)) λn H Q ⟨ρ,hr,er,wt⟩=>⟨ρ,hr,er,λc x A f h k=>?_⟩;have w:=wt.mono f h;cases k with
  |j t=>
   refine⟨t,rfl,?_⟩;cases t with
   |true=>exact L2.oM (⟨c,h,er.mono f,w⟩)
   |false=>exact L2.oK (zH h (.j _) w)
  |_=>exact w.elim
 |g _ _ _=>exact zI (zF rfl)
 |d=>exact zI (zF rfl)
def Ql{r:List Expr}{o:Out Val}{f:Sto->Out Val}{p:Pos}(l:L2.PE X a (tV X.K X.d env s o))(k:∀u,L2.PE X (.BoolOp .Or (b::r) p) (tV X.K X.d env u (f u))) :
 L2.PE X (.BoolOp .Or (a::b::r) p) (tV X.K X.d env s (o.bind λx u=>match truth u x with|some false=>f u|some true=>.e x u|pn=>.d)):=by
 cases o with
 |e v u=>
  refine zg (L2.RH l (k u)) λm H Q ⟨ρ,hr,er,wt⟩=>⟨ρ,hr,er,λc x A i h j=>?_⟩;have w:yQ X.K X.d (RD X.K X.d) c A (match truth u v with|some false=>f u|some true=>.e v u|pn=>.d) Q:=wt.mono i h
  cases ht:truth u v with
  |none=>rw[ht]at w;exact w.elim
  |some t=>
   rw[ht]at w;refine⟨t,XO h j ht,?_⟩;cases t with
   |true=>exact L2.oM (zH h j w)
   |false=>exact L2.oK (⟨c,h,er.mono i,w⟩)
 |g _ _ _=>exact zI (zF rfl)
 |d=>exact zI (zF rfl)
def T4{k j:Sto->Out Val}(n:L2.PT X c (tT X.K X.d env s o))(m:∀u,L2.PE X a (tV X.K X.d env u (k u)))(l:∀u,L2.PE X b (tV X.K X.d env u (j u))) :
 L2.PE X (.IfExp c a b pos) (tV X.K X.d env s (o.bind λt u=>if t then k u else j u)):=by
 cases o with
 |e v u=>
  refine zg (L2.YE n (m u) (l u)) λp H Q ⟨ρ,hr,er,wt⟩=>⟨ρ,hr,er,λf x A i h r=>?_⟩;have w:=wt.mono i h;cases r;cases v with
  |true=>exact L2.oM (⟨f,h,er.mono i,w⟩)
  |false=>exact L2.oK (⟨f,h,er.mono i,w⟩)
 |g _ _ _=>exact zI (zF rfl)
 |d=>exact zI (zF rfl)
def sU{o:Out (List Val)}(h:∀v u,o≠.e v u):L2.PA X es (tVs X.K X.d env s o):=Pb λ_ _ _=>Ri h
def We:L2.PA X [] (tVs X.K X.d env s (.e [] s)):=Z8 L2.wm λa H Q ⟨ρ,hr,er,wt⟩=>wt ρ [] H Ext.refl hr .d
def ZX{f:Sto->Out (List Val)}(n:plain a=true)(q:L2.PE X a (tV X.K X.d env s o))(p:∀u,L2.PA X es (tVs X.K X.d env u (f u))) :
 L2.PA X (a::es) (tVs X.K X.d env s (o.bind λv u=>(f u).bind λF w=>.e (v::F) w)):=by
 cases o with
 |e v u=>
  have b:=p u;show L2.PA X _ (tVs X.K X.d env s ((f u).bind _));cases hb:f u with
  |e ws w=>
   rw[hb]at b;exact Z8 (L2.pac q b (zW n)) λt H Q ⟨ρ,hr,er,wt⟩=>⟨ρ,hr,er,λi x B l h m=>⟨i,h,er.mono l,λc y A k j r=>wt c _ A (l.trans h k) j (.a (m.mono k) r)⟩⟩
  |g _ _ _=>exact sU (zF rfl)
  |d=>exact sU (zF rfl)
 |g _ _ _=>exact sU (zF rfl)
 |d=>exact sU (zF rfl)
def ZW(h:L2.PA X es (tVs X.K X.d env s o)):L2.PE X (.Tuple es k pos) (tV X.K X.d env s (o.bind λu F=>if u.length<=zP then .e (.f u) F else .d)):=by
 cases o with
 |e u F=>
  refine zg (L2.RJ h) λc H Q ⟨ρ,hr,er,wt⟩=>⟨ρ,hr,er,λb i A x a r=>?_⟩;have w:yQ X.K X.d (RD X.K X.d) b A (if u.length<=zP then .e (.f u) F else .d) Q:=wt.mono x a
  by_cases hz:u.length<=zP
  . rw[if_pos hz]at w
    exact⟨by rw[<-r.length,<-yS];exact hz,ml a r w⟩
  . rw[if_neg hz]at w;exact w.elim
 |g _ _ _=>exact zI (zF rfl)
 |d=>exact zI (zF rfl)
def T6(h:L2.PA X es (tVs X.K X.d env s o)):L2.PE X (.List es pos) (tV X.K X.d env s (o.bind λu F=>if u.length<=zP then newList m u F else .d)):=by
 cases o with
 |e u F=>
  refine zg (L2.RE h) λc H Q ⟨ρ,hr,er,wt⟩=>⟨ρ,hr,er,λb f A x a r=>?_⟩;have w:yQ X.K X.d (RD X.K X.d) b A (if u.length<=zP then newList m u F else .d) Q:=wt.mono x a
  by_cases hz:u.length<=zP
  . rw[if_pos hz]at w
    exact⟨by rw[<-r.length,<-yS];exact hz,xn a r w⟩
  . rw[if_neg hz]at w;exact w.elim
 |g _ _ _=>exact zI (zF rfl)
 |d=>exact zI (zF rfl)
def Qj(h:L2.PA X es (tVs X.K X.d env s o))(r:∀t,L2.PA X es t->L2.PE X E (L2.tCB (rMc X.K X.d g) t)):L2.PE X E (tV X.K X.d env s (o.bind g)):=by
 cases o with
 |e vs c=>exact zg (r _ h) λi H Q ⟨ρ,hr,er,wt⟩=>⟨ρ,hr,er,λb j A x a f=>⟨b,c,vs,a,f,wt.mono x a⟩⟩
 |g _ _ _=>exact zI (zF rfl)
 |d=>exact zI (zF rfl)
def T3(z:okF f=true)(e:X.g=true)(x:L2.xD k X.A)(n:L2.Gl X f.nm)(j:X.d f.nm=none)(y:yX (a::es)=true)(h:L2.PA X (a::es) (tVs X.K X.d env s o)) :
 L2.PE X (.Call (.Name f.nm p) (a::es) [] pos) (tV X.K X.d env s (o.bind (blt f m))):=by
 rw[yX,ub]at y;refine Qj h λt c=>?_;have r:=Xp e x f m z;have v:=f.boot;have b:=L2.z6 (es:=es) (env:=X.a) (zW y.1);have i:=td (pos:=pos) (env:=X.a) y.2;cases f with
 |d=>exact L2.uk r n j v c (by decide) (by decide) b i
 |l=>exact L2.uk r n j v c (by decide) (by decide) b i
 |q=>exact L2.uk r n j v c (by decide) (by decide) b i
 |s=>exact L2.uk r n j v c (by decide) (by decide) b i
 |_=>exact L2.k6 r n j v c (by decide) (by decide) b i
def yG{o:Out Bool}(h:∀v u,o≠.e v u):L2.PT X E (tT X.K X.d env s o):=Pn λ_ _ _=>Ub h
def SJ(k:plainT a=true)(h:L2.PE X a (tV X.K X.d env s o)):L2.PT X a (tT X.K X.d env s o.truth):=by
 cases o with
 |e v j=>
  refine m9 (L2.YW h (cx k)) λl H Q ⟨ρ,hr,er,wt⟩=>⟨ρ,hr,er,λf x A i c r=>?_⟩;have w:=wt.mono i c;simp only[Out.truth,zJ]at w;cases ht:truth j v with
  |none=>rw[ht]at w;exact w.elim
  |some b=>rw[ht]at w;exact⟨b,XO c r ht,w _ _ _ Ext.refl c rfl⟩
 |g _ _ _=>exact yG (zF rfl)
 |d=>exact yG (zF rfl)
def SI(h:L2.PT X a (tT X.K X.d env s o)):L2.PT X (.UnaryOp .Not a pos) (tT X.K X.d env s (o.bind λb u=>.e (!b) u)):=by
 cases o with
 |e v u=>exact m9 (L2.RQ h) λj H Q ⟨ρ,hr,er,wt⟩=>⟨ρ,hr,er,λf x A i c r=>by cases r;exact wt _ _ _ i c rfl⟩
 |g _ _ _=>exact yG (zF rfl)
 |d=>exact yG (zF rfl)
def sW{o:Out Bool}(h:∀v u,o≠.e v u):L2.PW X E (tT X.K X.d env s o):=Pp λ_ _ _=>Ub h
def iO:L2.PW X (.BoolOp .And [] pos) (tT X.K X.d env s (.e true s)):=λw p b a H Q I ⟨ρ,hr,er,wt⟩=>PyProof.Rows.isTrue_and_nil ⟨H,I,wt _ _ _ Ext.refl hr rfl⟩
def dh:L2.PW X (.BoolOp .Or [] pos) (tT X.K X.d env s (.e false s)):=λw p b a H Q I ⟨ρ,hr,er,wt⟩=>PyProof.Rows.isTrue_or_nil ⟨H,I,wt _ _ _ Ext.refl hr rfl⟩
def Zc{k:Sto->Out Bool}(D:L2.PT X a (tT X.K X.d env s o))(C:∀u,L2.PW X (.BoolOp .And rest pos) (tT X.K X.d env u (k u))) :
 L2.PW X (.BoolOp .And (a::rest) pos) (tT X.K X.d env s (o.bind λb u=>if b then k u else .e false u)):=by
 cases o with
 |e v u=>
  intro r p t i H Q I h;obtain⟨n,B,m,q⟩:=h;refine PyProof.Rows.isTrue_and (L2.thn (D p t i H (λc A=>if c=true then tT X.K X.d env u (k u) i A Q else Q false A) I ⟨n,B,m,λj x A l f z=>?_⟩) λc y ⟨A,I1,q1⟩=>?_)
  . have w:=q.mono l f
    cases z;cases v with
    |true=>exact L2.oM (⟨j,f,m.mono l,w⟩)
    |false=>exact L2.oK (w _ _ _ Ext.refl f rfl)
  . cases c with
    |true=>exact C u r p y i A Q I1 q1
    |false=>exact⟨A,I1,q1⟩
 |g _ _ _=>exact sW (zF rfl)
 |d=>exact sW (zF rfl)
def UO{k:Sto->Out Bool}(D:L2.PT X a (tT X.K X.d env s o))(C:∀u,L2.PW X (.BoolOp .Or rest pos) (tT X.K X.d env u (k u))) :
 L2.PW X (.BoolOp .Or (a::rest) pos) (tT X.K X.d env s (o.bind λb u=>if b then .e true u else k u)):=by
 cases o with
 |e v u=>
  intro r p t i H Q I h;obtain⟨n,B,m,q⟩:=h;refine PyProof.Rows.isTrue_or (L2.thn (D p t i H (λc A=>if c=true then Q true A else tT X.K X.d env u (k u) i A Q) I ⟨n,B,m,λj x A l f z=>?_⟩) λc y ⟨A,I1,q1⟩=>?_)
  . have w:=q.mono l f
    cases z;cases v with
    |true=>exact L2.oM (w _ _ _ Ext.refl f rfl)
    |false=>exact L2.oK (⟨j,f,m.mono l,w⟩)
  . cases c with
    |true=>exact⟨A,I1,q1⟩
    |false=>exact C u r p y i A Q I1 q1
 |g _ _ _=>exact sW (zF rfl)
 |d=>exact sW (zF rfl)
end
section
variable {X:L2.Cx}{env:Env}{s:Sto}{E a b c:Expr}
def YN{t a:L2.TO}(h:L2.PO X e t)(i:∀d H Q,a d H Q->t d H Q):L2.PO X e a:=λp s d H Q I q=>h p s d H Q I (i d H Q q)
def OI{o:Out (Option Int)}(h:∀v u,o≠.e v u):¬tO X.K X.d env s o σ H Q:=by
 rintro ⟨a,_,_,w⟩;cases o with
 |e v u=>exact h v u rfl
 |_=>exact w
def jF{o:Out (Option Int)}(h:∀v u,o≠.e v u):L2.PO X e (tO X.K X.d env s o):=λp b a H Q I q=>(OI h q).elim
def Qo:L2.PO X none (tO X.K X.d env s (.e none s)):=YN L2.VR λa H Q ⟨ρ,hr,er,wt⟩=>wt _ _ _ Ext.refl hr rfl
def SD{o:Out Val}(h:L2.PE X a (tV X.K X.d env s o)):L2.PO X (some a) (tO X.K X.d env s (o.bind λv u=>match v with|.c i=>.e (some i) u|_=>.d)):=by
 cases o with
 |e v u=>
  refine YN (L2.VS h) λk H Q ⟨ρ,hr,er,wt⟩=>⟨ρ,hr,er,λf x A j b r=>?_⟩;have w:=wt.mono j b;cases r with
  |l i=>exact⟨i,rfl,w _ _ _ Ext.refl b rfl⟩
  |_=>exact w.elim
 |g _ _ _=>exact jF (zF rfl)
 |d=>exact jF (zF rfl)
def rMs(K:KF)(a:Str->Option Value)(m:Bool):L2.V->Option Int->Option Int->L2.Hp->L2.VK->Prop:=λx l h H Q=>∃b s v,HR K a b s H/\RD K a b H v x/\yQ K a (RD K a) b H (wu m v l h none s) Q
def OA m:L2.SlR X (rMs X.K X.d m):=by
 intro a s g H x v j i l c k Q I o u z y h;obtain⟨B,t,w,f,r,b⟩:=h;simp only[wu]at b;split at b
 . cases r with
   |m n e q=>exact L2.Vk a s g H _ v j i l c k Q I o u z y ⟨_,_,rfl,e,uG f (q.cut l c) b⟩
 . rename_i heq
   cases heq
 . split at b
   . rename_i e
     obtain⟨p,C,rfl,A,q⟩:=y8 f r e;exact L2.Vj a s g H _ v j i l c k Q I o u z y ⟨_,_,rfl,.of A,xn f (q.cut l c) b⟩
   . exact b.elim
 . rename_i heq
   cases heq
def Qm{f2 Y T:Sto->Out (Option Int)}(h1:L2.PE X a (tV X.K X.d env s o))(h2:∀u,L2.PO X lo (tO X.K X.d env u (f2 u)))(h3:∀u,L2.PO X hi (tO X.K X.d env u (Y u)))
 (h4:∀u,L2.PO X st (tO X.K X.d env u (T u))) (hst:(st=none/\∀u,T u=.e none u)\/∃e,st=some e/\∀u O,T u≠.e none O) :
 L2.PE X (.Subscript a (.Slice lo hi st p2) pos) (tV X.K X.d env s (o.bind λx u=>(f2 u).bind λl O=>(Y O).bind λh M=>(T M).bind λc F=>wu m x l h c F)):=by
 cases o with
 |e v u=>
  have N:=h2 u;show L2.PE X _ (tV X.K X.d env s ((f2 u).bind _));cases hl:f2 u with
  |e l O=>
   rw[hl]at N;have L:=h3 O;show L2.PE X _ (tV X.K X.d env s ((Y O).bind _));cases hh:Y O with
   |e h M=>
    rw[hh]at L;have R:=h4 M;show L2.PE X _ (tV X.K X.d env s ((T M).bind _));rcases hst with⟨rfl,e4⟩|⟨e,rfl,e4⟩
    . rw[e4 M]
      refine zg (L2.YF (OA m) h1 N L) λσ H Q ⟨ρ,hr,er,wt⟩=>⟨ρ,hr,er,λG x H1 A k U=>⟨G,k,er.mono A,λE y H2 t j S=>?_⟩⟩;cases S;refine⟨E,j,(er.mono A).mono t,λD z H3 J i Z=>?_⟩;cases Z;exact⟨D,M,v,i,(U.mono t).mono J,wt.mono ((A.trans k t).trans j J) i⟩
    . cases hc:T M with
      |e cc F=>
       rw[hc]at R;cases cc with
       |none=>exact absurd hc (e4 M F)
       |some b=>
        by_cases hv:∃I,v=.f I
        case neg=>
         refine zg (L2.i6 h1 N L R) λσ H Q ⟨ρ,hr,er,wt⟩=>⟨ρ,hr,er,λG x H1 A k U=>⟨G,k,er.mono A,λE y H2 t j S=>?_⟩⟩;cases S;refine⟨E,j,(er.mono A).mono t,λD z H3 J i Z=>?_⟩;cases Z;refine⟨D,i,((er.mono A).mono t).mono J,λC z4 W V B r4=>?_⟩;cases r4;have w:yQ X.K X.d (RD X.K X.d) C W (wu m v l h (some b) F) Q:=wt.mono (((A.trans k t).trans j J).trans i V) B;have em:wu m v l h (some b) F=(match z0 F v with|some I=>if b≠0 then newList m (L2.zl I (L2.uC I.length l h b).1 b (L2.uC I.length l h b).2) F else .d|pn=>.d):=by
          cases v with
          |f I=>exact absurd ⟨I,rfl⟩ hv
          |_=>rfl
         rw[em]at w;cases hl:z0 F v with
         |none=>rw[hl]at w;exact w.elim
         |some I=>
          rw[hl]at w;dsimp only at w;obtain⟨p,xs,rfl,hq,q⟩:=y8 B (((U.mono t).mono J).mono V) hl;by_cases c0:b≠0
          . have wt2:yQ X.K X.d (RD X.K X.d) C W (newList m (L2.zl I (L2.uC I.length l h b).1 b (L2.uC I.length l h b).2) F) Q:=by rwa [if_pos c0]at w
            refine⟨p,xs,b,rfl,.of hq,rfl,c0,?_⟩;rw[<-q.length];exact xn B (q.zl _ _ _) wt2
          . rw[if_neg c0]at w;exact w.elim
        refine zg (L2.cn h1 N L R) λσ H Q ⟨ρ,hr,er,wt⟩=>⟨ρ,hr,er,λG x H1 A k U=>⟨G,k,er.mono A,λE y H2 t j S=>?_⟩⟩;cases S;refine⟨E,j,(er.mono A).mono t,λD z H3 J i Z=>?_⟩;cases Z;refine⟨D,i,((er.mono A).mono t).mono J,λC z4 W V B r4=>?_⟩;cases r4;have xx:=((A.trans k t).trans j J).trans i V;have w:yQ X.K X.d (RD X.K X.d) C W (wu m v l h (some b) F) Q:=wt.mono xx B;have r:=((U.mono t).mono J).mono V;cases r with
        |m n e q=>
         change yQ X.K X.d (RD X.K X.d) C W (if b≠0/\(L2.yI (Fw _) l h b).2<=zP then .e (.f (L2.zl _ (L2.yI (Fw _) l h b).1 b (L2.yI (Fw _) l h b).2)) F else .d) Q at w
         split at w
         . rename_i hz
           have P:=q.length;refine⟨_,_,b,rfl,e,rfl,hz.1,by rw[<-P,<-yS];exact hz.2,?_⟩
           rw[<-P];exact uG B (q.zl _ _ _) w
         . exact w.elim
        |_=>obtain⟨_,e⟩:=hv;cases e
      |g _ _ _=>exact zI (zF rfl)
      |d=>exact zI (zF rfl)
   |g _ _ _=>exact zI (zF rfl)
   |d=>exact zI (zF rfl)
  |g _ _ _=>exact zI (zF rfl)
  |d=>exact zI (zF rfl)
 |g _ _ _=>exact zI (zF rfl)
 |d=>exact zI (zF rfl)
noncomputable def Mf.nm:Mf->Str
 |.b=>"count"|.a=>"append"|.c=>"extend"|.f=>"pop"|.d=>"index"|.e=>"join"
noncomputable def okM:Mf->Bool
 |.f|.d|.e=>false
 |_=>true
def ZV{f2:Sto->Out Val}(hm:okM f=true)(hs:mn a=true)(Y:plain b=true)(u:(apos.endLine == cpos.line)=true)(h1:L2.PE X a (tV X.K X.d env s o))(h2:∀U,L2.PE X b (tV X.K X.d env U (f2 U))) :
 L2.PE X (.Call (.Attribute a f.nm apos) [b] [] cpos) (tV X.K X.d env s (o.bind λx U=>((f2 U).bind λv O=>(Out.e [v] O:Out (List Val))).bind λS O=>yT f x S O)):=by
 cases o with
 |e v U=>
  have I:=h2 U;show L2.PE X _ (tV X.K X.d env s (((f2 U).bind λv O=>(Out.e [v] O:Out (List Val))).bind λS O=>yT f v S O));cases hb:f2 U with
  |e w O=>
   rw[hb]at I;show L2.PE X _ (tV X.K X.d env s (yT f v [w] O));cases f with
   |b=>
    by_cases hv:∃S,v=.f S
    . obtain⟨S,rfl⟩:=hv
      refine zg (L2.cm h1 I (ve hs) (zW Y) u) λσ H Q ⟨ρ,hr,er,wt⟩=>⟨ρ,hr,er,λA x H1 G t N=>?_⟩;cases N with
      |m n e q=>
       refine⟨⟨_,_,rfl,e⟩,A,t,er.mono G,λB y V E r L=>?_⟩;have h:yQ X.K X.d (RD X.K X.d) B V (yT .b (.f S) [w] O) Q:=wt.mono (G.trans t E) r;simp only[yT]at h;split at h
       . rename_i hf
         rw[ub]at hf;have P:=q.mono E;refine⟨_,_,y,rfl,rfl,L2.SqT.of (E.c _ _ e n.1),L.flat hf.1,P.flat hf.2,?_⟩;rw[RDs.countP L hf.1 P hf.2];exact zH r (.l _) h
       . exact h.elim
    . refine zg (L2.cj h1 I (ve hs) (zW Y) u) λσ H Q ⟨ρ,hr,er,wt⟩=>⟨ρ,hr,er,λA x H1 G t N=>?_⟩
      have h:yQ X.K X.d (RD X.K X.d) A H1 (yT .b v [w] O) Q:=wt.mono G t;have em:yT .b v [w] O=(match z0 O v with|some S=>if M.flat w&&S.all M.flat then .e (.c (S.countP λz=>eqF z w:Nat)) O else .d|pn=>.d):=by
       cases v with
       |f S=>exact absurd ⟨S,rfl⟩ hv
       |_=>rfl
      rw[em]at h;cases hl:z0 O v with
      |none=>rw[hl]at h;exact h.elim
      |some S=>
       rw[hl]at h
       have ty:L2.tyV X.K "list" x H1:=by
        cases N with
        |D n e q=>exact .inl ⟨rfl,_,.of e⟩
        |C e k=>
         obtain⟨xs,q⟩:=mV k;exact .inl ⟨rfl,_,.of q⟩
        |_=>cases hl
       refine⟨ty,A,t,er.mono G,λB y V E r L=>?_⟩;obtain⟨p,xs,rfl,hq,q⟩:=y8 r (N.mono E) hl;have J:=h.mono E r;simp only at J;split at J
       . rename_i hf
         rw[ub]at hf;refine⟨_,_,y,rfl,rfl,L2.SqL.of hq,L.flat hf.1,q.flat hf.2,?_⟩;rw[RDs.countP L hf.1 q hf.2];exact zH r (.l _) J
       . exact J.elim
   |a=>
    cases v with
    |j i=>
     refine zg (L2.cZ (es:=[]) h1 I (ve hs) (zW Y) u) λσ H Q ⟨ρ,hr,er,wt⟩=>⟨ρ,hr,er,λA x H1 G t N=>?_⟩;cases N with
     |C e k=>
      obtain⟨xs,q⟩:=mV k;refine⟨.inl ⟨rfl,_,.of q⟩,A,t,er.mono G,λB y V E r L=>?_⟩;have h:yQ X.K X.d (RD X.K X.d) B V (yT .a (.j i) [w] O) Q:=wt.mono (G.trans t E) r;simp only[yT]at h;split at h
      . rename_i S hv
        split at h
        . rename_i hz
          obtain⟨b',ys,e1,R,P⟩:=r.obj i _ hv;have T:=E.get e;rw[T]at e1;cases e1;refine⟨_,ys,y,rfl,rfl,R,by rw[<-P.length,<-yS];exact hz,?_⟩
          exact h _ _ _ (Ext.write r T R _) (r.write T R (P.append (.a L .d))) .p
        . exact h.elim
      . exact h.elim
    |_=>exact zI (zF rfl)
   |c=>
    cases v with
    |j i=>
     have W:A6 [b] X.a=(false,eval b X.a)::A6 [] X.a:=L2.z6 (zW Y);have Z:L2.PE X (.Call (.Attribute a "extend" apos) [b] [] cpos) (L2.tBM X.K "list" L2.eJ _ (L2.nc _ L2.bU)):=L2.Z9 Fj PySem.F.slot_list_extend PySem.F.type_list_extend L2.d7 h1 (L2.pac I L2.wm (zW Y)) (ve hs) (by rw[W];rfl) u W rfl
     refine zg Z λσ H Q ⟨ρ,hr,er,wt⟩=>⟨ρ,hr,er,λA x H1 G t N=>?_⟩;cases N with
     |C e k=>
      obtain⟨xs,q⟩:=mV k;refine⟨.inl ⟨rfl,_,.of q⟩,A,t,er.mono G,λB y V E r L=>?_⟩;have h:yQ X.K X.d (RD X.K X.d) B V (yT .c (.j i) [w] O) Q:=wt.mono (G.trans t E) r;simp only[yT]at h;split at h
      . rename_i S ws hv hw
        split at h
        . rename_i hz
          obtain⟨b',ys,e1,R,P⟩:=r.obj i _ hv;obtain⟨p,zs,rfl,hq,q3⟩:=y8 r L hw;have T:=E.get e;rw[T]at e1;cases e1;refine⟨_,_,ys,zs,rfl,rfl,R,hq,by rw[<-P.length,<-q3.length,<-yS];exact hz,?_⟩
          exact h _ _ _ (Ext.write r T R _) (r.write T R (P.append q3)) .p
        . exact h.elim
      . exact h.elim
    |_=>exact zI (zF rfl)
   |f=>cases hm
   |d=>cases hm
   |e=>cases hm
  |g _ _ _=>exact zI (zF rfl)
  |d=>exact zI (zF rfl)
 |g _ _ _=>exact zI (zF rfl)
 |d=>exact zI (zF rfl)
end
def spN(T:Tbl)(K:KF)(m:Str->Option Value)(n:Nat)(f:Str)(v:Nat):L2.Sp:=λc H Q _=>∃b s a,HR K m b s H/\RDs K m b H a c/\yQ K m (RD K m) b H (zE T n f v a s) Q
structure Callee(T:Tbl)(n:Nat)(X:L2.Cx)(f:Str)(ver:Nat)(F:Fn):Prop where
 a:∃fa fd,X.d f=some (.ref fa)/\Dm X.K (.ref fa)=true/\L2.Binds X.K fd F.a []/\L2.qV X.f X.w X.K X.d X.i L2.CX0 n fa fd F.a (spN T X.K X.d n f ver)
def ZT(C:Callee T n X f ver F)(h:L2.xD n X.A)(g:L2.Gl X f)(j:(f == ("__debug__":Str))=false):L2.PE X (.Call (.Name f p) [] [] pos) (tV X.K X.d env s (zE T n f ver [] s)):=by obtain⟨o,m,b,c,k,i⟩:=C.a;exact zg (L2.YA i h g b c k .nil L2.UU j) λl H Q ⟨ρ,hr,er,wt⟩=>⟨ρ,s,[],hr,.d,wt⟩
def Wc(C:Callee T n X f ver F)(i:L2.xD n X.A)(v:L2.Gl X f)(z:(f == ("__debug__":Str))=false)(j:yX es=true)(k:es≠[])(h:L2.PA X es (tVs X.K X.d env s o)) :
 L2.PE X (.Call (.Name f p) es [] pos) (tV X.K X.d env s (o.bind (zE T n f ver))):=by
 obtain⟨E,D,q,t,u,y⟩:=C.a;cases o with
 |e vs m=>
  cases es with
  |nil=>exact absurd rfl k
  |cons e es=>
   rw[yX,ub]at j;refine zg (L2.VJ y i v q t u .nil L2.UU h z (L2.z6 (zW j.1)) (td j.2)) λw H Q ⟨ρ,hr,er,wt⟩=>⟨ρ,hr,er,λc x B l b r=>?_⟩;show spN T X.K X.d n f ver (x++[]) B Q L2.E0;rw[A5];exact⟨c,m,vs,b,r,wt.mono l b⟩
 |g _ _ _=>exact zI (zF rfl)
 |d=>exact zI (zF rfl)
def xI:∀{c} {p},(c=true->p)->cond c p True
 |true,_,h=>h rfl
 |false,_,_=>By
def qi(h:cond c p True)(e:c=true):p:=by subst e;exact h
mutual
theorem QD:∀(a b:Val),cond (a.beq b) (a=b) True
 |.h,b=>by cases b<;>first|exact(rfl:Val.h=Val.h)|exact By
 |.e x,b=>by cases b with|e y=>exact xI λh=>congrArg Val.e (CG (show (x == y)=true from h))|_=>exact By
 |.c x,b=>by cases b with|c y=>exact xI λh=>congrArg Val.c (CG (show (x == y)=true from h))|_=>exact By
 |.m x,b=>by cases b with|m y=>exact xI λh=>congrArg Val.m (CG (show (x == y)=true from h))|_=>exact By
 |.f x,b=>by cases b with|f y=>exact xI λh=>congrArg Val.f (qi (mE x y) h)|_=>exact By
 |.g x,b=>by cases b with|g y=>exact xI λh=>congrArg Val.g (qi (mE x y) h)|_=>exact By
 |.p,b=>by cases b<;>first|exact(rfl:Val.p=Val.p)|exact By
 |.o x,b=>by cases b with|o y=>exact xI λh=>congrArg Val.o (CG (show (x == y)=true from h))|_=>exact By
 |.r x,b=>by cases b with|r y=>exact xI λh=>congrArg Val.r (CG (show (x == y)=true from h))|_=>exact By
 |.j x,b=>by cases b with|j y=>exact xI λh=>congrArg Val.j (CG (show (x == y)=true from h))|_=>exact By
 |.u x,b=>by cases b with|u y=>exact xI λh=>congrArg Val.u (CG (show (x == y)=true from h))|_=>exact By
 |.t x,b=>by cases b with|t y=>exact xI λh=>congrArg Val.t (CG (show (x == y)=true from h))|_=>exact By
 |.q x,b=>by cases b with|q y=>exact xI λh=>congrArg Val.q (CG (show (x == y)=true from h))|_=>exact By
 |.s x k,b=>by cases b with|s y l=>exact xI λh=>(by rw[show Val.beq (.s x k) (.s y l)=(x == y&&k == l) from rfl,ub]at h;rw[CG h.1,CG h.2])|_=>exact By
theorem mE:∀(a b:List Val),cond (rC a b) (a=b) True
 |[],[]=>(rfl:([]:List Val)=[])
 |[],_::_=>By
 |_::_,[]=>By
 |x::xs,y::ys=>xI λh=>by have h:(x.beq y&&rC xs ys)=true:=h;rw[ub]at h;rw[qi (QD x y) h.1,qi (mE xs ys) h.2]
end
def t9(h:rC a b=true):a=b:=qi (mE a b) h
mutual
theorem beq_refl:∀a:Val,a.beq a=true
 |.h=>rfl
 |.e x=>(beq_self_eq_true x:(x == x)=true)
 |.c x=>(beq_self_eq_true x:(x == x)=true)
 |.m x=>(beq_self_eq_true x:(x == x)=true)
 |.f x=>ud x
 |.g x=>ud x
 |.p=>rfl
 |.o x=>(beq_self_eq_true x:(x == x)=true)
 |.r x=>(beq_self_eq_true x:(x == x)=true)
 |.j x=>(beq_self_eq_true x:(x == x)=true)
 |.u x=>(beq_self_eq_true x:(x == x)=true)
 |.t x=>(beq_self_eq_true x:(x == x)=true)
 |.q x=>(beq_self_eq_true x:(x == x)=true)
 |.s x k=>(by rw[show Val.beq (.s x k) (.s x k)=(x == x&&k == k) from rfl,beq_self_eq_true,beq_self_eq_true];rfl)
theorem ud:∀a:List Val,rC a a=true
 |[]=>rfl
 |x::xs=>by rw[rC,beq_refl x,ud xs];rfl
end
section
variable {K:KF}{mg:Str->Option Value}
def Mv.refl:Mv ρ H ρ H:=⟨λa o e n=>⟨e,n⟩,λi a e=>e,λ_ _=>rfl⟩
theorem Mv.trans(x:Mv ρ H ρ1 H1)(y:Mv ρ1 H1 ρ2 H2):Mv ρ H ρ2 H2:=
 ⟨λa o e n=>y.b a o (x.b a o e n).1 (x.b a o e n).2,λi a e=>y.c i a (x.c i a e),λa h=>by obtain⟨i,f⟩:=DQ h;exact(y.d a (AD (x.c i a f))).trans (x.d a h)⟩
structure Walk(K:KF)(mg:Str->Option Value)(ρ:Own)(H:L2.Hp)(r:Src)(J:L2.It):Prop where
 b:r.a.length<=zP
 c:∀(ρ2:Own) (H2:L2.Hp) (s2:Sto) (i:Nat) (v:Val),Mv ρ H ρ2 H2->HR K mg ρ2 s2 H2->r.ok s2=true->r.a[i]?=some v->J.c i H2/\∀x H3,J.b i H2 x H3->(H3=H2\/∃p o,H2 p=none/\H3=L2.upd H2 p o)/\RD K mg ρ2 H3 v x
 a:∀(ρ2:Own) (H2:L2.Hp) (s2:Sto) (i:Nat),Mv ρ H ρ2 H2->HR K mg ρ2 s2 H2->r.ok s2=true->i=r.a.length->J.a i H2
def Walk.mv(w:Walk K mg ρ H r J)(x:Mv ρ H ρ1 H1):Walk K mg ρ1 H1 r J:=
 ⟨w.b,λf A s i v y=>w.c f A s i v (x.trans y),λf A s i y=>w.a f A s i (x.trans y)⟩
def bu(H:L2.Hp):Prop:=∀a x,(H a=some (.c x)\/H a=some (.b x))->x.length<=AI
def sV(h:L2.PI X tg it wi):L2.PI X tg it (λd H R=>wi d H λJ F=>bu F->R J F):=λp s d H R I q=>
 L2.thn (h p s d H _ I q) λv n m=>L2.thn m λl k ⟨i,fp,tn,J,H',e,I',T,t0,f,r⟩=>⟨i,fp,tn,J,H',e,I',T,t0,f,r λa x g=>by
  rcases g with g|g
  . obtain⟨z,_⟩:=(show L2.z7 X.f X.w H' k.heap a (.c x) from I'.j a _ g);exact z
  . obtain⟨z,_⟩:=(show L2.z7 X.f X.w H' k.heap a (.b x) from I'.j a _ g);exact z⟩
def XX(k:vs.length<=zP)(n:ρ.no a)(e:H a=some (.c xs))(q:RDs K mg ρ H vs xs):Walk K mg ρ H ⟨vs,none⟩ (L2.Itt K a) where
 b:=k
 c:=λf A s i v x m _ l=>by have g:=(x.b a _ e n).1;have j:=RDs.mv x q;obtain⟨y,h,p⟩:=j.get l;refine⟨⟨xs,y,.of g,h⟩,λz B ⟨e3,h3⟩=>⟨.inl e3,?_⟩⟩;subst e3;have:=h3 xs (.of g);rw[h]at this;cases this;exact p
 a:=λf A s i x m _ o=>⟨xs,.of (x.b a _ e n).1,by rw[<-q.length];exact Ce o.symm⟩
def XU(k:vs.length<=zP)(n:ρ.no a)(e:H a=some (.b xs))(q:RDs K mg ρ H vs xs):Walk K mg ρ H ⟨vs,none⟩ (L2.Itl K a) where
 b:=k
 c:=λf A s i v x m _ l=>by have g:=(x.b a _ e n).1;have j:=RDs.mv x q;obtain⟨y,h,p⟩:=j.get l;refine⟨⟨xs,y,.of g,h⟩,λz B ⟨e3,h3⟩=>⟨.inl e3,?_⟩⟩;subst e3;have:=h3 xs (.of g);rw[h]at this;cases this;exact p
 a:=λf A s i x m _ o=>⟨xs,.of (x.b a _ e n).1,by rw[<-q.length];exact Ce o.symm⟩
def ba{g:List Int}(k:KT K a (g.map L2.V.d)):Walk K mg ρ H ⟨g.map .c,none⟩ (L2.Itt K a) where
 b:=by obtain⟨o,j,n,_,_,_,r,q⟩:=k;have:=q.length;simp only[Ac,Ax]at this;show (g.map Val.c).length<=_;rw[Ac,yS,this];exact r
 c:=λf A s i v x m _ l=>by obtain⟨y,h,t⟩:=(RDs.ints (K:=K) (mg:=mg) (ρ:=f) (H:=A) g).get l;refine⟨⟨_,y,k.sqt,h⟩,λz B ⟨e3,h3⟩=>⟨.inl e3,?_⟩⟩;subst e3;have:=h3 _ k.sqt;rw[h]at this;cases this;exact t
 a:=λf A s i x m _ p=>⟨_,k.sqt,by rw[Ac];rw[p];simp⟩
def XW(n:vs.length<=zP)(e:ρ.o[i0]?=some a):Walk K mg ρ H ⟨vs,some i0⟩ (L2.Itl K a) where
 b:=n
 c:=λk A s i v x l h p=>by
  simp only[Src.ok]at h;split at h
  . rename_i ws hw
    cases t9 h;obtain⟨b,g,f,j,q⟩:=l.obj i0 _ hw;rw[x.c _ _ e]at f;cases f;obtain⟨y,m,t⟩:=q.get p;refine⟨⟨g,y,.of j,m⟩,λz B ⟨e3,h3⟩=>⟨.inl e3,?_⟩⟩;subst e3;have:=h3 g (.of j);rw[m]at this;cases this;exact t
  . cases h
 a:=λk A s i x l h r=>by
  simp only[Src.ok]at h;split at h
  . rename_i ws hw
    cases t9 h;obtain⟨b,g,f,j,q⟩:=l.obj i0 _ hw;rw[x.c _ _ e]at f;cases f;exact⟨g,.of j,by rw[<-q.length];exact Ce r.symm⟩
  . cases h
def Yd:(yP lo n)[i]?=if i<n then some (.c (lo+i)) else none:=by
 unfold yP;rw[An];by_cases h:i<n
 . rw[if_pos h,CJ h];rfl
 . rw[if_neg h,CV (by rw[AQ];omega)];rfl
def jP:(yP lo n).length=n:=by unfold yP;rw[Ac,AQ]
def jk(g:n<=zP):Walk K mg ρ H ⟨yP lo n,none⟩ (L2.Itr lo n) where
 b:=by show (yP lo n).length<=_;rw[jP];exact g
 c:=λf A s i v x k _ j=>by
  have h:(yP lo n)[i]?=some v:=j;rw[Yd]at h;split at h
  . rename_i hi
    cases h;refine⟨hi,λz B ⟨e3,h3⟩=>⟨.inl e3,?_⟩⟩;subst h3;exact .l _
  . cases h
 a:=λf A s i x k _ hi=>by have:i=(yP lo n).length:=hi;rw[jP]at this;exact Ce this.symm
theorem rE:∀{vs} {n i:Nat},(yZ n vs)[i]?=(vs[i]?).map λv=>.f [.c ((n+i:Nat):Int),v]
 |[],_,_=>rfl
 |v::vs,n,0=>rfl
 |v::vs,n,i+1=>by show (yZ (n+1) vs)[i]?=(vs[i]?).map _;rw[rE];rw[show n+1+i=n+(i+1) by omega]
theorem w9:∀{vs} {n},(yZ n vs).length=vs.length
 |[],_=>rfl
 |v::vs,n=>by show (yZ (n+1) vs).length+1=_;rw[w9];rfl
def bb(p:vs.length<=zP)(n:ρ.no a)(e:H a=some (.c xs))(q:RDs K mg ρ H vs xs):Walk K mg ρ H ⟨yZ 0 vs,none⟩ (L2.Ite K a) where
 b:=by show (yZ 0 vs).length<=_;rw[w9];exact p
 c:=λf C s i v x g _ r=>by have k:=(x.b a _ e n).1;have o:=RDs.mv x q;have h:(yZ 0 vs)[i]?=some v:=r;rw[rE,AB]at h;obtain⟨w,B,rfl⟩:=h;obtain⟨y,j,A⟩:=o.get B;refine⟨⟨xs,y,.of k,j⟩,λz D ⟨t,y',ht,e3,h3,e4⟩=>⟨.inr ⟨t,_,ht,e4⟩,?_⟩⟩;subst e3 e4;have:=h3 xs (.of k);rw[j]at this;cases this;have X:=Ext.new g ht (.c [.d ((i:Nat):Int),y]);refine .m (g.new ht) L2.zc (.a ?_ (.a (A.mono X) .d));rw[BS];exact .l _
 a:=λf C s i x g _ u=>⟨xs,.of (x.b a _ e n).1,by rw[<-q.length,u];exact w9.symm⟩
def gV(p:vs.length<=zP)(n:ρ.no a)(e:H a=some (.b xs))(q:RDs K mg ρ H vs xs):Walk K mg ρ H ⟨yZ 0 vs,none⟩ (L2.Um K a) where
 b:=by show (yZ 0 vs).length<=_;rw[w9];exact p
 c:=λf C s i v x g _ r=>by have k:=(x.b a _ e n).1;have o:=RDs.mv x q;have h:(yZ 0 vs)[i]?=some v:=r;rw[rE,AB]at h;obtain⟨w,B,rfl⟩:=h;obtain⟨y,j,A⟩:=o.get B;refine⟨⟨xs,y,.of k,j⟩,λz D ⟨t,y',ht,e3,h3,e4⟩=>⟨.inr ⟨t,_,ht,e4⟩,?_⟩⟩;subst e3 e4;have:=h3 xs (.of k);rw[j]at this;cases this;have X:=Ext.new g ht (.c [.d ((i:Nat):Int),y]);refine .m (g.new ht) L2.zc (.a ?_ (.a (A.mono X) .d));rw[BS];exact .l _
 a:=λf C s i x g _ u=>⟨xs,.of (x.b a _ e n).1,by rw[<-q.length,u];exact w9.symm⟩
def tI(c:Env)(s:Sto)(o:Out Src):L2.TI:=λf H R=>∃b,HR K mg b s H/\ER K mg b H c f/\(match o with
 |.e r s'=>∀a A J,Ext b H a A->HR K mg a s' A->Walk K mg a A r J->R J A
 |_=>False)
end
section
variable {X:L2.Cx}{env:Env}{s:Sto}{a b tg:Expr}
def tZ{t a:L2.TI}(h:L2.PI X tg it t)(i:∀d H R,a d H R->t d H R):L2.PI X tg it a:=λp s d H R I q=>h p s d H R I (i d H R q)
def yO{o:Out Src}(h:∀v u,o≠.e v u):L2.PI X tg it (tI (K:=X.K) (mg:=X.d) env s o):=λp c a H R I q=>by
 obtain⟨b,_,_,w⟩:=q;cases o with
 |e v u=>exact(h v u rfl).elim
 |g _ _ _=>exact w.elim
 |d=>exact w.elim
def bu.of(z:bu H){a}(q:RDs K mg ρ H vs xs)(h:H a=some (.c xs)\/H a=some (.b xs)):vs.length<=zP:=by rw[q.length,yS];exact z a xs h
def SA{o:Out Val}(h:L2.PE X a (tV X.K X.d env s o)):L2.PI X tg a (tI (K:=X.K) (mg:=X.d) env s (o.bind λv y=>match srcOf y v with|some r=>.e r y|pn=>.d)):=by
 cases o with
 |e v y=>
  show L2.PI X tg a (tI (K:=X.K) (mg:=X.d) env s (match srcOf y v with|some r=>.e r y|pn=>.d))
  cases v with
  |f vs=>
   refine tZ (sV (L2.YJ h)) λu H R ⟨ρ,hr,er,w⟩=>⟨ρ,hr,er,λl x A p b t=>?_⟩;cases t with
   |m n e q=>exact⟨_,rfl,⟨_,.of e⟩,λz=>w l A _ p b (XX (z.of q (.inl e)) n e q)⟩
  |g vs=>
   refine tZ (sV (L2.eC h)) λu H R ⟨ρ,hr,er,w⟩=>⟨ρ,hr,er,λl x A p b t=>?_⟩;cases t with
   |D n e q=>exact⟨_,rfl,⟨_,.of e⟩,λz=>w l A _ p b (XU (z.of q (.inr e)) n e q)⟩
  |o ns=>
   refine tZ (L2.YJ h) λu H R ⟨ρ,hr,er,w⟩=>⟨ρ,hr,er,λl x A p b t=>?_⟩;cases t with
   |s k=>exact⟨_,rfl,⟨_,k.sqt⟩,w l A _ p b (ba k)⟩
  |j i=>
   simp only[srcOf];cases hs:y[i]? with
   |none=>exact yO (zF rfl)
   |some G=>
    cases G with
    |c vs=>
     refine tZ (sV (L2.eC h)) λu H R ⟨ρ,hr,er,w⟩=>⟨ρ,hr,er,λl x A p b t=>?_⟩;cases t with
     |C e=>
      obtain⟨J,I,E,B,q⟩:=b.obj i _ hs;rw[e]at E;cases E;exact⟨_,rfl,⟨_,.of B⟩,λz=>w l A _ p b (XW (z.of q (.inr B)) e)⟩
    |_=>exact yO (zF rfl)
  |_=>exact yO (zF rfl)
 |g _ _ _=>exact yO (zF rfl)
 |d=>exact yO (zF rfl)
def de{o:Out Val}{p f:Pos}(m:plain a=true)(y:L2.Gl X "range")(t:X.d "range"=none)(h:L2.PE X a (tV X.K X.d env s o)) :
 L2.PI X tg (.Call (.Name "range" p) [a] [] f) (tI (K:=X.K) (mg:=X.d) env s (o.bind λx k=>match x with
  |.c j=>if -(2 ^ 62)<=j/\j<=zP then .e ⟨yP 0 j.toNat,pn⟩ k else .d
  |_=>.d)):=by
 cases o with
 |e v k=>
  have q:A6 [a] X.a=[(false,eval a X.a)]:=L2.z6 (zW m);refine tZ (L2.cu y t (L2.pac h L2.wm (zW m)) q) λz H R ⟨ρ,hr,er,w⟩=>⟨ρ,hr,er,λb x A n i r=>?_⟩;cases r with
  |l j=>
   simp only[zJ]at w;by_cases hz:-(2 ^ 62)<=j/\j<=zP
   . rw[if_pos hz]at w
     have u:(zP:Int)<2 ^ 62:=by decide
     exact⟨j,rfl,hz.1,⋯,w b A _ n i (jk ⋯)⟩
   . rw[if_neg hz]at w;exact w.elim
  |_=>exact w.elim
 |g _ _ _=>exact yO (zF rfl)
 |d=>exact yO (zF rfl)
def dg{o:Out Val}{A:Sto->Out Val}{p t:Pos}(D:plain a=true)(m:plain b=true)(N:L2.Gl X "range")(L:X.d "range"=none)(h:L2.PE X a (tV X.K X.d env s o))(P:∀u,L2.PE X b (tV X.K X.d env u (A u))) :
 L2.PI X tg (.Call (.Name "range" p) [a,b] [] t) (tI (K:=X.K) (mg:=X.d) env s (o.bind λx u=>(A u).bind λy C=>match x,y with
  |.c i,.c j=>if -(2 ^ 62)<=i/\i<2 ^ 62∧-(2 ^ 62)<=j/\j<2 ^ 62/\j-i<=zP then .e ⟨yP i (j-i).toNat,pn⟩ C else .d
  |_,_=>.d)):=by
 cases o with
 |e v u=>
  have n:=P u;simp only[zJ];cases hb:A u with
  |e w C=>
   rw[hb]at n;have f:A6 [b] X.a=[(false,eval b X.a)]:=L2.z6 (zW m);have G:A6 [a,b] X.a=[(false,eval a X.a),(false,eval b X.a)]:=by rw[L2.z6 (zW D),f]
   refine tZ (L2.cw N L (L2.pac h (L2.pac n L2.wm (zW m)) (zW D)) G f) λT H R ⟨ρ,hr,er,wt⟩=>⟨ρ,hr,er,λr x V B k J=>⟨r,k,er.mono B,λq y Q E z I=>?_⟩⟩;simp only[zJ]at wt;cases J with
   |l i=>
    cases I with
    |l j=>
     simp only at wt;by_cases hz:-(2 ^ 62)<=i/\i<2 ^ 62∧-(2 ^ 62)<=j/\j<2 ^ 62/\j-i<=zP
     . rw[if_pos hz]at wt
       exact⟨i,j,rfl,⟨hz.1,hz.2.1,hz.2.2.1,hz.2.2.2.1⟩,wt q Q _ (B.trans k E) z (jk ⋯)⟩
     . rw[if_neg hz]at wt;exact wt.elim
    |_=>exact wt.elim
   |_=>exact wt.elim
  |g _ _ _=>exact yO (zF rfl)
  |d=>exact yO (zF rfl)
 |g _ _ _=>exact yO (zF rfl)
 |d=>exact yO (zF rfl)
def Wf{E:List Expr}{k:Nat}{o:Out Val}{p j t:Pos}(r:plain a=true)(C:L2.Gl X "enumerate")(B:X.d "enumerate"=none)(h:L2.PE X a (tV X.K X.d env s o)) :
 L2.PI X (.Tuple E k t) (.Call (.Name "enumerate" p) [a] [] j) (tI (K:=X.K) (mg:=X.d) env s (o.bind λv i=>match v with
  |.f vs=>.e ⟨yZ 0 vs,pn⟩ i
  |.g vs=>.e ⟨yZ 0 vs,pn⟩ i
  |_=>.d)):=by
 cases o with
 |e v i=>
  have y:A6 [a] X.a=[(false,eval a X.a)]:=L2.z6 (zW r);refine tZ (sV (L2.VP C B (L2.pac h L2.wm (zW r)) y)) λG H R ⟨ρ,hr,er,w⟩=>⟨ρ,hr,er,λb x A l c u=>?_⟩;cases u with
  |m n e q=>exact⟨_,rfl,.inl ⟨⟨_,.of e⟩,λz=>w b A _ l c (bb (z.of q (.inl e)) n e q)⟩⟩
  |D n e q=>exact⟨_,rfl,.inr ⟨⟨_,.of e⟩,λz=>w b A _ l c (gV (z.of q (.inr e)) n e q)⟩⟩
  |_=>exact w.elim
 |g _ _ _=>exact yO (zF rfl)
 |d=>exact yO (zF rfl)
end
def rn(K:KF)(m:Str->Option Value)(t:Tgt)(g:L2.TG):Prop:=∀(ρ:Own) (s:Sto) (H:L2.Hp) (v:Val) (x:L2.V) (b e:Env) (σ:L2.St) (Q:L2.St->L2.Hp->Prop),HR K m ρ s H->RD K m ρ H v x->ER K m ρ H b σ->yC t v b=some e ->
 (∀a,ER K m ρ H e a->Q a H)->g x σ H Q
def eP:rn K mg (.a i) (L2.uF i):=λh s H v x f b g Q j r c e q=>by
 cases e;exact q _ (c.set i r)
def mS:List Nat->L2.TGs
 |[]=>L2.QS
 |i::is=>L2.UI (L2.uF i) (mS is)
theorem nM:∀{is} {vs} {xs} {env} {σ},RDs K mg ρ H vs xs->ER K mg ρ H env σ->vs.length=is.length ->
 (∀u,ER K mg ρ H ((is.zip vs).foldl (λe p=>e.set p.1 (some p.2)) env) u->Q u H)->mS is xs σ H Q
 |[],[],_,env,σ,.d,er,_,q=>⟨rfl,q σ er⟩
 |[],_::_,_,_,_,_,_,h,_=>by cases h
 |_::_,[],_,_,_,_,_,h,_=>by cases h
 |i::is,v::vs,x::xs,env,σ,.a r rs,er,h,q=>⟨x,xs,rfl,nM rs (er.set i r) (by simpa using h) q⟩
def sm:rn K mg (.b is) (L2.QU K is.length (mS is)):=λi s H v x g c h Q j r f e q=>by
 simp only[yC]at e;split at e
 . split at e
   . rename_i hl
     cases e;cases r with
     |m n e a=>exact⟨_,_,rfl,.of e,by rw[<-a.length];exact hl,nM a f hl q⟩
   . cases e
 . cases e
noncomputable def yx(s:Scope)(N:List Str):List Nat->List Expr->Bool
 |[],[]=>true
 |i::is,.Name x _::es=>decide (N[i]?=some x)&&(decide (s.names.lookup x=some .local)||decide (s.names.lookup x=some .cell))&&yx s N is es
 |_,_=>false
def ckT(s:Scope)(N:List Str):Tgt->Expr->Bool
 |.a i,.Name x _=>decide (N[i]?=some x)&&(decide (s.names.lookup x=some .local)||decide (s.names.lookup x=some .cell))
 |.b is,.Tuple es _ _=>yx s N is es&&decide (es≠[])
 |_,_=>false
section
variable {X:L2.Cx}
structure Scp(sc:Scope)(N:List Str)(X:L2.Cx):Prop where
 b:X.N=N
 d:N.Nodup
 e:∀x,sc.names.lookup x=some .local\/sc.names.lookup x=some .cell\/sc.names.lookup x=some .free->L2.Vis X.a.scope x
 c:∀x,sc.names.lookup x=some .local\/sc.names.lookup x=some .cell->L2.Loc X.a.scope x/\(X.m x=true\/X.a.scope.names.lookup x=some .local)
 a:∀x,sc.names.lookup x=some .globalImplicit->L2.Gl X x
 cf:∀x,sc.names.lookup x=some .cell\/sc.names.lookup x=some .free->X.a.kindOf x=some .cell\/X.a.kindOf x=some .free
def YH(S:Scp sc N X)(f:N[i]?=some x)(h:sc.names.lookup x=some .local\/sc.names.lookup x=some .cell):L2.PG X (.Name x p) (L2.uF i):=by obtain⟨a,b⟩:=S.c x h;exact L2.VN (by rw[S.b];exact S.d) (by rw[S.b];exact f) a b
theorem vJ(S:Scp sc N X):∀{is} {es},yx sc N is es=true->L2.PGs X es (mS is)/\(DK es X.a).length=is.length/\(DK es X.a).findIdx? (·.1)=none
 |[],[],_=>⟨L2.VO,rfl,rfl⟩
 |[],_::_,h=>by cases h
 |_::_,[],h=>by cases h
 |i::is,e::es,h=>by
  cases e with
  |Name x p=>
   simp only[yx,ub,Bn,decide_eq_true_eq]at h;obtain⟨a,b,c⟩:=vJ S h.2;refine⟨L2.YI (YH S h.1.1 h.1.2) a,?_,?_⟩
   . show (DK es X.a).length+1=is.length+1
     rw[b]
   . show List.findIdx? (·.1) ((false,assign (.Name x p) X.a)::DK es X.a)=none
     rw[List.findIdx?_cons];simp only[As,if_false];rw[c];rfl
  |_=>cases h
def Pj(S:Scp sc N X)(f:X.g=true)(h:ckT sc N t e=true):∃g,L2.PG X e g/\rn X.K X.d t g:=by
 cases t with
 |a i=>
  cases e with
  |Name x p=>
   simp only[ckT,ub,Bn,decide_eq_true_eq]at h;exact⟨_,YH S h.1 h.2,eP⟩
  |_=>cases h
 |b is=>
  cases e with
  |Tuple es k p=>
   simp only[ckT,ub,decide_eq_true_eq]at h;obtain⟨a,b,c⟩:=vJ S h.1;exact⟨_,L2.m8 f a b c,sm⟩
  |_=>cases h
end
structure Lp(acc:Addr)(ρ:Own)(H:L2.Hp)(ρ':Own)(H':L2.Hp):Prop where
 f:∃new:List Addr,ρ'.o=ρ.o++new/\∀a∈new,H a=none
 c:ρ'.h=acc::ρ.h
 d:∀(a:Addr) (o:L2.HO),H a=some o->a ∉ ρ.o->H' a=some o
 g:∀a∈ρ.o,hk (H' a)=hk (H a)
section
variable {K:KF}{mg:Str->Option Value}{ρ ρ1 ρ2:Own}{H H1 H2:L2.Hp}{s s1:Sto}{acc:Addr}
noncomputable def Own.hide(ρ:Own)(acc:Addr):Own:=⟨ρ.o,acc::ρ.h⟩
def mU(b:HR K mg ρ s H)(h:H acc=none)o:Mv ρ H (ρ.hide acc) (L2.upd H acc o):=
 ⟨λa u e n=>⟨by rw[L2.zM (L2.zY e h)];exact e,n.1,λc=>by
  rcases Ao.mp c with z|z
  . exact L2.zY e h z
  . exact n.2 z⟩,λi a e=>e,λa f=>by rw[L2.zM λz=>(b.new h).1 (by rw[<-z];exact f)]⟩
theorem HR.hide(h:HR K mg ρ s H)(b:H acc=none)(o:Hid):HR K mg (ρ.hide acc) s (L2.upd H acc o.o):=by
 refine⟨h.f,h.l,λi c e=>?_,λa j=>?_⟩
 . obtain⟨a,m,q⟩:=h.g i c e
   obtain⟨o,k⟩:=q.there;exact⟨a,m,q.mv (mU h b _) (L2.zM (L2.zY k b))⟩
 . rcases Ao.mp j with z|z
   . subst z;exact⟨⟨o,L2.zc⟩,(h.new b).1⟩
   . obtain⟨⟨y,e⟩,n⟩:=h.d a z
     exact⟨⟨y,by rw[L2.zM (L2.zY e b)];exact e⟩,n⟩
def Lp.start(b:HR K mg ρ s H)(h:H acc=none)o:Lp acc ρ H (ρ.hide acc) (L2.upd H acc o):=
 ⟨⟨[],by simp[Own.hide],λa c=>by cases c⟩,rfl,λa u e _=>by rw[L2.zM (L2.zY e h)];exact e,(mU b h o).d⟩
def Lp.step(l:Lp acc ρ H ρ1 H1)(r:HR K mg ρ1 s1 H1)(x:Ext ρ1 H1 ρ2 H2):Lp acc ρ H ρ2 H2:=by
 obtain⟨m,k,p⟩:=l.f;obtain⟨i,s,j⟩:=x.d;refine⟨⟨m++i,by rw[s,k,Aq],λa h=>?_⟩,x.f.trans l.c,λa o e n=>x.c a o (l.d a o e n) ?_,λa h=>(x.g a (by rw[k];exact Bp _ h)).trans (l.g a h)⟩
 . rcases AS.mp h with h|h
   . exact p a h
   . cases q:H a with
     |none=>rfl
     |some o=>
      by_cases b:a∈ρ.o
      . obtain⟨t,e⟩:=r.trk (a:=a) (by rw[k];exact Bp _ b)
        rw[j a h]at e;cases e
      . have:=l.d a o q b
        rw[j a h]at this;cases this
 . rw[k]
   intro b;rcases AS.mp b with b|b
   . exact n b
   . rw[p a b]at e;cases e
def Lp.emit(l:Lp acc ρ H ρ1 H1)(i:HR K mg ρ1 s1 H1)(j:H acc=none)o:Lp acc ρ H ρ1 (L2.upd H1 acc o):=
 ⟨l.f,l.c,λa u e n=>by rw[L2.zM (L2.zY e j)];exact l.d a u e n,λa h=>by
  obtain⟨b,k,_⟩:=l.f;rw[L2.zM λz=>(i.d acc (by rw[l.c];exact AO)).2 (by rw[<-z,k];exact Bp _ h)]
  exact l.g a h⟩
def Lp.here(l:Lp acc ρ H ρ1 H1):acc∈ρ1.h:=by rw[l.c];exact AO
def qE(c:HR K mg ρ1 s1 H1)(b:acc∈ρ1.h)o:Mv ρ1 H1 ρ1 (L2.upd H1 acc o):=
 ⟨λa u e n=>⟨by rw[L2.zM (λz=>n.2 (by rw[z];exact b))];exact e,n⟩,λi a e=>e,λa h=>by rw[L2.zM λz=>(c.d acc b).2 (by rw[<-z];exact h)]⟩
def HR.emit(b:HR K mg ρ1 s1 H1)(k:acc∈ρ1.h)(o:Hid):HR K mg ρ1 s1 (L2.upd H1 acc o.o):=by
 have j:=(b.d acc k).2;refine⟨b.f,b.l,λi c e=>?_,λa p=>?_⟩
 . obtain⟨a,m,q⟩:=b.g i c e
   exact⟨a,m,q.mv (qE b k _) (L2.zM (λz=>j (by rw[<-z];exact AD m)))⟩
 . obtain⟨⟨y,e⟩,n⟩:=b.d a p
   by_cases z:a=acc
   . subst z;exact⟨⟨o,L2.zc⟩,n⟩
   . exact⟨⟨y,by rw[L2.zM z];exact e⟩,n⟩
def Lp.drop(l:Lp acc ρ H ρ1 H1)(b:HR K mg ρ1 s1 H1):Ext ρ H ⟨ρ1.o,ρ.h⟩ H1/\HR K mg ⟨ρ1.o,ρ.h⟩ s1 H1/\Mv ρ1 H1 ⟨ρ1.o,ρ.h⟩ H1:=by
 have m:Mv ρ1 H1 ⟨ρ1.o,ρ.h⟩ H1:=⟨λa u e n=>⟨e,n.1,λz=>n.2 (by rw[l.c];exact AF _ z)⟩,λi a e=>e,λ_ _=>rfl⟩
 refine⟨⟨l.f,rfl,l.d,l.g⟩,⟨b.f,b.l,λi w e=>?_,λa j=>?_⟩,m⟩
 . obtain⟨a,k,t⟩:=b.g i w e
   exact⟨a,k,t.mv m rfl⟩
 . exact b.d a (by rw[l.c];exact AF _ j)
def Lp.done(l:Lp acc ρ H ρ1 H1)(V:HR K mg ρ s H)(N:H acc=none)(p:HR K mg ρ1 s1 H1)(e:H1 acc=some (.b ys))(q:RDs K mg ρ1 H1 vs ys)(w:yQ K mg (RD K mg) ρ H (newList m vs s1) Q):Q (.c acc) H1:=by
 have P:=l.here;have k:=(p.d acc P).2;have y:=(V.new N).2;cases m with
 |false=>
  obtain⟨x,E,v⟩:=l.drop p;exact w ⟨ρ1.o,ρ.h⟩ _ H1 x E (.D ⟨k,y⟩ e (RDs.mv v q))
 |true=>
  have v:Mv ρ1 H1 ⟨ρ1.o++[acc],ρ.h⟩ H1:=by
   refine⟨λa u e n=>⟨e,λj=>?_,λz=>n.2 (by rw[l.c];exact AF _ z)⟩,λi a e=>?_,λ_ _=>rfl⟩
   . rcases AS.mp j with j|j
     . exact n.1 j
     . rw[Al.mp j]at n;exact n.2 P
   . show (ρ1.o++[acc])[i]?=_
     rw[A0 (Ar.mp e).1];exact e
  have L:(ρ1.o++[acc])[s1.length]?=some acc:=by rw[<-p.f,AW (Ad _)];simp
  refine w ⟨ρ1.o++[acc],ρ.h⟩ _ H1 ⟨?_,rfl,l.d,l.g⟩ ⟨?_,?_,λi R r=>?_,λa j=>?_⟩ (.C L (by rw[e];rfl))
  . obtain⟨B,J,A⟩:=l.f
    refine⟨B++[acc],by show ρ1.o++[acc]=_;rw[J,Aq],λa j=>?_⟩
    rcases AS.mp j with j|j
    . exact A a j
    . rw[Al.mp j];exact N
  . show (ρ1.o++[acc]).length=(s1++[Cel.c vs]).length
    rw[Aw,Aw,p.f];rfl
  . show (ρ1.o++[acc]).Nodup
    rw[El];exact⟨p.l,by simp,λa I b T=>by rw[Al.mp T];intro z;subst z;exact k I⟩
  . by_cases hi:i<s1.length
    . rw[A0 hi]at r
      obtain⟨a,J,t⟩:=p.g i R r;exact⟨a,v.c i a J,t.mv v rfl⟩
    . have G:i=s1.length:=by have:=(Ar.mp r).1;rw[Aw]at this;simp at this;omega
      subst G;rw[AW (Ad _)]at r;simp at r;subst r;exact⟨acc,L,ys,e,RDs.mv v q⟩
  . obtain⟨x,n⟩:=p.d a (by rw[l.c];exact AF _ j)
    refine⟨x,λz=>?_⟩;rcases AS.mp z with z|z
    . exact n z
    . rw[Al.mp z]at j;exact y j
end
section
variable {K:KF}{mg:Str->Option Value}
def kJ{J:L2.It}{g:L2.TG}{t:L2.TS}{D:L2.Ends}(P:Nat->L2.St->L2.Hp->Prop)(l:P 0 σ H)(k:∀σ H,P n σ H->J.a n H/\D.a σ H)
 (j:∀i σ H,i<n->P i σ H->J.c i H/\∀x F,J.b i H x F->g x σ F λd M=>t {D with a:=P (i+1),c:=P (i+1),b:=D.a} d M):L2.sX J g t D σ H:=by
 refine⟨λi m σ H=>m=n-i/\i<=n/\P i σ H,⟨n,by simp,AV _,l⟩,?_⟩
 rintro i m σ H ⟨rfl,o,p⟩;by_cases hlt:i<n
 . obtain⟨a,b⟩:=j i σ H hlt p
   exact .inr ⟨a,P (i+1),λf F h=>⟨n-(i+1),⋯,rfl,hlt,h⟩,b⟩
 . have e:i=n:=by omega
   subst e;exact .inl (k σ H p)
structure Acc(K:KF)(mg:Str->Option Value)(acc:Addr) where
 A:Own->L2.Hp->List Val->Prop
 B:List Val->Prop
 d:∀{a b},B (a++b)->B a
 f:∀{ρ H ρ' H' a},A ρ H a->Mv ρ H ρ' H'->H' acc=H acc->A ρ' H' a
 c:∀{ρ H a},A ρ H a->∃o,H acc=some o
def Acc.step(Z:Acc K mg acc)(h:Z.A ρ H a)(b:HR K mg ρ s H)(g:acc∈ρ.h)(x:Ext ρ H ρ' H'):Z.A ρ' H' a:=by obtain⟨o,e⟩:=Z.c h;exact Z.f h x.mv (by rw[x.c _ _ e (b.d acc g).2,e])
structure CS{acc:Addr}(Z:Acc K mg acc)(ρ0:Own)(H0:L2.Hp)(a:List Val)(s:Sto)(env:Env)(ρ:Own)(σ:L2.St)(H:L2.Hp):Prop where
 d:Lp acc ρ0 H0 ρ H
 b:HR K mg ρ s H
 c:ER K mg ρ H env σ
 e:Z.A ρ H a
def Grows(c:Env->Sto->List Val->Out (List Val × Env)):Prop:=∀e s a p f,c e s a=.e p f->∃b,p.1=a++b
theorem uM(f:Grows body):∀{xs} {env} {s} {a} {p} {s'},zz r t body xs env s a=.e p s'->∃b,p.1=a++b
 |[],env,s,a,p,s',h=>by
  rw[zz]at h;split at h
  . cases h;exact⟨[],(A5 _).symm⟩
  . cases h
 |x::xs,env,s,a,p,s',h=>by
  rw[zz]at h;split at h
  . split at h
    . cases h
    . rename_i env' he
      cases hc:body env' s a with
      |e q u=>
       rw[hc]at h;obtain⟨b,e⟩:=f _ _ _ _ _ hc;obtain⟨c,i⟩:=uM f h;exact⟨b++c,by rw[i,e,Aq]⟩
      |g _ _ _=>rw[hc]at h;cases h
      |d=>rw[hc]at h;cases h
  . cases h
def BodyOk{i:Addr}(Z:Acc K mg i)(c:Own)(C:L2.Hp)(h:Env->Sto->List Val->Out (List Val × Env))(t:L2.TS):Prop:=
 ∀(ρ:Own) (s:Sto) (H:L2.Hp) (g:Env) (σ:L2.St) (a:List Val) (p:List Val × Env) (s':Sto) (D:L2.Ends),CS Z c C a s g ρ σ H->h g s a=.e p s'->Z.B p.1 ->
  (∀f A b,CS Z c C p.1 s' p.2 f b A->Mv ρ H f A->D.a b A)->t D σ H
def w5{Z:Acc K mg acc}
   (W:Walk K mg ρ H r J) (TG:rn K mg t g) (hg:Grows body) (hb:BodyOk Z ρ0 H0 body tb)
 (C:CS Z ρ0 H0 a s env ρ σ H) (h:zz r t body r.a env s a=.e p sf) (U:Z.B p.1) (R:∀w F u,CS Z ρ0 H0 p.1 sf p.2 w u F->Mv ρ H w F->D.a u F):L2.sX J g tb D σ H:=by
 refine kJ (n:=r.a.length) (λi l E=>∃f m j v,CS Z ρ0 H0 v m j f l E/\Mv ρ H f E/\zz r t body (r.a.drop i) j m v=.e p sf) ⟨ρ,s,env,a,C,Mv.refl,by rw[CT];exact h⟩ ?_ ?_
 . rintro l E ⟨f,m,j,v,A,z,k⟩
   rw[List.drop_length,zz]at k;split at k
   . rename_i ho
     cases k;exact⟨W.a f E _ _ z A.b ho rfl,R f E l A z⟩
   . cases k
 . rintro i l E hi ⟨f,m,j,v,A,z,k⟩
   rw[BA hi,zz]at k;split at k
   . rename_i ho
     obtain⟨Q,Y⟩:=W.c f E m i (r.a[i]) z A.b ho (dS hi);refine⟨Q,λx I y=>?_⟩;obtain⟨hH,S⟩:=Y x I y;split at k
     . cases k
     . rename_i env' he
       have G:CS Z ρ0 H0 v m j f l I/\Mv f E f I:=by
        rcases hH with e|⟨q,o,M,e⟩
        . subst e;exact⟨A,Mv.refl⟩
        . subst e
          have X:=Ext.new A.b M o;exact⟨⟨A.d.step A.b X,A.b.more M o,A.c.mono X,Z.step A.e A.b A.d.here X⟩,X.mv⟩
       refine TG f m I _ x j env' l _ G.1.b S G.1.c he λL T=>?_;cases hc:body env' m v with
       |e q V=>
        rw[hc]at k;obtain⟨b,eb⟩:=uM hg k;exact hb f m I env' L v q V _ ⟨G.1.d,G.1.b,T,G.1.e⟩ hc (Z.d (eb▸U)) λN H5 O C5 P=>⟨N,V,q.2,q.1,C5,(z.trans G.2).trans P,k⟩
       |g _ _ _=>rw[hc]at k;cases k
       |d=>rw[hc]at k;cases k
   . cases k
end
section
variable (K:KF)(mg:Str->Option Value)(Φ:Calls)(G:Str->Option Val)
def uE(e:Ex):L2.TE:=λb H Q=>∃a s,tV K mg a s (evE Φ G a e s) b H Q
def uT(e:Cn):L2.TT:=λb H Q=>∃a s,tT K mg a s (evT Φ G a e s) b H Q
def uI(i:Itb):L2.TI:=λa H R=>∃e s,tI (K:=K) (mg:=mg) e s (zx Φ G e i s) a H R
noncomputable def uTs:Cns->List L2.TT
 |.a=>[]
 |.b e es=>uT K mg Φ G e::uTs es
end
section
variable {K:KF}{mg:Str->Option Value}{Φ:Calls}{G:Str->Option Val}
def cq(h:∀u s,L2.PE X E (tV X.K X.d u s (evE Φ G u e s))):L2.PE X E (uE X.K X.d Φ G e):=λp s a H Q I ⟨u,t,q⟩=>h u t p s a H Q I q
def Po(h:∀u s,L2.PT X E (tT X.K X.d u s (evT Φ G u e s))):L2.PT X E (uT X.K X.d Φ G e):=λp s a H Q I ⟨u,t,q⟩=>h u t p s a H Q I q
def oP(h:∀e s,L2.PI X tg E (tI (K:=X.K) (mg:=X.d) e s (zx Φ G e it s))):L2.PI X tg E (uI X.K X.d Φ G it):=λp s a H Q I ⟨e,t,q⟩=>h e t p s a H Q I q
theorem p7:∀{es} {ρ} {s} {H},HR K mg ρ s H->ER K mg ρ H env σ->yM Φ G env es s=.e b s2 ->
 (∀u F,Ext ρ H u F->HR K mg u s2 F->Q b F)->L2.lM (uTs K mg Φ G es) σ H Q
 |.a,ρ,s,H,hr,er,h,q=>by
  rw[yM]at h;cases h;exact q ρ H Ext.refl hr
 |.b e es,ρ,s,H,hr,er,h,q=>by
  rw[yM]at h;refine⟨env,s,ρ,hr,er,?_⟩;cases hc:evT Φ G env e s with
  |e c s1=>
   rw[hc]at h;intro M c' Y O w W;cases W;cases c with
   |true=>exact L2.oM (p7 w (er.mono O) h λu F U S=>q u F (O.trans w U) S)
   |false=>
    simp only[zJ]at h;cases h;exact L2.oK (q M Y O w)
  |g _ _ _=>rw[hc]at h;cases h
  |d=>rw[hc]at h;cases h
def uX(Φ:Calls)(G:Str->Option Val)(c:Ex)(i:Cns):Env->Sto->List Val->Out (List Val × Env):=λe g a=>(yM Φ G e i g).bind λb s=>if b then (evE Φ G e c s).bind λv f=>.e (a++[v],e) f else .e (a,e) s
def xX:Grows (uX Φ G elt ifs):=by
 intro e s a p f h;unfold uX at h;cases hc:yM Φ G e ifs s with
 |e b c=>
  rw[hc]at h;cases b with
  |true=>
   simp only[zJ,if_true]at h;cases hv:evE Φ G e elt c with
   |e v s2=>rw[hv]at h;cases h;exact⟨_,rfl⟩
   |g _ _ _=>rw[hv]at h;cases h
   |d=>rw[hv]at h;cases h
  |false=>simp only[zJ]at h;cases h;exact⟨[],(A5 _).symm⟩
 |g _ _ _=>rw[hc]at h;cases h
 |d=>rw[hc]at h;cases h
def Xc{b:Addr}(Z:Acc K mg b)(i:(L2.St->L2.Hp->Prop)->L2.St->L2.V->L2.Hp->Prop):Prop:=∀{c:Own} {s:Sto} {H:L2.Hp} {a:List Val} {v:Val} {y:L2.V} {Nx:L2.St->L2.Hp->Prop} {σ:L2.St},
 HR K mg c s H->b∈c.h->Z.A c H a->RD K mg c H v y->Z.B (a++[v])->(∀o:Hid,Z.A c (L2.upd H b o.o) (a++[v])->Nx σ (L2.upd H b o.o))->i Nx σ y H
def sr{Z:Acc K mg acc}(R:Xc Z inn)(Q:H0 acc=none):BodyOk Z ρ0 H0 (uX Φ G elt ifs) (L2.tTB (uTs K mg Φ G ifs) λF w H=>uE K mg Φ G elt w H (inn F w)):=by
 intro B s H k w a p O D C h P q;unfold uX at h;cases hc:yM Φ G k ifs s with
 |e b I=>
  rw[hc]at h;refine p7 (ρ:=B) (s:=s) C.b C.c hc λm J x j=>?_;have r:=Z.step C.e C.b C.d.here x;cases b with
  |true=>
   simp only[zJ,if_true]at h;refine L2.oM ⟨k,I,m,j,C.c.mono x,?_⟩;cases hv:evE Φ G k elt I with
   |e v s2=>
    rw[hv]at h;cases h;intro t y M E f N;have z:=x.trans j E;have l:=C.d.step C.b z;refine R f l.here (Z.step r j (C.d.step C.b x).here E) N P λo A=>?_;have n:=qE (H1:=M) f l.here o.o;refine q t _ w ⟨l.emit f Q _,f.emit l.here o,⟨C.c.b,λi L X=>?_⟩,A⟩ (z.mv.trans n);obtain⟨u,V,T⟩:=(C.c.mono z).a i L X;exact⟨u,V,RD.mv n T⟩
   |g _ _ _=>rw[hv]at h;cases h
   |d=>rw[hv]at h;cases h
  |false=>
   simp only[zJ]at h;cases h;exact L2.oK (q m J w ⟨C.d.step C.b x,j,C.c.mono x,r⟩ x.mv)
 |g _ _ _=>rw[hc]at h;cases h
 |d=>rw[hc]at h;cases h
def Qx(K:KF)(mg:Str->Option Value)(g:Addr):Acc K mg g where
 A:=λi H a=>∃y,H g=some (.b y)/\RDs K mg i H a y
 B:=λa=>a.length<=zP
 d:=λh=>Au (by rw[Aw];exact EJ _ _) h
 f:=λ⟨y,e1,e2⟩ x e=>⟨y,e.trans e1,RDs.mv x e2⟩
 c:=λ⟨_,e,_⟩=>⟨_,e⟩
def Oo(a:Addr)(N:L2.St->L2.Hp->Prop)(f:L2.St)(y:L2.V)(H:L2.Hp):Prop:=∃c,H a=some (.b c)/\c.length<AI/\N f (L2.upd H a (.b (c++[y])))
def gq:Xc (Qx K mg acc) (Oo acc):=λ{ρ s H a v y Nx σ} hr ha ⟨ys,e1,e2⟩ r hz q=>by
 have c:ys.length<AI:=by have h:(a++[v]).length<=zP:=hz;rw[Aw,e2.length,yS]at h;simp at h;omega
 exact⟨ys,e1,c,q (.b _) ⟨_,L2.zc,RDs.mv (qE hr ha _) (e2.append (.a r .d))⟩⟩
def tw(Φ:Calls)(G:Str->Option Val)(h:Ex)(g:Cns)(t:Tgt)(f:Itb)(i:Cns):Env->Sto->List Val->Out (List Val × Env):=λe k c=>(yM Φ G e g k).bind λb s=>if b then (zx Φ G e f s).bind λr j=>
 zz r t (uX Φ G h i) r.a e j c
 else .e (c,e) s
def vm:Grows (tw Φ G elt ifs t2 it2 ifs2):=by
 intro e s a p f h;unfold tw at h;cases hc:yM Φ G e ifs s with
 |e b c=>
  rw[hc]at h;cases b with
  |true=>
   simp only[zJ,if_true]at h;cases hv:zx Φ G e it2 c with
   |e v s2=>rw[hv]at h;exact uM xX h
   |g _ _ _=>rw[hv]at h;cases h
   |d=>rw[hv]at h;cases h
  |false=>simp only[zJ]at h;cases h;exact⟨[],(A5 _).symm⟩
 |g _ _ _=>rw[hc]at h;cases h
 |d=>rw[hc]at h;cases h
def rT{Z:Acc K mg acc}(E:Xc Z inn)(B:H0 acc=none)(T:rn K mg t2 g2) :
 BodyOk Z ρ0 H0 (tw Φ G elt ifs t2 it2 ifs2) (L2.tTB (uTs K mg Φ G ifs) (L2.tm (uI K mg Φ G it2) g2 (uTs K mg Φ G ifs2) λF u H=>uE K mg Φ G elt u H (inn F u))):=by
 intro v s H i u a p P D C h A q;unfold tw at h;cases hc:yM Φ G i ifs s with
 |e b z=>
  rw[hc]at h;refine p7 (ρ:=v) (s:=s) C.b C.c hc λj L x f=>?_;have k:=Z.step C.e C.b C.d.here x;have l:=C.d.step C.b x;cases b with
  |true=>
   simp only[zJ,if_true]at h;refine L2.oM ⟨i,z,j,f,C.c.mono x,?_⟩;cases hv:zx Φ G i it2 z with
   |e Q s2=>
    rw[hv]at h;intro w R J o t W;have y:=x.trans f o;exact w5 W T xX (sr E B) ⟨l.step f o,t,C.c.mono y,Z.step k f l.here o⟩ h A λn I m N r=>q n I m N (y.mv.trans r)
   |g _ _ _=>rw[hv]at h;cases h
   |d=>rw[hv]at h;cases h
  |false=>
   simp only[zJ]at h;cases h;exact L2.oK (q j L u ⟨l,f,C.c.mono x,k⟩ x.mv)
 |g _ _ _=>rw[hc]at h;cases h
 |d=>rw[hc]at h;cases h
def bS(f:ER K mg ρ H env σ)fr:ER K mg ρ H (zL fr env) (L2.zL fr σ):=by
 refine⟨by unfold zL L2.zL;rw[Ac,Ac],λi v e=>?_⟩
 unfold zL at e;unfold L2.zL;rw[An]at e ⊢;cases hf:fr[i]? with
 |none=>rw[hf]at e;cases e
 |some o=>
  rw[hf]at e;cases o with
  |none=>cases e
  |some j=>
   have b:(env[j]?).join=some v:=AL e;have g:env[j]?=some (some v):=by
    cases h:env[j]? with
    |none=>rw[h]at b;cases b
    |some w=>rw[h]at b;have:w=some v:=b;rw[this]
   obtain⟨x,h,c⟩:=f.a j v g;refine⟨x,?_,c⟩;show some ((σ[j]?).join)=_;rw[h];rfl
def lz{Z:Acc K mg acc}{D:L2.Ends}(o:Hid)fr(k:HR K mg ρ s H)(G:ER K mg ρ H env σ)(W:Walk K mg ρ H r J)(h:H acc=none)(T:rn K mg t g)(y:Grows body)
 (z:BodyOk Z ρ H body tb) (E:Z.A (ρ.hide acc) (L2.upd H acc o.o) []) (q:zz r t body r.a (zL fr env) s []=.e p sf) (n:Z.B p.1) (l:∀u F d,CS Z ρ H p.1 sf p.2 u d F->D.a d F):L2.sX J g tb D (L2.zL fr σ) (L2.upd H acc o.o):=by
 have m:=mU (ρ:=ρ) k h o.o;have c:=bS G fr;refine w5 (ρ0:=ρ) (H0:=H) (W.mv m) T y z ⟨Lp.start k h _,k.hide h o,⟨c.b,λi v e=>?_⟩,E⟩ q n λj I f L _=>l j I f L;obtain⟨x,C,w⟩:=c.a i v e;exact⟨x,C,RD.mv m w⟩
def ue(T:rn K mg t g)(y:Grows body)
 (z:∀u O S,S u=none->BodyOk (Qx K mg u) O S body (L2.tTB ts (tb u)))    
 (h:tV K mg env s ((zx Φ G env it s).bind λr M=>(zz r t body r.a (zL fr env) M []).bind λp F=>if chk=true->p.1.length<=zP then newList m p.1 F else .d) σ H Q)
 (i:chk=false->∀r M p F,zz r t body r.a (zL fr env) M []=.e p F->p.1.length<=r.a.length):L2.uR fr (uI K mg Φ G it) g ts tb σ H Q:=by
 obtain⟨k,v,n,w⟩:=h;refine⟨env,s,k,v,n,?_⟩;cases hi:zx Φ G env it s with
 |e r M=>
  rw[hi]at w;simp only[zJ]at w;intro j D J x f W u c;cases hl:zz r t body r.a (zL fr env) M [] with
  |e p F=>
   rw[hl]at w;simp only[zJ]at w;have l:p.1.length<=zP/\yQ K mg (RD K mg) k H (newList m p.1 F) Q:=by
    by_cases hc:chk=true->p.1.length<=zP
    . rw[if_pos hc]at w
      refine⟨?_,w⟩;cases chk with
      |true=>exact hc rfl
      |false=>exact Au (i rfl r M p F hl) W.b
    . rw[if_neg hc]at w;exact w.elim
   refine lz (.b []) fr f (n.mono x) W c T y (z u j D c) ⟨[],L2.zc,.d⟩ hl l.1 λq I o C=>?_;obtain⟨E,B,A⟩:=C.e;exact C.d.done f c C.b B A (l.2.mono x f)
  |g _ _ _=>rw[hl]at w;exact w.elim
  |d=>rw[hl]at w;exact w.elim
 |g _ _ _=>rw[hi]at w;exact w.elim
 |d=>rw[hi]at w;exact w.elim
theorem rV:∀{xs} {env} {s} {a} {p} {s'},zz r t (uX Φ G elt ifs) xs env s a=.e p s'->p.1.length<=a.length+xs.length
 |[],env,s,a,p,s',h=>by
  rw[zz]at h;split at h
  . cases h;exact Ad _
  . cases h
 |x::xs,env,s,a,p,s',h=>by
  rw[zz]at h;split at h
  . split at h
    . cases h
    . rename_i env' he
      cases hc:uX Φ G elt ifs env' s a with
      |e q u=>
       rw[hc]at h;have w:=rV h;have c:q.1.length<=a.length+1:=by
        unfold uX at hc;cases h3:yM Φ G env' ifs s with
        |e b s2=>
         rw[h3]at hc;cases b with
         |true=>
          simp only[zJ,if_true]at hc;cases h4:evE Φ G env' elt s2 with
          |e v s3=>rw[h4]at hc;cases hc;simp
          |g _ _ _=>rw[h4]at hc;cases hc
          |d=>rw[h4]at hc;cases hc
         |false=>simp only[zJ]at hc;cases hc;exact CZ _
        |g _ _ _=>rw[h3]at hc;cases hc
        |d=>rw[h3]at hc;cases hc
       rw[Ap];omega
      |g _ _ _=>rw[hc]at h;cases h
      |d=>rw[hc]at h;cases h
  . cases h
end
end M
end
section
namespace M
open PySem PySem.W
structure Lv(T:Tbl)(P:Program)(w:World)(K:KF)(mg:Str->Option Value)(base:Heap)(n:Nat):Prop where
 ex:∀f v F,T.c f v=some F->∃fa fd,mg f=some (.ref fa)/\Dm K (.ref fa)=true/\L2.Binds K fd F.a []/\L2.qV P w K mg base L2.CX0 n fa fd F.a (spN T K mg n f v)
end M
end
section
namespace L2
open PySem PySem.Spec PyProof.Rows
def R9(t:List Addr)(H:Hp):Prop:=∀b,H b=none\/(∃o x,H b=some (.g o (.b x)))\/(b∈t/\H b=some (.d #[]))
def di{K}{tabs:List Addr}
 (KX:K.In s₁.heap) (N:s₁.heap.Ns Bt mg) (f:s₁.heap.Ns builtinsNs mb) (W:∀x:Str,x≠"__name__"->mb x=Ds x) (Q:s₁.heap.NoLimit) (hg:s₁.gens=#[])
 (R:s₁.heap.get? a=some {cls:=.type "list",data:=.seq vs.toArray}) (hi:IntsAre vs ns) (hl:ns.length<=AI) (hr:xD k callerA)
 (E:∀b∈tabs,s₁.heap.get? b=some (Gx #[])/\K.lookup b=none/\isCodeTable s₁.heap b)
 (F:∀l:Heap,K.In l->l.Ns Bt mg->qV P w K mg l CX k fa fd [x] sp) (C:∀s u,BindsTo s fd ⟨[u],[]⟩ [(x,u)])
 (U:∀H:Hp,(∀b∈tabs,H b=some (.d #[]))->SqL K H a (ns.map V.d)->sp [.c a] H (λv _=>v=.e true) λ_ _ _=>False)
 (Y:∀H e i,CX [] H s₁ (λ_ _ _=>False) e i->False) :
 codeAny (model P w) callerA (.call (.ref fa) ⟨[.ref a],[]⟩) (λr i=>r=.ok (.ret (.bool true))/\OldK s₁.heap i.heap/\i.os=s₁.os/\AllBare i.gens) s₁:=by
 have rv:=ni hi;have J:=hi.length;have I:a ∉ tabs:=λz=>by have:=(E a z).1;rw[R]at this;cases this
 have B:∀H:Hp,R9 tabs H->(∀b∈tabs,H b=some (.d #[]))->SqL K H a (ns.map V.d)->HOk P w H s₁.heap->(∀b,H b≠none->b=a\/b∈tabs)->(H a≠none->K.lookup a=none) ->
  codeAny (model P w) callerA (.call (.ref fa) ⟨[.ref a],[]⟩) (λr i=>r=.ok (.ret (.bool true))/\OldK s₁.heap i.heap/\i.os=s₁.os/\AllBare i.gens) s₁:=by
  intro H hO hT hS L hA hK;have ve:∀{b:Addr} {o:Obj},s₁.heap.get? b=some o->H b=none->(mT s₁.heap H).get? b=some o:=λe n=>ZA e n;have S:∀{b:Addr} {o:Obj} {es:Array DictEntry} {G:Nat},s₁.heap.get? b=some o->o.data=.dict es G->H b=none:=λ{b o es G} e d=>by
   cases q:H b with
   |none=>rfl
   |some u=>
    rcases hA b (by rw[q];simp) with D|D
    . subst D
      rw[R]at e;cases e;have d':Data.seq vs.toArray _=Data.dict es G:=d;cases d'
    . rw[(E b D).1]at e;cases e
      have d':HZ #[]=Data.dict es G:=d;cases d'
  have t:∀{b:Addr} {m:Str->Option Value},s₁.heap.Ns b m->(mT s₁.heap H).Ns b m:=λ{b m} ⟨o,es,G,e,d,r⟩=>⟨o,es,G,ve e (S e d),d,r⟩;have T:K.In (mT s₁.heap H):=λb o e=>ve (KX b o e) (by
   cases q:H b with
   |none=>rfl
   |some u=>
    rcases hA b (by rw[q];simp) with D|D
    . subst D
      rw[hK (by rw[q];simp)]at e;cases e
    . rw[(E b D).2.1]at e;cases e)
  have hM:Mod K mg (mT s₁.heap H):=⟨T,t N,⟨mb,t f,W⟩,let ⟨mc,h1,h2⟩:=Q;⟨mc,t h1,h2⟩⟩;have e0:Xe P w K mg (mT s₁.heap H) callerA [] s₁ H:=⟨rfl,hM,λb o e=>Wz e,Ce (dO _ _),trivial,λb f=>absurd (show b∈([]:List Addr) from f) (by simp),L,.of_eq hg⟩
  refine codeAny_mono ((F _ T (t N)).a callerA [] s₁ H ⟨[.ref a],[]⟩ [.ref a] [.c a] _ _ hr e0 (C s₁ (.ref a)) (.cons rfl .nil) (U H hT hS)) λr i h=>?_;cases r with
  |error e=>exact(Y H e i h).elim
  |ok fl=>
   cases fl with
   |next=>exact Dp h
   |brk=>exact Dp h
   |cont=>exact Dp h
   |ret u=>
    obtain⟨v,H',os,X,O,A,r',q⟩:=h;have q':v=.e true:=q;subst q';obtain rfl:u=D0 true:=r';have Z:∀b o,s₁.heap.get? b=some o->asItWas s₁.heap i.heap b o:=λb o e=>by
     cases q:H b with
     |none=>exact .inl (O.d b o e q (by intro z;exact absurd (show b∈([]:List Addr) from z) (by simp)) (by simp))
     |some u=>
      rcases hO b with z|⟨ob,xs,z⟩|⟨z1,z⟩
      . rw[q]at z;cases z
      . have M:=O.g b ob _ z
        obtain⟨e1,_⟩:=L b _ z;obtain⟨e2,_⟩:=A b _ M;rw[e]at e1;cases e1;exact .inl e2
      . obtain⟨y,M⟩:=O.j b _ z
        have e2:i.heap.get? b=some (Gx (#[]++y)):=A b _ M;obtain⟨t1,_,t3⟩:=E b z1;rw[e]at t1;cases t1;exact .inr (.inl ⟨t3,rfl,#[],y,rfl,e2⟩)
    exact⟨rfl,⟨Z,λb o e=>by
     rcases Z b o e with z|⟨_,_,_,_,_,z⟩|⟨_,_,⟨o',_,_,z,_⟩,_⟩
     . exact⟨_,z⟩
     . exact⟨_,z⟩
     . exact⟨_,z⟩⟩,os,X⟩
 cases hk:K.lookup a with
 |some o=>
  have e:=KX a o hk;rw[R]at e;cases e;refine B (λb=>if b∈tabs then some (.d #[]) else none) (λb=>?_) (λb f=>if_pos f) (.inr ⟨_,vs.toArray,_,hk,rfl,rfl,rfl,by rw[Ae,J];exact hl,by simpa using rv⟩) (λb u z=>?_) (λb z=>?_) λz=>?_
  . by_cases f:b∈tabs
    . exact .inr (.inr ⟨f,if_pos f⟩)
    . exact .inl (if_neg f)
  . by_cases f:b∈tabs
    . have p:=(if_pos f).symm.trans z
      cases p;exact(E b f).1
    . have p:=(if_neg f).symm.trans z
      cases p
  . by_cases f:b∈tabs
    . exact .inr f
    . exact absurd (if_neg f) z
  . exact absurd (if_neg I) z
 |none=>
  refine B (λb=>if b=a then some (.g {cls:=.type "list",data:=.seq vs.toArray} (.b (ns.map V.d))) else if b∈tabs then some (.d #[]) else none) (λb=>?_) (λb f=>(if_neg (λz=>I (by rw[<-z];exact f))).trans (if_pos f)) (.inl (.inr ⟨{cls:=.type "list",data:=.seq vs.toArray},if_pos rfl⟩)) (λb u z=>?_) (λb z=>?_) λ_=>hk
  . by_cases f:b=a
    . exact .inr (.inl ⟨_,_,if_pos f⟩)
    . by_cases hb2:b∈tabs
      . exact .inr (.inr ⟨hb2,(if_neg f).trans (if_pos hb2)⟩)
      . exact .inl ((if_neg f).trans (if_neg hb2))
  . by_cases f:b=a
    . have p:=(if_pos f).symm.trans z
      cases p;subst f;exact⟨R,by rw[Ac];exact hl,vs,_,rv,R⟩
    . by_cases hb2:b∈tabs
      . have p:=((if_neg f).trans (if_pos hb2)).symm.trans z
        cases p;exact(E b hb2).1
      . have p:=((if_neg f).trans (if_neg hb2)).symm.trans z
        cases p
  . by_cases f:b=a
    . exact .inl f
    . by_cases hb2:b∈tabs
      . exact .inr hb2
      . exact absurd ((if_neg f).trans (if_neg hb2)) z
end L2
end
section
namespace M
open PySem
noncomputable def UM(s:Scope)(x:Str):Bool:=decide (s.names.lookup x=some .local)||decide (s.names.lookup x=some .cell)||decide (s.names.lookup x=some .free)
noncomputable def wg(s:Scope)(x:Str):Bool:=decide (s.names.lookup x=some .globalImplicit)
noncomputable def wy:List Str:=["len","all","any","tuple","list","sorted","repr","max","min","sum","int","isinstance","divmod","str","bool","dict","set","range","enumerate","zip"]
noncomputable def ON(y:Str)(n:String):Bool:=(decide (y="int")&&decide (n="int"))||(decide (y="bool")&&decide (n="bool"))||(decide (y="str")&&decide (n="str"))||(decide (y="list")&&decide (n="list"))||(decide (y="tuple")&&decide (n="tuple"))||(decide (y="dict")&&decide (n="dict"))
noncomputable def vC:Val->Option Const
 |.h=>some .none
 |.e b=>some (.bool b)
 |.c i=>some (.int i)
 |.m x=>some (.str x)
 |_=>none
def QG(v:Val)(e:Expr):Bool:=U7 e λc _ _=>decide (vC v=some c)
noncomputable def isLit:Ex->Int->Bool
 |.h (.c i),j=>decide (i=j)
 |_,_=>false
noncomputable def Oq:Ex->Bool
 |.h (.m _)=>true
 |_=>false
def kP(h:isLit e j=true):e=.h (.c j):=by
 unfold isLit at h;split at h
 . rw[of_decide_eq_true h]
 . cases h
def ckM(f:Mf)(k:Expr->Bool)(l:List Expr->Bool)(e:Expr):Bool:=(eMt e λo x a y c=>decide (x=f.nm)&&k o&&l [y]&&plain y&&mn o&&(a.endLine == c.line)&&okM f)
noncomputable def Oj(e:Expr)(k:Expr->Bool):Bool:=match e with
 |.SetComp _ (⟨_,i,_,0⟩::_) _ _=>k i
 |_=>false
def eSC(e:Expr)(k:Expr->List DC->Scope->Pos->Bool):Bool:=el e.ctorIdx 9 λh=>Expr.SetComp.elim (motive_1:=λ_=>Bool) e h k
def fO(h:eSC e k=true):∃x u d p,e=.SetComp x u d p/\k x u d p=true:=by obtain⟨a,h⟩:=yD h;obtain⟨x,u,d,p,rfl⟩:∃x u d p,e=.SetComp x u d p:=Expr.SetComp.elim (motive_1:=λe=>∃x u d p,e=Expr.SetComp x u d p) e a λx u d p=>⟨x,u,d,p,rfl⟩;exact⟨x,u,d,p,rfl,h⟩
def sG1(e:Expr)(k:Expr->Expr->Expr->List Expr->Scope->Bool):Bool:=eSC e λx a s _=>l1 a λg=>gC g λt i f=>k x t i f s
def Ve(h:sG1 e k=true):∃x t i f d p,e=.SetComp x [⟨t,i,f,0⟩] d p/\k x t i f d=true:=by obtain⟨x,j,d,p,rfl,c⟩:=fO h;obtain⟨g,rfl,b⟩:=yW c;obtain⟨t,i,f,rfl,a⟩:=rG b;exact⟨x,t,i,f,d,p,rfl,a⟩
def sG2(e:Expr)(k:Expr->Expr->Expr->List Expr->Expr->Expr->List Expr->Scope->Bool):Bool:=eSC e λx a s _=>lc a λg a=>l1 a λh=>gC g λt i f=>gC h λb c j=>k x t i f b c j s
def Vf(h:sG2 e k=true):∃x t i f d w F u p,e=.SetComp x [⟨t,i,f,0⟩,⟨d,w,F,0⟩] u p/\k x t i f d w F u=true:=by obtain⟨x,n,u,p,rfl,l⟩:=fO h;obtain⟨g,m,rfl,j⟩:=xK l;obtain⟨o,rfl,c⟩:=yW j;obtain⟨t,i,f,rfl,b⟩:=rG c;obtain⟨d,w,F,rfl,a⟩:=rG b;exact⟨x,t,i,f,d,w,F,u,p,rfl,a⟩
def U9(s:Scope)(e:Expr)(k:Expr->Bool):Bool:=eCN e λx a=>l1 a λy=>(decide (x="sorted")&&wg s x)&&k y
def kE(h:U9 sc e k=true):∃p y d,e=.Call (.Name "sorted" p) [y] [] d/\sc.names.lookup ("sorted":Str)=some .globalImplicit/\k y=true:=by obtain⟨x,p,g,d,rfl,f⟩:=wN h;obtain⟨y,rfl,a⟩:=yW f;simp only[ub,decide_eq_true_eq,wg]at a;obtain⟨⟨rfl,c⟩,b⟩:=a;exact⟨p,y,d,rfl,c,b⟩
noncomputable def stF:Exs->Bool
 |.a (.D _) .b=>true
 |_=>false
noncomputable def Q4:Ex->Bool
 |.D _=>false
 |_=>true
def ckA(s:Scope)(f:Str)(q:List Expr->Bool)(e:Expr):Bool:=eCN e λx a=>decide (x=f)&&wg s x&&!(x == ("__debug__":Str))&&q a&&yX a
mutual
noncomputable def ck(m:Scope)(N:List Str):Ex->Expr->Bool
 |.h v,e=>QG v e
 |.e i,e=>(eName e λx _=>decide (N[i]?=some x)&&UM m x&&!(x == ("__debug__":Str))&&!(x == ("__classdict__":Str)))
 |.E y,e=>(eName e λx _=>decide (x=y)&&wg m x&&!(x == ("__debug__":Str)))
 |.O y n,e=>(eName e λx _=>decide (x=y)&&wg m x&&ON y n)
 |.l _ op a b,e=>(QJ e λl o r _=>(okB op&&decide (o=op.op))&&ck m N a l&&ck m N b r)
 |.C a,e=>(eOp .USub e λx=>ck m N a x)
 |.I a,e=>(eOp .Not e λx=>ck m N a x)
 |.k op a b,e=>(eC1 e λl o r=>(okC op&&decide (o=op.op))&&ck m N a l&&ck m N b r&&plain r)
 |.s op op' a b c,e=>(eC2 e λl o o' r r'=>(okC op&&decide (o=op.op))&&(okC op'&&decide (o'=op'.op))&&ck m N a l&&ck m N b r&&ck m N c r'&&plain r')
 |.z a es,e=>(eBl .And e λx W=>ck m N a x&&ckL m N es W)
 |.P _ _,_=>false
 |.H c a b,e=>(QL e λt x y _=>ckC m N c t&&ck m N a x&&ck m N b y)
 |.p es,e=>(aa e λW _ _=>ckL m N es W&&yX W)
 |.w _ es,e=>(QM e λW _=>ckL m N es W&&yX W)
 |.K,_=>false
 |.G _,e=>(eD0 e)
 |.Q _ _,_=>false
 |.D a,e=>Oj e λi=>ck m N a i
 |.M _ _,_=>false
 |.B _ N' fr elt t it ifs,e=>(U9 m e λy=>sG1 y λx tg S fs d=>L2.tN m N N' d fr&&decide N'.Nodup&&ckT d N' t tg&&ckI m N it S tg&&oH d N' ifs fs&&ck d N' elt x&&plain S)
 |.A _ N' fr elt t it ifs t2 it2 ifs2,e=>(U9 m e λy=>sG2 y λx tg S fs Y U fs2 d=>L2.tN m N N' d fr&&decide N'.Nodup&&ckT d N' t tg&&ckI m N it S tg&&oH d N' ifs fs&&ckT d N' t2 Y&&ckI d N' it2 U Y&&oH d N' ifs2 fs2&&ck d N' elt x&&plain S&&plain U)
 |.g f ver es,e=>if ver<100 then ckA m f (λW=>ckL m N es W) e else false
 |.j f _ es,e=>(eCN e λx W=>lc W λy ys=>((okF f||stF es)&&decide (x=f.nm))&&wg m x&&ckL m N es (y::ys)&&yX (y::ys))
 |.L _ _,_=>false
 |.J f _ o es,e=>ckM f (λob=>ck m N o ob) (λys=>ckL m N es ys) e
 |.u a b,e=>(X1 e λl r _=>ck m N a l&&ck m N b r&&plain r)
 |.F _ a lo hi st,e=>(eSS e λl x y z=>ck m N a l&&ckO m N lo x&&ckO m N hi y&&ckO m N st z)
 |.q _ N' fr elt t it ifs,e=>(eG1 e λx tg S fs d=>L2.tN m N N' d fr&&decide N'.Nodup&&ckT d N' t tg&&ckI m N it S tg&&oH d N' ifs fs&&ck d N' elt x&&plain S)
 |.y _ N' fr elt t it ifs t2 it2 ifs2,e=>(eG2 e λx tg S fs Y U fs2 d=>L2.tN m N N' d fr&&decide N'.Nodup&&ckT d N' t tg&&ckI m N it S tg&&oH d N' ifs fs&&ckT d N' t2 Y&&ckI d N' it2 U Y&&oH d N' ifs2 fs2&&ck d N' elt x&&plain S&&plain U)
 |.r _ z a w,e=>(eCN e λx W=>l1 W λi=>eCN i λy ys=>lc ys λc ds=>if ds.isEmpty then (if Oq w then false else isLit z 0&&isLit w 1&&decide (x="list")&&decide (y="range"))&&wg m x&&wg m y&&ck m N a c&&plain c else false)
noncomputable def ckL(s:Scope)(N:List Str):Exs->List Expr->Bool
 |.b,es=>es.isEmpty
 |.a a as,es=>(lc es λe es=>ck s N a e&&ckL s N as es)
noncomputable def ckO(s:Scope)(N:List Str):OEx->Option Expr->Bool
 |.b,e=>e.isNone
 |.a a,e=>(o1 e λe=>ck s N a e)
noncomputable def ckC(s:Scope)(N:List Str):Cn->Expr->Bool
 |.a a,e=>ck s N a e&&(plainT e||decide (e.ctorIdx=15))
 |.b c,e=>(eOp .Not e λx=>ckC s N c x)
 |.d c cs,e=>(eBl .And e λx u=>ckC s N c x&&oH s N cs u)
 |.f c cs,e=>(eBl .Or e λx u=>ckC s N c x&&oH s N cs u)
noncomputable def oH(s:Scope)(N:List Str):Cns->List Expr->Bool
 |.a,es=>es.isEmpty
 |.b a as,es=>(lc es λe es=>ckC s N a e&&oH s N as es)
noncomputable def ckI(s:Scope)(N:List Str):Itb->Expr->Expr->Bool
 |.d a,e,_=>ck s N a e
 |.f a,e,_=>(eCN e λx u=>l1 u λy=>decide (x="range")&&wg s x&&ck s N a y&&plain y)
 |.g a b,e,_=>(eCN e λx u=>lc u λy w=>l1 w λz=>decide (x="range")&&wg s x&&ck s N a y&&ck s N b z&&plain y&&plain z)
 |.i _ _ _,_,_=>false
 |.h a,e,tg=>(decide (tg.ctorIdx=25)&&eCN e λx u=>l1 u λy=>decide (x="enumerate")&&wg s x&&ck s N a y&&plain y)
 |.j _ _,_,_=>false
end
structure Ok(T:Tbl)(n:Nat)(sc:Scope)(N:List Str)(X:L2.Cx):Prop where
 d:X.g=true
 g:L2.xD n X.A
 c:Scp sc N X
 m:∀f v F,T.c f v=some F->Callee T n X f v F
 r:∀x v,T.b x=some v->∃u xv,X.d x=some u/\L2.RelV xv u/\∀ρ H,RD X.K X.d ρ H v xv
 l:∀x∈wy,X.d x=none
 xe:X.h=λ_ _=>False
 no:∀f v,100<=v->T.c f v=none
def oz(S:Scp sc N X)(h:L2.tN sc N N' csc fr=true):L2.zd X N' csc fr:=by
 unfold L2.tN at h;simp only[ub,AZ,Bn,decide_eq_true_eq,Ah]at h;obtain⟨⟨⟨⟨⟨⟨⟨w,u⟩,d⟩,v⟩,t⟩,s⟩,r⟩,A⟩:=h;refine⟨w,λx p o=>(u _ p).elim (λz=>z rfl) λz=>z _ o rfl,λx a c=>?_,λx a c=>?_,t,λi j x e f=>?_,λx e f=>?_⟩
 . rcases d x a with z|z
   . exact absurd c z
   . exact z
 . rcases v x a with z|z
   . exact absurd c z
   . exact S.cf x.1 z
 . have n:i<N'.length:=(Ar.mp e).1
   have q:=s i n;rw[e,f]at q;simp only[ub,decide_eq_true_eq,CP]at q;obtain⟨m,y,l,k,g⟩:=q;refine⟨by rw[S.b];exact m,?_⟩
   have:y=(x,Ba):=E7 k g;rw[<-this];exact l
 . rcases r (x,.free) f with z|z
   . exact z rfl
   . exact z e
def wq(h:sc.names.lookup x=some .local):(relabel sc env).names.lookup x=some .local:=lookup_relabel_local h
def hX(h:sc.names.lookup x=some .globalImplicit):(relabel sc env).names.lookup x=some .globalImplicit:=by
 have a:∀(names:List (Str × Gn)),names.lookup x=some .globalImplicit->(names.map λ(n,k)=>if (k == Ba&&env.scope.kind == .function&&env.kindOf n == some .cell) then (n,BH) else (n,k)).lookup x=some .globalImplicit:=by
  intro names;induction names with
  |nil=>intro h;simp at h
  |cons p r i=>
   obtain⟨n,k⟩:=p;intro h;rw[AG];dsimp only;cases hx:(x == n) with
   |true=>
    rw[AA,hx]at h;cases h;have e:(Gn.globalImplicit == Ba)=false:=rfl;rw[e];simp only[En,As,if_false,AA,hx]
   |false=>
    rw[AA,hx]at h;have:=i h;split<;>simpa only[AA,hx] using this
 exact a sc.names h
theorem Scp.comp(S:Scp sc N X)(b:L2.zd X N' csc fr)(n:N'.Nodup)C s0 H0 ex:Scp csc N' (X.comp N' csc C s0 H0 ex):=by
 refine⟨rfl,n,λx h=>?_,λx h=>?_,λx h=>?_,λx h=>?_⟩
 . rcases h with h|h|h
   . exact .inl (wq h)
   . exact .inr (.inl (L2.vj h))
   . exact(L2.sZ b.a h).elim (λz=>.inr (.inl z)) λz=>.inr (.inr z)
 . rcases h with h|h
   . exact⟨.inl (wq h),.inr (wq h)⟩
   . exact⟨.inr (L2.vj h),.inl (CP.mpr ⟨_,Dj h,decide_eq_true rfl⟩)⟩
 . exact hX h
 . rcases h with h|h
   . exact .inl (L2.vj h)
   . exact L2.sZ b.a h
theorem Callee.comp(c:Callee T n X f v F)N' csc C s0 H0 ex:Callee T n (X.comp N' csc C s0 H0 ex) f v F:=⟨c.a⟩
theorem Ok.comp(o:Ok T n sc N X)(i:L2.zd X N' csc fr)(a:N'.Nodup)(b:L2.tN sc N N' csc fr=true)C s0 H0 ex:Ok T n csc N' (X.comp N' csc C s0 H0 ex):=
 ⟨o.d,o.g,o.c.comp i a C s0 H0 ex,λf v F h=>(o.m f v F h).comp N' csc C s0 H0 ex,o.r,o.l,rfl,o.no⟩
section
variable {T:Tbl}{n:Nat}
def JE(T:Tbl)(n:Nat)(a:Ex):Prop:=∀(sc:Scope) (N:List Str) (X:L2.Cx) (e:Expr),Ok T n sc N X->ck sc N a e=true->∀c s,L2.PE X e (tV X.K X.d c s (evE (zE T n) T.b c a s))
def JL(T:Tbl)(n:Nat)(a:Exs):Prop:=∀(sc:Scope) (N:List Str) (X:L2.Cx) (es:List Expr),Ok T n sc N X->ckL sc N a es=true ->
 (yX es=true->∀c s,L2.PA X es (tVs X.K X.d c s (yf (zE T n) T.b c a s))) /\
 (∀e f p,es=e::f->∀c s,L2.PE X (.BoolOp .And es p) (tV X.K X.d c s (rd (zE T n) T.b c a s))) /\
 (∀e f p,es=e::f->∀c s,L2.PE X (.BoolOp .Or es p) (tV X.K X.d c s (kG (zE T n) T.b c a s))) /\
 (∀y,es=[y]->plain y=true->∃b,a=.a b .b/\∀c s,L2.PE X y (tV X.K X.d c s (evE (zE T n) T.b c b s)))
def JO(T:Tbl)(n:Nat)(a:OEx):Prop:=∀(sc:Scope) (N:List Str) (X:L2.Cx) (e:Option Expr),Ok T n sc N X->ckO sc N a e=true->(∀c s,L2.PO X e (tO X.K X.d c s (evO (zE T n) T.b c a s))) /\
 ((e=none/\∀c f,evO (zE T n) T.b c a f=.e none f)\/∃h,e=some h/\∀c f g,evO (zE T n) T.b c a f≠.e none g)
def JC(T:Tbl)(n:Nat)(a:Cn):Prop:=∀(sc:Scope) (N:List Str) (X:L2.Cx) (e:Expr),Ok T n sc N X->ckC sc N a e=true->∀c s,L2.PT X e (tT X.K X.d c s (evT (zE T n) T.b c a s))
def JCs(T:Tbl)(n:Nat)(a:Cns):Prop:=∀(sc:Scope) (N:List Str) (X:L2.Cx) (es:List Expr),Ok T n sc N X->oH sc N a es=true ->
 (∀p e s,L2.PW X (.BoolOp .And es p) (tT X.K X.d e s (yM (zE T n) T.b e a s)))/\(∀p e s,L2.PW X (.BoolOp .Or es p) (tT X.K X.d e s (r0 (zE T n) T.b e a s)))/\L2.PTs X es (uTs X.K X.d (zE T n) T.b a)
def JI(T:Tbl)(n:Nat)(a:Itb):Prop:=∀(sc:Scope) (N:List Str) (X:L2.Cx) (e t:Expr),Ok T n sc N X->ckI sc N a e t=true->∀c s,L2.PI X t e (tI (K:=X.K) (mg:=X.d) c s (zx (zE T n) T.b c a s))
def T5:JE T n (.h v):=by
 intro g N X e o h f s;show L2.PE X e (tV X.K X.d f s (.e v s));replace h:=aV h;obtain⟨c,k,p,rfl,h⟩:=h;have h:=of_decide_eq_true h;cases v with
 |h=>cases h;exact zg L2.RF λa H Q ⟨ρ,hr,er,w⟩=>zH hr .p w
 |e b=>cases h;exact zg L2.Pc λa H Q ⟨ρ,hr,er,w⟩=>zH hr (.j _) w
 |c i=>cases h;exact zg L2.RC λa H Q ⟨ρ,hr,er,w⟩=>zH hr (.l _) w
 |m x=>cases h;exact zg L2.RI λa H Q ⟨ρ,hr,er,w⟩=>zH hr (.E _) w
 |_=>cases h
def T9:JE T n (.e i):=by
 intro u N X e o h f s;replace h:=yr h;obtain⟨x,p,rfl,h⟩:=h;simp only[ub,decide_eq_true_eq,UM,Bn,BE]at h;obtain⟨⟨⟨t,r⟩,q⟩,m⟩:=h;have j:L2.Vis X.a.scope x:=o.c.e x (by rcases r with (z|z)|z;exact .inl z;exact .inr (.inl z);exact .inr (.inr z))
 show L2.PE X _ (tV X.K X.d f s (match f[i]? with|some (some v)=>.e v s|_=>.d))
 refine zg (L2.RK (i:=i) (by rw[o.c.b];exact t) j q m) λy H Q ⟨ρ,hr,er,w⟩=>?_
 split at w
 . rename_i v e
   obtain⟨g,l,k⟩:=er.a i v e;exact⟨g,l,zH hr k w⟩
 . exact w.elim
def Qk:JE T n (.E y):=by
 intro z N X e o h f s;replace h:=yr h;obtain⟨x,p,rfl,h⟩:=h;simp only[ub,decide_eq_true_eq,wg,BE]at h;obtain⟨⟨j,i⟩,g⟩:=h;subst j;show L2.PE X _ (tV X.K X.d f s (match T.b x with|some v=>.e v s|pn=>.d))
 cases hv:T.b x with
 |none=>exact zI (zF rfl)
 |some v=>
  obtain⟨u,t,m,l,k⟩:=o.r x v hv;exact zg (L2.VM (o.c.a x i) m l g) λq H Q ⟨ρ,hr,er,w⟩=>zH hr (k ρ H) w
def Qn:JE T n (.O y m):=by
 intro q N X e o h f s;replace h:=yr h;obtain⟨x,p,rfl,h⟩:=h;simp only[ub,decide_eq_true_eq,wg]at h;obtain⟨⟨i,g⟩,b⟩:=h;subst i;show L2.PE X _ (tV X.K X.d f s (.e (.t m) s));have k:x∈wy/\Ds x=some (.type m)/\x≠"__name__"/\(x == ("__debug__":Str))=false:=by
  unfold ON at b;simp only[Bn,ub,decide_eq_true_eq]at b;rcases b with ((((⟨rfl,rfl⟩|⟨rfl,rfl⟩)|⟨rfl,rfl⟩)|⟨rfl,rfl⟩)|⟨rfl,rfl⟩)|⟨rfl,rfl⟩
  . exact⟨by decide,PyProof.Rows.boot_int,by decide,by decide⟩
  . exact⟨by decide,PyProof.Rows.boot_bool,by decide,by decide⟩
  . exact⟨by decide,PyProof.Rows.boot_str,by decide,by decide⟩
  . exact⟨by decide,Fy,by decide,by decide⟩
  . exact⟨by decide,HG,by decide,by decide⟩
  . exact⟨by decide,PyProof.Rows.boot_dict,by decide,by decide⟩
 exact zg (L2.Pg (o.c.a x g) (o.l x k.1) k.2.1 k.2.2.1 k.2.2.2) λj H Q ⟨ρ,hr,er,w⟩=>zH hr (.J _) w
def Wd:JE T n (.G t):=by
 intro c N X e o h a s;obtain⟨p,rfl⟩:=Xy h;show L2.PE X _ (tV X.K X.d a s (.e (.q s.length) (s++[if t then .e [] else .d []])))
 cases t with
 |true=>exact zg L2.YD λb H Q ⟨ρ,hr,er,w⟩ p hp=>w _ _ _ (Ext.own hr hp _) (hr.wJ hp ⟨[],L2.zc,rfl,.d⟩) (.A (qO hr p) (by rw[L2.zc];decide))
 |false=>exact zg L2.YC λb H Q ⟨ρ,hr,er,w⟩ p hp=>w _ _ _ (Ext.own hr hp _) (hr.wJ hp ⟨[],L2.zc,rfl,.d⟩) (.A (qO hr p) (by rw[L2.zc];decide))
def lq(h:zO op x y s=.e v s'):∃b,v=.e b:=by unfold zO at h;split at h<;>(split at h<;>first|(cases h;exact⟨_,rfl⟩)|cases h|(split at h<;>first|(cases h;exact⟨_,rfl⟩)|cases h|(split at h<;>first|(cases h;exact⟨_,rfl⟩)|cases h|(split at h<;>first|(cases h;exact⟨_,rfl⟩)|cases h))))
def oA{o:Out Val}(i:∀v u,o=.e v u->∃b,v=.e b)(w:yQ K mg (λ_ _ a b=>a=b) ρ H o.truth Q):yQ K mg (RD K mg) ρ H o λx F=>∃k,x=.e k/\Q k F:=by
 cases o with
 |e v s=>
  obtain⟨b,rfl⟩:=i v s rfl;intro c x A f h r;cases r;exact⟨b,rfl,w _ _ _ f h rfl⟩
 |g _ _ _=>exact w
 |d=>exact w
def SH{j:Sto->Out Val}(z:okC op=true)(n:L2.xD k X.A)(D:L2.PE X a (tV X.K X.d env s o))(C:∀u,L2.PE X b (tV X.K X.d env u (j u)))(B:plain b=true) :
 L2.PT X (.Compare a [op.op] [b] pos) (tT X.K X.d env s (o.bind λx u=>(j u).bind λy F=>zO op x y F).truth):=by
 cases o with
 |e v u=>
  have i:=C u;show L2.PT X _ (tT X.K X.d env s ((j u).bind λy F=>zO op v y F).truth);cases hb:j u with
  |e w F=>
   rw[hb]at i;exact m9 (L2.VW (rN n op z) D i (vi B)) λE H Q ⟨ρ,hr,er,wt⟩=>⟨ρ,hr,er,λm x I q f t=>⟨m,f,er.mono q,λl y G p c r=>⟨l,F,v,w,c,t.mono p,r,oA (λ_ _ h=>lq h) (wt.mono (q.trans f p) c)⟩⟩⟩
  |g _ _ _=>exact yG (zF rfl)
  |d=>exact yG (zF rfl)
 |g _ _ _=>exact yG (zF rfl)
 |d=>exact yG (zF rfl)
def Zb{X:L2.Cx}{j:Env}{s:Sto}{a b c:Expr}{l i:Cop}{o:Out Val}{N L:Sto->Out Val}{k:Nat}{p:Pos}(k1:okC l=true)(k2:okC i=true)(I:L2.xD k X.A)(h1:L2.PE X a (tV X.K X.d j s o))(h2:∀F,L2.PE X b (tV X.K X.d j F (N F)))(h3:∀F,L2.PE X c (tV X.K X.d j F (L F)))(hm:plain c=true) :
 L2.PT X (.Compare a [l.op,i.op] [b,c] p) (tT X.K X.d j s (o.bind λx F=>(N F).bind λy S=>(zO l x y S).bind λr M=>match r with
  |.e true=>(L M).bind λz O=>zO i y z O
  |.e false=>.e (.e false) M
  |_=>.d).truth):=by
 cases o with
 |e v F=>
  have J:=h2 F;show L2.PT X _ (tT X.K X.d j s ((N F).bind _).truth);cases hb:N F with
  |e w S=>
   rw[hb]at J;show L2.PT X _ (tT X.K X.d j s ((zO l v w S).bind _).truth);cases hc:zO l v w S with
   |e r M=>
    cases r with
    |e t=>
     have V:=h3 M;have C:=L2.YV (pos:=p) (rN I l k1) (rN I i k2) h1 J V (show IJ [l.op,i.op] [b,c]=false from vi hm);refine m9 C λσ H Q ⟨ρ,hr,er,wt⟩=>⟨ρ,hr,er,λT x H1 x1 G r1=>⟨T,G,er.mono x1,λR y H2 Y E r2=>⟨R,S,v,w,E,r1.mono Y,r2,?_⟩⟩⟩;rw[hc];intro n z H3 W m r3;cases r3;refine⟨t,rfl,?_⟩;have Z:=(x1.trans G Y).trans E W;have B:=wt.mono Z m;cases t with
     |true=>
      rw[if_pos rfl];refine⟨n,m,er.mono Z,?_⟩;have f:yQ X.K X.d (λ_ _ a b=>a=b) n H3 ((L M).bind λz O=>zO i w z O).truth Q:=B;cases hz:L M with
      |e u O=>
       rw[hz]at f;exact λP q H4 U D r4=>⟨P,O,w,u,D,(r2.mono W).mono U,r4,oA (λ_ _ h=>lq h) (f.mono U D)⟩
      |g _ _ _=>rw[hz]at f;exact f
      |d=>rw[hz]at f;exact f
     |false=>
      rw[if_neg Aj];exact⟨false,rfl,B _ _ _ Ext.refl m rfl⟩
    |_=>exact yG (zF rfl)
   |g _ _ _=>exact yG (zF rfl)
   |d=>exact yG (zF rfl)
  |g _ _ _=>exact yG (zF rfl)
  |d=>exact yG (zF rfl)
 |g _ _ _=>exact yG (zF rfl)
 |d=>exact yG (zF rfl)
def T2(m:JE T n a)(l:JE T n b):JC T n (.a (.k op a b)):=by intro t N X e o h c s;replace h:=fK (yY h).1;obtain⟨_,_,_,_,rfl,f⟩:=h;simp only[ub,decide_eq_true_eq]at f;obtain⟨⟨⟨⟨j,rfl⟩,r⟩,q⟩,p⟩:=f;exact SH j o.g (m _ _ _ _ o r c s) (λi=>l _ _ _ _ o q c i) p
def ZR(q:JE T n a)(p:JE T n b)(m:JE T n c):JC T n (.a (.s op op' a b c)):=by intro y N X e o h f s;replace h:=fL (yY h).1;obtain⟨_,_,_,_,_,_,rfl,j⟩:=h;simp only[ub,decide_eq_true_eq]at j;obtain⟨⟨⟨⟨⟨⟨l,rfl⟩,k,rfl⟩,x⟩,v⟩,t⟩,r⟩:=j;exact Zb l k o.g (q _ _ _ _ o x f s) (λi=>p _ _ _ _ o v f i) (λi=>m _ _ _ _ o t f i) r
noncomputable def UL:Ex->Bool
 |.k ..|.s ..=>true
 |_=>false
def U1{os}(h:ck sc N a (.Compare l os rs p)=true):UL a=true:=by
 cases a with
 |k _ _ _=>rfl
 |s _ _ _ _ _=>rfl
 |g f v es=>
  replace h:(if v<100 then ckA sc f (λx=>ckL sc N es x) (.Compare l os rs p) else false)=true:=h
  split at h
  . cases h
  . cases h
 |_=>cases h
def U2{e:Expr}(h:e.ctorIdx=15):∃l u d p,e=.Compare l u d p:=G6 (motive_1:=λe=>∃l u d p,e=Expr.Compare l u d p) e h λl u d p=>⟨l,u,d,p,rfl⟩
def zp(k:JE T n a)(f:UL a=false):JC T n (.a a):=by
 intro i N X e o h c s;obtain⟨g,b⟩:=yY h;have j:=k i N X e o g c s;rcases (Bn _ _).mp b with b|b
 . exact SJ b j
 . obtain⟨l,m,r,p,rfl⟩:=U2 (of_decide_eq_true b)
   rw[U1 g]at f;cases f
end
def Th(q:JE T n a)(j:JE T n b):JE T n (.l m op a b):=by intro z N X e o h c s;replace h:=aT h;obtain⟨l,d,r,p,rfl,h⟩:=h;simp only[ub,decide_eq_true_eq]at h;obtain⟨⟨⟨k,rfl⟩,v⟩,t⟩:=h;exact Uw (q _ _ _ _ o v c s) (λf=>j _ _ _ _ o t c f) λy x i g=>L2.Pf (Sj m op k) i g
def Tp(j:JE T n a):JE T n (.C a):=by intro c N X e o h b s;replace h:=mL h;obtain⟨x,p,rfl,h⟩:=h;exact T7 (j _ _ _ _ o h b s)
def Tr(j:JL T n es):JE T n (.p es):=by intro b N X e o h a s;replace h:=sG h;obtain⟨x,k,p,rfl,h⟩:=h;simp only[ub]at h;exact ZW ((j _ _ _ _ o h.1).1 h.2 a s)
def To(j:JL T n es):JE T n (.w m es):=by intro b N X e o h a s;replace h:=aY h;obtain⟨x,p,rfl,h⟩:=h;simp only[ub]at h;exact T6 ((j _ _ _ _ o h.1).1 h.2 a s)
def Qf(k:JE T n a)(j:JE T n b):JE T n (.u a b):=by intro q N X e o h c s;replace h:=qk h;obtain⟨l,r,p,rfl,h⟩:=h;simp only[ub]at h;exact Uw (k _ _ _ _ o h.1.1 c s) (λf=>j _ _ _ _ o h.1.2 c f) λm t i g=>L2.Pd Qd i g (YM h.2)
theorem y9:∀{l},z∈nub l↔z∈l
 |[]=>.rfl
 |y::l=>by
  unfold nub;split
  . rename_i h
    rw[y9,Ao];exact⟨.inr,λq=>q.elim (λe=>e▸h) id⟩
  . rw[Ao,Ao,y9]
theorem xO:∀l:List (List Int),(nub l).Nodup
 |[]=>.nil
 |y::l=>by
  unfold nub;split
  . exact xO l
  . rename_i h
    exact Bm.mpr ⟨λq=>h (y9.mp q),xO l⟩
def Zu{L l:List (List Int)}(h:L.Nodup)(s:∀z∈L,z∈l):L.length<=(nub l).length:=h.length_le_of_subset λz a=>y9.mpr (s z a)
def Zv{L l:List (List Int)}(h:L.Nodup)(s:∀z,z∈L↔z∈l):L.Perm (nub l):=(CO h (xO l)).mpr λz=>(s z).trans y9.symm
def nX(f:b.Nodup)(c:a.Perm b):L2.zm a=L2.zm b:=
 Hv (le:=λa b=>L2.yi a b=true) (λa b _ _ h k=>by rw[L2.ui h]at k;cases k) (L2.vN (c.nodup_iff.mpr f)) (L2.vN f) ((L2.zS a).trans (c.trans (L2.zS b).symm))
def jU(h:setOk vs=some l):∃d,yH vs=some d/\l=nub d/\l.length<306:=by
 unfold setOk at h;obtain⟨d,e,h⟩:=Fp.mp h;split at h
 . cases h;exact⟨d,e,rfl,by assumption⟩
 . cases h
theorem oB:∀{a b} {zs},yH (a++b)=some zs->∃y w,yH a=some y/\yH b=some w/\zs=y++w
 |[],b,zs,h=>⟨[],zs,rfl,h,rfl⟩
 |v::a,b,zs,h=>by
  cases v with
  |f vs=>
   rw[Dn,yH]at h;split at h
   . rename_i z zs' e1 e2
     cases h;obtain⟨y,w,e,d,rfl⟩:=oB e2;exact⟨z::y,w,by rw[yH,e1,e],d,rfl⟩
   . cases h
  |_=>cases h
def XS(h:yH [v]=some w):∃z,v=tpV z/\w=[z]:=by
 cases v with
 |f vs=>
  rw[yH]at h;split at h
  . rename_i z zs' e1 e2
    cases h;cases e2;refine⟨z,?_,rfl⟩;have k:∀{vs:List Val} {z:List Int},intsOf vs=some z->vs=z.map Val.c:=λ{vs}=>by
     induction vs with
     |nil=>intro z e;cases e;rfl
     |cons u us a=>
      intro z e;cases u with
      |c i=>
       rw[intsOf]at e;obtain⟨y,b,rfl⟩:=AB.mp e;rw[a b];rfl
      |_=>cases e
    rw[k e1];rfl
  . cases h
 |_=>cases h
section
variable {K:KF}{mg:Str->Option Value}
abbrev TG(K:KF)(mg:Str->Option Value)(a:Own)(H:L2.Hp)(z:List Int)(b:Addr):Prop:=RD K mg a H (tpV z) (.c b)
def TG.sqt(h:TG K mg ρ H z b):L2.SqT K H b (z.map L2.V.d):=by
 have k:∀{v:Val} {x:L2.V},RD K mg ρ H v x->v=tpV z->x=.c b->L2.SqT K H b (z.map L2.V.d):=λ{v x} r e1 e2=>by
  cases r with
  |m n e q=>
   cases e1;cases e2;have:∀{z:List Int} {xs:List L2.V},RDs K mg ρ H (z.map .c) xs->xs=z.map L2.V.d:=λ{z}=>by
    induction z with
    |nil=>intro xs q;cases q;rfl
    |cons i z g=>
     intro xs q;cases q with
     |a r f=>cases r;rw[g f];rfl
   rw[<-this q];exact .of e
  |_=>cases e1
 exact k h rfl rfl
def RD.tgE(h:RD K mg ρ H (tpV z) y):∃b,y=.c b:=by
 have k:∀{v:Val} {x:L2.V},RD K mg ρ H v x->v=tpV z->∃b,x=.c b:=λ{v x} r e=>by
  cases r with
  |m n _ _=>exact⟨_,rfl⟩
  |_=>cases e
 exact k h rfl
theorem RDs.UR:∀{vs} {xs},vs.length=xs.length->(∀(i:Nat) v x,vs[i]?=some v->xs[i]?=some x->RD K mg ρ H v x)->RDs K mg ρ H vs xs
 |[],[],_,_=>.d
 |v::vs,x::xs,l,h=>.a (h 0 v x rfl rfl) (RDs.UR (by simpa using l) λi v x u e=>h (i+1) v x (by simpa using u) (by simpa using e))
end
section
variable {X:L2.Cx}
def XB(e:H p=some (L2.xC X p ks bs))(g:L2.Each (TG X.K X.d ρ H) ks bs):L2.SqS X H p ks bs:=⟨e,λi k b c a=>(g i k b c a).sqt⟩
def P9(X:L2.Cx)(l:Addr):Acc X.K X.d l where
 A:=λp H a=>∃j m n,yH a=some j/\H l=some (L2.xC X l m n)/\L2.Each (TG X.K X.d p H) m n/\m.Nodup/\∀z,z∈m↔z∈j
 B:=λa=>∃j,yH a=some j/\(nub j).length<306
 d:=λ{a b} ⟨j,e,h⟩=>by obtain⟨y,w,o,_,rfl⟩:=oB e;exact⟨y,o,Eb (Zu (xO y) λz q=>Bp _ (y9.mp q)) h⟩
 f:=λ⟨j,m,n,o,e2,g,r⟩ x e=>⟨j,m,n,o,e.trans e2,λi k b t s=>RD.mv x (g i k b t s),r⟩
 c:=λ⟨_,_,_,_,e,_⟩=>⟨_,e⟩
def V9:Xc (P9 X acc) (L2.Qc X acc):=λ{ρ s H a v y Nx σ} hr ha ⟨zs,ks,bs,e1,e2,g,nd,mm⟩ r ⟨zs',e3,hz⟩ q=>by
 obtain⟨D,w,t,C,rfl⟩:=oB e3;rw[e1]at t;cases t;obtain⟨z,rfl,rfl⟩:=XS C;obtain⟨b,rfl⟩:=r.tgE;have B:ks.length<306:=Eb (Zu nd λu A=>Bp _ ((mm u).mp A)) hz;refine⟨b,ks,bs,z,TG X.K X.d ρ H,rfl,XB e2 g,g,TG.sqt r,r,B,λf c m o x=>q (.a _) ?_⟩;have n:=qE hr ha (L2.xC X acc f c);by_cases hm:z∈ks
 . obtain rfl:=x.1 hm
   refine⟨zs++[z],_,c,e3,m.1,λi k b l j=>RD.mv n (o i k b l j),nd,λu=>?_⟩;rw[AS,Al,mm u];exact⟨.inl,λh=>h.elim id λe=>e▸(mm z).mp hm⟩
 . have p:=x.2 hm
   refine⟨zs++[z],f,c,e3,m.1,λi k b l j=>RD.mv n (o i k b l j),p.nodup_iff.mpr (Bm.mpr ⟨hm,nd⟩),λu=>?_⟩;rw[p.mem_iff,Ao,AS,Al,mm u];exact Or.comm
def Rb(X:L2.Cx)(Q:L2.VK):L2.VK:=λy H=>∃p k a,[y]=[.c p]/\L2.SqS X H p k a/\(k.length<2\/∀z∈k,z≠[]) /\
 ∀(l:Addr) (cs:List Addr),H l=none->cs.length=(L2.zm k).length->(∀(i:Nat) (z:List Int),(L2.zm k)[i]?=some z->∃b,cs[i]?=some b/\∃j:Nat,k[j]?=some z/\a[j]?=some b)->Q (.c l) (L2.upd H l (.b (cs.map L2.V.c)))
def Rc(A:HR X.K X.d ρ s H)(e:H p=some (L2.xC X p ks bs))(g:L2.Each (TG X.K X.d ρ H) ks bs)(y:ks.Nodup)(n:yH vs=some zs)(u:∀z,z∈ks↔z∈zs)
 (w:yQ X.K X.d (RD X.K X.d) ρ H (vO m vs s) Q):Rb X Q (.c p) H:=by
 unfold vO at w;split at w
 . rename_i l el
   obtain⟨t,f,rfl,_⟩:=jU el;rw[n]at f;cases f;have k:=Zv y u;split at w
   . rename_i hne
     refine⟨p,ks,bs,rfl,XB e g,?_,λl I B a o=>?_⟩
     . rw[k.length_eq]
       exact hne.imp id λh z n=>h z (k.mem_iff.mp n)
     . rw[<-nX (xO _) k]at w
       refine xn A (RDs.UR (by rw[Ac,Ac,a]) λi v x f r=>?_) w l B
       rw[An]at f r;obtain⟨z,G,rfl⟩:=AB.mp f;obtain⟨b,E,rfl⟩:=AB.mp r;obtain⟨J,q,j,D,C⟩:=o i z G;rw[E]at q;cases q;exact g j z b D C
   . exact w.elim
 . exact w.elim
def bP(w:yQ X.K X.d (RD X.K X.d) ρ H (vO m vs s) Q):∃e,yH vs=some e/\(nub e).length<306:=by
 unfold vO at w;split at w
 . rename_i l el
   obtain⟨z,a,rfl,h⟩:=jU el;exact⟨z,a,h⟩
 . exact w.elim
def qg(Z:rn X.K X.d t g)(I:Grows body)
 (L:∀u F S,S u=none->BodyOk (P9 X u) F S body (L2.tTB ts (tb u)))   
 (h:tV X.K X.d env s ((zx Φ G env it s).bind λr M=>(zz r t body r.a (zL fr env) M []).bind λp O=>vO m p.1 O) σ H Q):L2.rP X fr (uI X.K X.d Φ G it) g ts tb σ H (Rb X Q):=by
 obtain⟨y,D,o,w⟩:=h;refine⟨env,s,y,D,o,?_⟩;cases hi:zx Φ G env it s with
 |e r M=>
  rw[hi]at w;simp only[zJ]at w;intro l U J n f W u c E;cases hl:zz r t body r.a (zL fr env) M [] with
  |e p O=>
   rw[hl]at w;simp only[zJ]at w;refine lz (.a _) fr f (o.mono n) W c Z I (L u l U c) ⟨[],[],[],rfl,E.1,λi k b e=>by simp at e,.nil,λ_=>.rfl⟩ hl (bP w) λv H3 q C=>?_
   obtain⟨Y,ks,bs,V,T,R,z,B⟩:=C.e;obtain⟨x,j,A⟩:=C.d.drop C.b;exact Rc j T (λi k b P N=>RD.mv A (R i k b P N)) z V B (w.mono (n.trans f x) j)
  |g _ _ _=>rw[hl]at w;exact w.elim
  |d=>rw[hl]at w;exact w.elim
 |g _ _ _=>rw[hi]at w;exact w.elim
 |d=>rw[hi]at w;exact w.elim
end
def Tq(j:JE T n a):JE T n (.I a):=by intro c N X e o h b s;replace h:=mL h;obtain⟨x,p,rfl,h⟩:=h;exact T8 (j _ _ _ _ o h b s)
def Tj(t:JE T n a)(q:JE T n b):JE T n (.k op a b):=by intro u N X e o h c s;replace h:=fK h;obtain⟨l,w,r,p,rfl,h⟩:=h;simp only[ub,decide_eq_true_eq]at h;obtain⟨⟨⟨⟨m,rfl⟩,y⟩,x⟩,v⟩:=h;exact Uw (t _ _ _ _ o y c s) (λf=>q _ _ _ _ o x c f) λd z j i=>L2.VL (rN o.g op m) j i (vi v)
def ZK(t:JE T n a)(q:JE T n b)(m:JE T n c):JE T n (.s op op' a b c):=by intro d N X e o h f s;replace h:=fL h;obtain⟨l,A,w,r,u,p,rfl,h⟩:=h;simp only[ub,decide_eq_true_eq]at h;obtain⟨⟨⟨⟨⟨⟨j,rfl⟩,k,rfl⟩,z⟩,y⟩,x⟩,v⟩:=h;exact ZU j k o.g (t _ _ _ _ o z f s) (λi=>q _ _ _ _ o y f i) (λi=>m _ _ _ _ o x f i) v
def Tg(j:JE T n a)(m:JL T n es):JE T n (.z a es):=by
 intro r N X e o h c s;replace h:=mK h;obtain⟨x,k,p,rfl,h⟩:=h;simp only[ub]at h;obtain⟨g,f⟩:=h;cases es with
 |b=>
  cases A9.mp f;exact L2.iz (j _ _ _ _ o g c s)
 |a b q=>
  cases k with
  |nil=>cases f
  |cons y i=>exact ZS (j _ _ _ _ o g c s) λl=>(m _ _ _ _ o f).2.1 y i p rfl c l
def Tn(j:JC T n c)(k:JE T n a)(i:JE T n b):JE T n (.H c a b):=by intro l N X e o h f s;replace h:=aX h;obtain⟨t,x,y,p,rfl,h⟩:=h;simp only[ub]at h;exact T4 (j _ _ _ _ o h.1.1 f s) (λg=>k _ _ _ _ o h.1.2 f g) (λg=>i _ _ _ _ o h.2 f g)
def j6(h:T.c f ver=none)vs s:zE T n f ver vs s=.d:=by
 cases n with
 |zero=>rfl
 |succ n=>simp only[zE,h]
def WT(A:JL T n es):JE T n (.g f ver es):=by
 intro l N X e o h i s;replace h:(if ver<100 then ckA l f (λj=>ckL l N es j) e else false)=true:=h
 split at h
 . rename_i hver
   replace h:=wN h;obtain⟨x,p,j,w,rfl,h⟩:=h;simp only[ub,decide_eq_true_eq,wg,BE]at h;obtain⟨⟨⟨⟨rfl,u⟩,z⟩,t⟩,r⟩:=h;show L2.PE X _ (tV X.K X.d i s ((yf (zE T n) T.b i es s).bind λk q=>zE T n x ver k q));cases hf:T.c x ver with
   |none=>
    refine zI λv D e=>?_;cases hv:yf (zE T n) T.b i es s with
    |e k q=>rw[hv]at e;simp only[zJ,j6 hf]at e;cases e
    |g _ _ _=>rw[hv]at e;cases e
    |d=>rw[hv]at e;cases e
   |some F=>
    have C:=o.m x ver F hf;cases j with
    |nil=>
     cases es with
     |b=>exact ZT C o.g (o.c.a x u) z
     |a _ _=>cases t
    |cons y B=>exact Wc C o.g (o.c.a x u) z r (by simp) ((A _ _ _ _ o t).1 r i s)
 . cases h
def Uv(f:Bf):f.nm∈wy:=by cases f<;>decide
def Ti(r:JL T n es):JE T n (.j f m es):=by
 intro w N X e o h b s;replace h:=wN h;obtain⟨x,p,u,q,rfl,h⟩:=h;replace h:=xK h;obtain⟨y,z,rfl,h⟩:=h;simp only[ub,decide_eq_true_eq,wg]at h;obtain⟨⟨⟨⟨k,rfl⟩,v⟩,t⟩,i⟩:=h;rcases (Bn _ _).mp k with k|k
 . exact T3 k o.d o.g (o.c.a _ v) (o.l _ (Uv f)) i ((r _ _ _ _ o t).1 i b s)
 . unfold stF at k
   split at k
   . exact zI (zF rfl)
   . cases k
def dY(_:JE T n z)(Z:JE T n a):JE T n (.r m z a w):=by
 intro Y N X e o h f s;replace h:=wN h;obtain⟨x,p,W,V,rfl,h⟩:=h;replace h:=yW h;obtain⟨i1,rfl,h⟩:=h;replace h:=wN h;obtain⟨y,p2,U,D,rfl,h⟩:=h;replace h:=xK h;obtain⟨c,I,rfl,h⟩:=h;cases I with
 |nil=>
  simp only[Hw,if_true,ub,wg]at h;obtain⟨⟨⟨⟨t,B⟩,A⟩,F⟩,G⟩:=h;replace B:=of_decide_eq_true B;replace A:=of_decide_eq_true A;split at t
  case isTrue htx=>cases t
  simp only[ub,decide_eq_true_eq]at t;obtain⟨⟨⟨O,M⟩,rfl⟩,rfl⟩:=t;obtain rfl:=kP O;obtain rfl:=kP M;have E:=Z _ _ _ _ o F f s;show L2.PE X _ (tV X.K X.d f s ((evE (zE T n) T.b f a s).bind λy P=>Wq m (.c 0) y (.c 1) P));cases ho:evE (zE T n) T.b f a s with
  |e v C=>
   rw[ho]at E;refine zg (L2.oO o.d rfl rfl (o.c.a _ B) (o.l _ (by decide)) (o.c.a _ A) (o.l _ (by decide)) (L2.pac E L2.wm (zW G)) (L2.z6 (zW G))) λS H Q ⟨ρ,hr,er,w⟩=>⟨ρ,hr,er,λi x J L q R=>?_⟩
   have u:=w.mono L q;cases R with
   |l j=>
    by_cases hc:-(2 ^ 30)<=(0:Int)/\(0:Int)<=2 ^ 30∧-(2 ^ 30)<=j/\j<=2 ^ 30/\(0:Int)<1/\(1:Int)<=2 ^ 29/\A4 0 j 1<=1000
    . have k:yQ X.K X.d (RD X.K X.d) i J (if -(2 ^ 30)<=(0:Int)/\(0:Int)<=2 ^ 30∧-(2 ^ 30)<=j/\j<=2 ^ 30/\(0:Int)<1/\(1:Int)<=2 ^ 29/\A4 0 j 1<=1000 then newList m ((L2.xP 0 j 1).map .c) C else .d) Q:=u
      rw[if_pos hc]at k;exact⟨j,rfl,hc.2.2.1,hc.2.2.2.1,hc.2.2.2.2.2.2,xn q (RDs.ints _) k⟩
    . have k:yQ X.K X.d (RD X.K X.d) i J (if -(2 ^ 30)<=(0:Int)/\(0:Int)<=2 ^ 30∧-(2 ^ 30)<=j/\j<=2 ^ 30/\(0:Int)<1/\(1:Int)<=2 ^ 29/\A4 0 j 1<=1000 then newList m ((L2.xP 0 j 1).map .c) C else .d) Q:=u
      rw[if_neg hc]at k;exact k.elim
   |_=>exact u.elim
  |g _ _ _=>exact zI (zF rfl)
  |d=>exact zI (zF rfl)
 |cons d I=>cases h
def WV(q:JE T n a)(l:JL T n es):JE T n (.J f m a es):=by intro g N X e o k c s;replace k:ckM f (ck g N a) (ckL g N es) e=true:=k;unfold ckM at k;obtain⟨u,x,A,y,w,rfl,h⟩:=Xz k;simp only[ub,decide_eq_true_eq]at h;obtain⟨⟨⟨⟨⟨⟨rfl,d⟩,z⟩,i⟩,v⟩,t⟩,r⟩:=h;obtain⟨b,rfl,p⟩:=(l _ _ _ _ o z).2.2.2 y rfl i;exact ZV r v i t (q _ _ _ _ o d c s) λj=>p c j
def Qg(j:JE T n a)(r:JO T n lo)(l:JO T n hi)(k:JO T n st):JE T n (.F m a lo hi st):=by
 intro A N X e o h b s;replace h:=X0 h;obtain⟨D,w,u,d,C,B,rfl,h⟩:=h;simp only[ub]at h;obtain⟨⟨⟨y,x⟩,v⟩,t⟩:=h;obtain⟨p,q⟩:=k _ _ _ _ o t;refine Qm (j _ _ _ _ o y b s) (λc=>(r _ _ _ _ o x).1 b c) (λc=>(l _ _ _ _ o v).1 b c) (λc=>p b c) ?_;rcases q with⟨g,f⟩|⟨z,g,f⟩
 . exact .inl ⟨g,λc=>f b c⟩
 . exact .inr ⟨z,g,λc i=>f b c i⟩
def tq(o:Ok T n sc N X)(f:∀C e F u,Ok T n csc N' (X.comp N' csc C e F u))t tg(h:ckT csc N' t tg=true):∃g,(∀C e F u,L2.PG (X.comp N' csc C e F u) tg g)/\rn X.K X.d t g:=by
 cases t with
 |a i=>
  cases tg with
  |Name y p=>
   simp only[ckT,ub,Bn,decide_eq_true_eq]at h;exact⟨_,λC e F u=>YH (f C e F u).c h.1 h.2,eP⟩
  |_=>cases h
 |b is=>
  cases tg with
  |Tuple es k p=>
   simp only[ckT,ub,decide_eq_true_eq]at h;refine⟨_,λC e F u=>?_,sm (is:=is)⟩;obtain⟨a,b,c⟩:=vJ (f C e F u).c h.1;exact L2.m8 (X:=X.comp N' csc C e F u) o.d a b c
  |_=>cases h
def WU(I:JE T n elt)(G:JI T n it)(J:JCs T n ifs):JE T n (.q m N' fr elt t it ifs):=by
 intro sc N X e o h a s;replace h:=fM h;obtain⟨x,w,i,W,j,k,rfl,h⟩:=h;simp only[ub,decide_eq_true_eq]at h;obtain⟨⟨⟨⟨⟨⟨B,U⟩,O⟩,M⟩,F⟩,Z⟩,V⟩:=h;have S:=oz o.c B;have u:=o.comp S U B;obtain⟨g,E,z⟩:=tq o u t w O;have f:L2.PE X (.ListComp x [⟨w,i,W,0⟩] j k) (L2.uR fr (uI X.K X.d (zE T n) T.b it) g (uTs X.K X.d (zE T n) T.b ifs) λl=>L2.rk l (uE X.K X.d (zE T n) T.b elt)):=
  L2.eB o.d S (oP λa s=>G _ _ _ _ _ o M a s) E (λC v A y=>(J _ _ _ _ (u C v A y) F).2.2) (λC v A y=>cq (X:=X.comp N' j C v A y) λa s=>I _ _ _ _ (u C v A y) Z a s) (zr V)
 refine zg f λY H Q L=>ue (env:=a) (s:=s) (chk:=false) (m:=m) (body:=uX (zE T n) T.b elt ifs) z xX (λl D A P=>sr gq P) ?_ λ_ r s1 p s2 R=>?_
 . simp only[As,false_implies,if_true];exact L
 . have:=rV R
   simpa using this
def ZL(U:JE T n elt)(O:JI T n it)(W:JCs T n ifs)(E:JI T n it2)(G:JCs T n ifs2):JE T n (.y m N' fr elt t it ifs t2 it2 ifs2):=by
 intro sc N X e o h a s;replace h:=fN h;refine byG λF k=>?_;obtain⟨x,w,R,fs,q,I,P,u,j,rfl,h⟩:=h;refine k ?_;simp only[ub,decide_eq_true_eq]at h;refine byG λF k=>?_;obtain⟨⟨⟨⟨⟨⟨⟨⟨⟨⟨V,h2⟩,h3⟩,h4⟩,h5⟩,h6⟩,h7⟩,h8⟩,h9⟩,L⟩,J⟩:=h;refine k ?_;have S:=oz o.c V;have v:=o.comp S h2 V;have l:=tq o v;obtain⟨g,M,B⟩:=l t w h3;obtain⟨g2,D,p⟩:=l t2 q h6;have r:=L2.k7 (cpos:=j) (elt:=x) (ifs:=fs) (ifs2:=P) (ts:=uTs X.K X.d (zE T n) T.b ifs) (ts2:=uTs X.K X.d (zE T n) T.b ifs2) (wi2:=uI X.K X.d (zE T n) T.b it2) (te:=uE X.K X.d (zE T n) T.b elt) o.d S (oP (tg:=w) λa s=>O _ _ _ _ _ o h4 a s) M (λC f A i=>(W _ _ _ _ (v C f A i) h5).2.2)
  (λC f A i=>oP (X:=X.comp N' u C f A i) (tg:=q) λa s=>E _ _ _ _ _ (v C f A i) h7 a s) D (λC f A i=>(G _ _ _ _ (v C f A i) h8).2.2)
  (λC f A i=>cq (X:=X.comp N' u C f A i) λa s=>U _ _ _ _ (v C f A i) h9 a s) (zr L) (λa=>zr J)
 refine zg r λσ H Q Y=>ue (env:=a) (s:=s) (chk:=true) (m:=m) (body:=tw (zE T n) T.b elt ifs t2 it2 ifs2) B vm (λacc Z A hn=>rT gq hn p) ?_ λz=>by cases z
 simp only[true_implies];exact Y
def YG(o:Ok T n sc N X)(f:sc.names.lookup ("sorted":Str)=some .globalImplicit)(h:L2.PE X y te)(b:L2.noStar y=true)(i:∀e H Q,t' e H Q->te e H (Rb X Q)):L2.PE X (.Call (.Name "sorted" p) [y] [] pos) t':=
 zg (L2.k6 (p:=p) (pos:=pos) (L2.j8 o.d) (o.c.a _ f) (o.l _ (by decide)) DX (L2.pac h L2.wm b) (he:=L2.z6 b)) λe H Q q=>i e H Q q
def WW(P:JE T n elt)(L:JI T n it)(R:JCs T n ifs):JE T n (.B m N' fr elt t it ifs):=by
 intro sc N X e o h f s;replace h:=kE h;obtain⟨p,y,I,rfl,M,h⟩:=h;replace h:=Ve h;obtain⟨x,w,i,fs,j,k,rfl,h⟩:=h;simp only[ub,decide_eq_true_eq]at h;obtain⟨⟨⟨⟨⟨⟨E,h2⟩,h3⟩,Y⟩,W⟩,U⟩,O⟩:=h;have S:=oz o.c E;have u:=o.comp S h2 E;obtain⟨g,J,z⟩:=tq o u t w h3;have V:X.A.in1.units<cLine:=by have:=o.g.a;show X.A.units+1<cLine;omega
 have r:L2.PE X (.SetComp x [⟨w,i,fs,0⟩] j k) (L2.rP X fr (uI X.K X.d (zE T n) T.b it) g (uTs X.K X.d (zE T n) T.b ifs) λl=>L2.lL X l (uE X.K X.d (zE T n) T.b elt)):=
  L2.cb V (λ_ _ _ _=>rfl) o.d S (oP λf s=>L _ _ _ _ _ o Y f s) J (λC q D v=>(R _ _ _ _ (u C q D v) W).2.2) (λC q D v=>cq (X:=X.comp N' j C q D v) λf s=>P _ _ _ _ (u C q D v) U f s) (zr O)
 exact YG o M r rfl λσ H Q Z=>qg (env:=f) (s:=s) (m:=m) (body:=uX (zE T n) T.b elt ifs) z xX (λl G D F=>sr V9 F) Z
def ZM(U:JE T n elt)(O:JI T n it)(W:JCs T n ifs)(E:JI T n it2)(G:JCs T n ifs2):JE T n (.A m N' fr elt t it ifs t2 it2 ifs2):=by
 intro sc N X e o h f s;replace h:=kE h;obtain⟨p,y,F,rfl,hg,h⟩:=h;replace h:=Vf h;obtain⟨x,u,R,fs,r,I,P,z,k,rfl,h⟩:=h;simp only[ub,decide_eq_true_eq]at h;obtain⟨⟨⟨⟨⟨⟨⟨⟨⟨⟨V,h2⟩,h3⟩,h4⟩,h5⟩,h6⟩,h7⟩,h8⟩,h9⟩,L⟩,J⟩:=h;have S:=oz o.c V;have l:=o.comp S h2 V;obtain⟨g,M,w⟩:=tq o l t u h3;obtain⟨g2,D,q⟩:=tq o l t2 r h6;have Y:X.A.in1.units<cLine:=by have:=o.g.a;show X.A.units+1<cLine;omega
 have v:=L2.cg (cpos:=k) (elt:=x) (ifs:=fs) (ifs2:=P) (ts:=uTs X.K X.d (zE T n) T.b ifs) (ts2:=uTs X.K X.d (zE T n) T.b ifs2) (wi2:=uI X.K X.d (zE T n) T.b it2) (te:=uE X.K X.d (zE T n) T.b elt) Y o.d S (oP (tg:=u) λf s=>O _ _ _ _ _ o h4 f s) M (λC i B j=>(W _ _ _ _ (l C i B j) h5).2.2)
  (λC i B j=>oP (X:=X.comp N' z C i B j) (tg:=r) λf s=>E _ _ _ _ _ (l C i B j) h7 f s) D (λC i B j=>(G _ _ _ _ (l C i B j) h8).2.2)
  (λC i B j=>cq (X:=X.comp N' z C i B j) λf s=>U _ _ _ _ (l C i B j) h9 f s) (zr L) (λf=>zr J)
 exact YG o hg v rfl λσ H Q hq=>qg (env:=f) (s:=s) (m:=m) (body:=tw (zE T n) T.b elt ifs t2 it2 ifs2) w vm (λacc Z B hn=>rT V9 hn q) hq
def Tt:JL T n .b:=by intro f N X g o h;cases A9.mp h;exact⟨λ_ c s=>We,⟨λe a p z=>(nomatch z),⟨λe a p z=>(nomatch z),λy z=>(nomatch z)⟩⟩⟩
def WY(j:JE T n a)(d:JL T n as):JL T n (.a a as):=by
 intro w N X q o h;replace h:=xK h;obtain⟨e,q,rfl,h⟩:=h;simp only[ub]at h;obtain⟨g,f⟩:=h;obtain⟨x,v,t,A⟩:=d _ _ _ _ o f;refine⟨λk c s=>?_,λu m p z c s=>?_,λu m p z c s=>?_,λy z k=>?_⟩
 . rw[yX,ub]at k
   exact ZX k.1 (j _ _ _ _ o g c s) λi=>x k.2 c i
 . cases as with
   |b=>
    cases A9.mp f;exact L2.iz (j _ _ _ _ o g c s)
   |a b r=>
    cases q with
    |nil=>cases f
    |cons y l=>exact ZS (j _ _ _ _ o g c s) λi=>v y l p rfl c i
 . cases as with
   |b=>
    cases A9.mp f;exact L2.iz (j _ _ _ _ o g c s)
   |a b r=>
    cases q with
    |nil=>cases f
    |cons y l=>exact Ql (j _ _ _ _ o g c s) λi=>t y l p rfl c i
 . cases z
   cases as with
   |b=>exact⟨a,rfl,λc s=>j _ _ _ _ o g c s⟩
   |a _ _=>cases f
def Qh:JO T n .b:=by intro c N X e o h;cases Hi.mp h;exact⟨λa s=>Qo,.inl ⟨rfl,λa f=>rfl⟩⟩
def Tu(m:JE T n a):JO T n (.a a):=by
 intro p N X e o h;replace h:=Zw h;obtain⟨q,rfl,h⟩:=h;refine⟨λf s=>SD (m _ _ _ _ o h f s),.inr ⟨_,rfl,λf k l z=>?_⟩⟩;have j:((evE (zE T n) T.b f a k).bind λv k=>match v with|.c i=>.e (some i) k|_=>.d)=.e none l:=z
 cases hv:evE (zE T n) T.b f a k with
 |e v s3=>rw[hv]at j;cases v<;>cases j
 |g _ _ _=>rw[hv]at j;cases j
 |d=>rw[hv]at j;cases j
def Tf(j:JC T n c):JC T n (.b c):=by intro f N X e o h a s;replace h:=mL h;obtain⟨x,p,rfl,h⟩:=h;exact SI (j _ _ _ _ o h a s)
def Te(f:JC T n c)(j:JCs T n cs):JC T n (.d c cs):=by intro i N X e o h a s;replace h:=mK h;obtain⟨g,x,p,rfl,h⟩:=h;simp only[ub]at h;exact(Zc (f _ _ _ _ o h.1 a s) λb=>(j _ _ _ _ o h.2).1 _ a b).pt
def Qe(g:JC T n c)(j:JCs T n cs):JC T n (.f c cs):=by intro k N X e o h a s;replace h:=mK h;obtain⟨i,x,p,rfl,h⟩:=h;simp only[ub]at h;exact(UO (g _ _ _ _ o h.1 a s) λb=>(j _ _ _ _ o h.2).2.1 _ a b).pt
def WS:JCs T n .a:=by intro c N X f o h;cases A9.mp h;exact⟨λp e s=>iO,λp e s=>dh,.b⟩
def ZJ(g:JC T n c)(j:JCs T n cs):JCs T n (.b c cs):=by intro k N X l o h;replace h:=xK h;obtain⟨m,i,rfl,h⟩:=h;simp only[ub]at h;obtain⟨a,b,d⟩:=j _ _ _ _ o h.2;exact⟨λp e s=>Zc (g _ _ _ _ o h.1 e s) λf=>a p e f,λp e s=>UO (g _ _ _ _ o h.1 e s) λf=>b p e f,.a (Po λe s=>g _ _ _ _ o h.1 e s) d⟩
def Rq{e:Expr}(h:e.ctorIdx=25):∃d k p,e=.Tuple d k p:=HM (motive_1:=λe=>∃d k p,e=Expr.Tuple d k p) e h λd k p=>⟨d,k,p,rfl⟩
def Ts(j:JE T n a):JI T n (.d a):=λc N X e t o h b s=>SA (j _ _ _ _ o h b s)
def dZ(j:JE T n a):JI T n (.f a):=by intro p N X e t o h b s;replace h:=wN h;obtain⟨m,r,x,q,rfl,h⟩:=h;replace h:=yW h;obtain⟨y,rfl,h⟩:=h;simp only[ub,decide_eq_true_eq,wg]at h;obtain⟨⟨⟨rfl,k⟩,i⟩,g⟩:=h;exact de g (o.c.a _ k) (o.l _ (by decide)) (j _ _ _ _ o i b s)
def da(k:JE T n a)(j:JE T n b):JI T n (.g a b):=by intro u N X e d o h f s;replace h:=wN h;obtain⟨z,A,x,w,rfl,h⟩:=h;replace h:=SS h;obtain⟨v,y,rfl,h⟩:=h;simp only[ub,decide_eq_true_eq,wg]at h;obtain⟨⟨⟨⟨⟨rfl,t⟩,r⟩,q⟩,p⟩,m⟩:=h;exact dg p m (o.c.a _ t) (o.l _ (by decide)) (k _ _ _ _ o r f s) λi=>j _ _ _ _ o q f i
def WX(j:JE T n a):JI T n (.h a):=by intro z N X e v o h b s;obtain⟨p,f⟩:=yY h;obtain⟨t,k,r,rfl⟩:=Rq (of_decide_eq_true p);clear h;have h:=f;replace h:=wN h;obtain⟨q,u,x,d,rfl,h⟩:=h;replace h:=yW h;obtain⟨y,rfl,h⟩:=h;simp only[ub,decide_eq_true_eq,wg]at h;obtain⟨⟨⟨rfl,m⟩,i⟩,g⟩:=h;exact Wf g (o.c.a _ m) (o.l _ (by decide)) (j _ _ _ _ o i b s)
section
variable (T:Tbl)(n:Nat)
mutual
theorem jE:∀a:Ex,JE T n a
 |.h _=>T5
 |.e _=>T9
 |.E _=>Qk
 |.O _ _=>Qn
 |.l _ _ a b=>Th (jE a) (jE b)
 |.C a=>Tp (jE a)
 |.I a=>Tq (jE a)
 |.k _ a b=>Tj (jE a) (jE b)
 |.s _ _ a b c=>ZK (jE a) (jE b) (jE c)
 |.z a es=>Tg (jE a) (jL es)
 |.P _ _=>λd N X e o h=>by cases h
 |.H c a b=>Tn (jC c) (jE a) (jE b)
 |.p es=>Tr (jL es)
 |.w _ es=>To (jL es)
 |.K=>λd N X e o h=>by cases h
 |.G _=>Wd
 |.Q _ _=>λd N X e o h=>by cases h
 |.D _=>λd N X e o h S s=>zI (zF rfl)
 |.M _ _=>λd N X e o h=>by cases h
 |.B _ _ _ elt _ it ifs=>WW (jE elt) (jI it) (jCs ifs)
 |.A _ _ _ elt _ it ifs _ it2 ifs2=>ZM (jE elt) (jI it) (jCs ifs) (jI it2) (jCs ifs2)
 |.g _ _ es=>WT (jL es)
 |.j _ _ es=>Ti (jL es)
 |.L _ _=>λd N X e o h=>by cases h
 |.J _ _ a es=>WV (jE a) (jL es)
 |.u a b=>Qf (jE a) (jE b)
 |.F _ a lo hi st=>Qg (jE a) (jO lo) (jO hi) (jO st)
 |.q _ _ _ elt _ it ifs=>WU (jE elt) (jI it) (jCs ifs)
 |.y _ _ _ elt _ it ifs _ it2 ifs2=>ZL (jE elt) (jI it) (jCs ifs) (jI it2) (jCs ifs2)
 |.r _ z a _=>dY (jE z) (jE a)
theorem jL:∀a:Exs,JL T n a
 |.b=>Tt
 |.a a as=>WY (jE a) (jL as)
theorem jO:∀a:OEx,JO T n a
 |.b=>Qh
 |.a a=>Tu (jE a)
theorem jC:∀a:Cn,JC T n a
 |.a (.k _ a b)=>T2 (jE a) (jE b)
 |.a (.s _ _ a b c)=>ZR (jE a) (jE b) (jE c)
 |.a (.h v)=>zp (jE (.h v)) rfl
 |.a (.e v)=>zp (jE (.e v)) rfl
 |.a (.E v)=>zp (jE (.E v)) rfl
 |.a (.O v w)=>zp (jE (.O v w)) rfl
 |.a (.l m o a b)=>zp (jE (.l m o a b)) rfl
 |.a (.C a)=>zp (jE (.C a)) rfl
 |.a (.I a)=>zp (jE (.I a)) rfl
 |.a (.z a b)=>zp (jE (.z a b)) rfl
 |.a (.P a b)=>zp (jE (.P a b)) rfl
 |.a (.H a b c)=>zp (jE (.H a b c)) rfl
 |.a (.p a)=>zp (jE (.p a)) rfl
 |.a (.w m a)=>zp (jE (.w m a)) rfl
 |.a .K=>zp (jE .K) rfl
 |.a (.G t)=>zp (jE (.G t)) rfl
 |.a (.Q a b)=>zp (jE (.Q a b)) rfl
 |.a (.D a)=>zp (jE (.D a)) rfl
 |.a (.M a b)=>zp (jE (.M a b)) rfl
 |.a (.B a b c d e f g)=>zp (jE (.B a b c d e f g)) rfl
 |.a (.A a b c d e f g h i j)=>zp (jE (.A a b c d e f g h i j)) rfl
 |.a (.g a b c)=>zp (jE (.g a b c)) rfl
 |.a (.j a b c)=>zp (jE (.j a b c)) rfl
 |.a (.L a b)=>zp (jE (.L a b)) rfl
 |.a (.J a b c d)=>zp (jE (.J a b c d)) rfl
 |.a (.u a b)=>zp (jE (.u a b)) rfl
 |.a (.F a b c d e)=>zp (jE (.F a b c d e)) rfl
 |.a (.q a b c d e f g)=>zp (jE (.q a b c d e f g)) rfl
 |.a (.y a b c d e f g h i j)=>zp (jE (.y a b c d e f g h i j)) rfl
 |.a (.r a b c d)=>zp (jE (.r a b c d)) rfl
 |.b c=>Tf (jC c)
 |.d c cs=>Te (jC c) (jCs cs)
 |.f c cs=>Qe (jC c) (jCs cs)
theorem jCs:∀a:Cns,JCs T n a
 |.a=>WS
 |.b c cs=>ZJ (jC c) (jCs cs)
theorem jI:∀a:Itb,JI T n a
 |.d a=>Ts (jE a)
 |.f a=>dZ (jE a)
 |.g a b=>da (jE a) (jE b)
 |.h a=>WX (jE a)
 |.i _ _ _=>λw N X e u o h=>by cases h
 |.j _ _=>λw N X e u o h=>by cases h
end
end
section
variable (K:KF)(mg:Str->Option Value)
def qX(h:Own)(H:L2.Hp)(o:Out Fl)(D:L2.Ends):Prop:=
 match o with
 |.e (.a e) s'=>∀f A g,Ext h H f A->HR K mg f s' A->ER K mg f A e g->D.a g A
 |.e (.c e) s'=>∀f A g,Ext h H f A->HR K mg f s' A->ER K mg f A e g->D.b g A
 |.e (.d e) s'=>∀f A g,Ext h H f A->HR K mg f s' A->ER K mg f A e g->D.c g A
 |.e (.b v) s'=>∀f A x,Ext h H f A->HR K mg f s' A->RD K mg f A v x->D.d x A
 |_=>False
def tSt(e:Env)(s:Sto)(o:Out Fl):L2.TS:=λD b H=>∃a,HR K mg a s H/\ER K mg a H e b/\qX K mg a H o D
end
def qX.mono(w:qX K mg ρ H o D)(x:Ext ρ H ρ' H')(h:HR K mg ρ' s1 H'):qX K mg ρ' H' o D:=by
 cases o with
 |e l s'=>
  cases l with
  |a e=>exact λf A i j k r=>w f A i (x.trans h j) k r
  |c e=>exact λf A i j k r=>w f A i (x.trans h j) k r
  |d e=>exact λf A i j k r=>w f A i (x.trans h j) k r
  |b v=>exact λf A y j k r=>w f A y (x.trans h j) k r
 |g _ _ _=>exact w
 |d=>exact w
noncomputable def sT:Expr->Bool
 |.ListComp ..|.SetComp ..|.DictComp ..=>false
 |_=>true
def jh(h:sT e=true):FU e t l env=pure false:=by cases e<;>first|rfl|cases h
def rS:GR [.Tuple ts k p] e l env=pure false:=by cases e<;>rfl
def bT:GR [.Subscript o i p] e l env=pure false:=by cases e<;>rfl
noncomputable def notTuple:Expr->Bool
 |.Tuple ..=>false
 |_=>true
def gM(h:notTuple e=true):DA [.Tuple ts k p] e env=pure none:=by
 cases e<;>first|(cases h;done)|rfl
def jf:DA [.Subscript o i p] e env=pure none:=by cases e<;>rfl
def OD(s:Scope)(a v:List Expr):Bool:=lc a λt r=>eName t λx f=>lc r λb c=>eName b λy p=>
 if c.isEmpty then decide (s.names.lookup x=some .local)&&decide (s.names.lookup y=some .local)&&(f.line == p.line)&&decide (x≠y)&&!(v.all (FF 8))&&!(v.all (constantsAlone 8))
 else false
noncomputable def Uh(s:Scope)(t v:List Expr):Bool:=t.any (λ|.Name x _=>decide (s.names.lookup x≠some .local)|_=>false)||(decide (3<t.length)||v.all (FF 8))
def ic{a:List Expr}(h:yX a=true):(a.any λ|.Starred ..=>true|_=>false)=false:=by
 induction a with
 |nil=>rfl
 |cons v a i=>
  rw[yX,ub]at h;rw[DZ,i h.2];cases v<;>first|rfl|(have z:=h.1;cases z)
def jg(o:env.blockKind=.function)(k:env.kindOf x=some .local)(j:env.kindOf y=some .local)(i:(px.line == py.line)=true)(f:x≠y)(l:yX [a,b]=true)
 (m:[a,b].all (FF 8)=false) (n:[a,b].all (constantsAlone 8)=false):DA [.Tuple [.Name x px,.Name y py] kt pt] (.Tuple [a,b] k2 pt2) env=pure (some [x,y]):=by
 have g:=ic l;have c:(py.line == px.line)=true:=by rw[beq_iff_eq]at i ⊢;exact i.symm
 unfold DA;have e:([x,y].eraseDups.length != [x,y].length)=false:=by
  have:(y == x)=false:=by simpa using Co f
  simp[List.eraseDups_cons,this]
 simp only[Ap,Cf,o,m,g,n,k,j,c,List.head?_cons,Option.map_some,FL,Bo,List.filterMap_nil,beq_self_eq_true,IF,if_true];have h:(GF x px).pos.line=px.line:=rfl;refine(if_neg (by decide)).trans ((if_neg (λz=>Aj (g.symm.trans z))).trans ?_)
 simp only[h,beq_self_eq_true,c,IF,if_true,e,Ap,Cf,bne_self_eq_false,Bool.or_self,As,if_false];exact if_neg (λz=>Aj (e.symm.trans (by rw[Bool.false_or]at z;exact z)))
theorem sH{c g:Type}{f:c->Option g}:∀{l:List c},(∃a∈l,f a=none)->(l.filterMap f).length<l.length
 |[],⟨a,h,_⟩=>by cases h
 |b::l,⟨a,h,e⟩=>by
  rw[Bo];have d:=Hr f l;rcases Ao.mp h with z|z
  . subst z;rw[e];simp only[Ap];omega
  . have:=sH ⟨a,z,e⟩
    cases f b with
    |none=>simp only[Ap];omega
    |some _=>simp only[Ap];omega
def bZ(h:(∃x p,GF x p∈ts/\env.kindOf x≠some .local)\/3<ts.length\/vs.all (FF 8)=true):DA [.Tuple ts kt pt] (.Tuple vs k2 pt2) env=pure none:=by
 unfold DA;simp only[];split
 . rfl
 . rename_i h1
   split
   . rfl
   . rcases h with⟨x,p,a,b⟩|h|h
     . rw[if_pos]
       rw[Bn];left;rw[bne_iff_ne];refine Ay (sH ⟨_,a,?_⟩);have:(env.kindOf x == some .local)=false:=by simpa using b
       simp only[this,En,As,if_false]
     . exfalso
       apply h1;have:(ts.length == 2||ts.length == 3)=false:=by rw[EM];constructor<;>(rw[beq_eq_false_iff_ne];omega)
       rw[this];rfl
     . split
       . rfl
       . first|rfl|rw[if_pos h]
def gL(h:plain i=true)v:assign (.Subscript o i p) env v=(do
 let d <-holding [v] (eval o env);let e <-holding [v,d] (eval i env)
 standAt p
 holding [v,d,e] (setItem d e v)
 release [v,d,e] []):=by
 cases i<;>first|rfl|cases h
section
variable {X:L2.Cx}{env:Env}{s:Sto}
def Pl{t:L2.TS}(h:∀D d H,¬t D d H):L2.PS X st t:=λp s d H D I q=>(h D d H q).elim
def Rh(h:∀v u,o≠.e v u):¬tSt X.K X.d env s o D σ H:=by
 rintro ⟨a,_,_,w⟩;cases o with
 |e v u=>exact h v u rfl
 |g _ _ _=>exact w
 |d=>exact w
def zQ(h:∀v u,o≠.e v u):L2.PS X st (tSt X.K X.d env s o):=Pl λ_ _ _=>Rh h
def Wg(j:sT e=true)(h:L2.PE X e (tV X.K X.d env s o)):L2.PS X (.Expr e pos) (tSt X.K X.d env s (o.bind λ_ u=>.e (.a env) u)):=by
 cases o with
 |e v u=>exact wC (L2.VU h (jh j)) λD i H ⟨ρ,hr,er,w⟩=>⟨ρ,hr,er,λb x A f c r=>w b A i f c (er.mono f)⟩
 |g _ _ _=>exact zQ (zF rfl)
 |d=>exact zQ (zF rfl)
def SG(h:L2.PE X e (tV X.K X.d env s o)):L2.PS X (.Return (some e) pos) (tSt X.K X.d env s (o.bind λv u=>.e (.b v) u)):=by
 cases o with
 |e v u=>exact wC (L2.RP h) λD i H ⟨ρ,hr,er,w⟩=>⟨ρ,hr,er,λa x A f c r=>w a A x f c r⟩
 |g _ _ _=>exact zQ (zF rfl)
 |d=>exact zQ (zF rfl)
def iN(r:L2.PS X st (L2.oX te (L2.uF i)))(h:∀u H Q,tV X.K X.d env s o u H Q->te u H Q):L2.PS X st (tSt X.K X.d env s (o.bind λv F=>.e (.a (env.set i (some v))) F)):=by
 cases o with
 |e v F=>exact wC r λD u H ⟨ρ,hr,er,w⟩=>h _ _ _ ⟨ρ,hr,er,λb x A f c j=>w b A _ f c ((er.mono f).set i j)⟩
 |g _ _ _=>exact zQ (zF rfl)
 |d=>exact zQ (zF rfl)
def fh{t:Tgt}{g:L2.TG}{o:Out Val}{i:Stmt}{l:L2.TE}(T:rn X.K X.d t g)(r:L2.PS X i (L2.oX l g))(h:∀F H Q,tV X.K X.d env s o F H Q->l F H Q) :
 L2.PS X i (tSt X.K X.d env s (o.bind λv M=>match yC t v env with|some u=>.e (.a u) M|pn=>.d)):=by
 cases o with
 |e v M=>
  show L2.PS X i (tSt X.K X.d env s (match yC t v env with|some u=>.e (.a u) M|pn=>.d))
  cases hb:yC t v env with
  |none=>exact zQ (zF rfl)
  |some u=>exact wC r λD F H ⟨ρ,hr,er,w⟩=>h _ _ _ ⟨ρ,hr,er,λb x A k c m=>T b M A v x env u F _ c m (er.mono k) hb λf j=>w b A f k c j⟩
 |g _ _ _=>exact zQ (zF rfl)
 |d=>exact zQ (zF rfl)
def TZ op m:(∃r,L2.PIp X op.op r/\∀i j H Q v s u,binOp m op (.c i) (.c j) s=.e v u->(∃k:Int,v=.c k/\u=s/\(Q (.d k) H->r (.d i) (.d j) H Q)))\/(op=.g\/op=.h\/op=.i\/op=.e):=by
 cases op with
 |a=>exact .inl ⟨_,L2.WK,λi j H Q v s u h=>by cases h;exact⟨_,rfl,rfl,λq=>⟨i,j,rfl,rfl,q⟩⟩⟩
 |c=>exact .inl ⟨_,L2.WN,λi j H Q v s u h=>by cases h;exact⟨_,rfl,rfl,λq=>⟨i,j,rfl,rfl,q⟩⟩⟩
 |b=>exact .inl ⟨_,L2.WM,λi j H Q v s u h=>by
  simp only[binOp]at h;split at h
  . rename_i hz;cases h;exact⟨_,rfl,rfl,λq=>⟨i,j,rfl,rfl,hz,q⟩⟩
  . cases h⟩
 |d=>exact .inl ⟨_,L2.ZD,λi j H Q v s u h=>by
  simp only[binOp]at h;split at h
  . rename_i hz;cases h;exact⟨_,rfl,rfl,λq=>⟨i,j,rfl,rfl,hz,q⟩⟩
  . cases h⟩
 |f=>exact .inl ⟨_,L2.WL,λi j H Q v s u h=>by
  simp only[binOp]at h;split at h
  . rename_i hz;cases h;exact⟨_,rfl,rfl,λq=>⟨i,j,rfl,rfl,hz,q⟩⟩
  . cases h⟩
 |g=>exact .inr (.inl rfl)
 |h=>exact .inr (.inr (.inl rfl))
 |i=>exact .inr (.inr (.inr (.inl rfl)))
 |e=>exact .inr (.inr (.inr (.inr rfl)))
def Xn{i:Nat}{j:Bop}{f:Sto->Out Val}{r:Fl}{k:Sto}(h:(match env[i]? with
 |some (some (.c x))=>(f s).bind λv u=>match v with
  |.c y=>(binOp false j (.c x) (.c y) u).bind λz w=>.e (Fl.a (env.set i (some z))) w
  |_=>.d
 |some (some (.f x))=>if j=Bop.a then (f s).bind λv u=>match v with
  |.f y=>(binOp false .a (.f x) (.f y) u).bind λz w=>.e (Fl.a (env.set i (some z))) w
  |_=>.d
  else .d
 |_=>.d:Out Fl)=.e r k):(∃a b u z,env[i]?=some (some (.c a))/\f s=.e (.c b) u/\binOp false j (.c a) (.c b) u=.e z k/\r=Fl.a (env.set i (some z))) \/
  (j=Bop.a/\∃a b,env[i]?=some (some (.f a))/\f s=.e (.f b) k/\a.length+b.length<=zP/\r=Fl.a (env.set i (some (.f (a++b))))):=by
 generalize he:env[i]?=o at h;cases o with
 |none=>cases h
 |some m=>
  cases m with
  |none=>cases h
  |some l=>
   cases l with
   |c a=>
    refine .inl ⟨a,?_⟩;generalize hv:f s=o at h;cases o with
    |e v u=>
     cases v with
     |c b=>
      simp only[zJ]at h;generalize hb:binOp false j (.c a) (.c b) u=o at h;cases o with
      |e z w=>cases h;exact⟨b,u,z,rfl,rfl,hb,rfl⟩
      |g _ _ _=>cases h
      |d=>cases h
     |_=>cases h
    |g _ _ _=>cases h
    |d=>cases h
   |f a=>
    by_cases ho:j=.a
    . refine .inr ⟨ho,a,?_⟩
      simp only[if_pos ho]at h;generalize hv:f s=o at h;cases o with
      |e v u=>
       cases v with
       |f b=>
        simp only[zJ,binOp]at h;by_cases hz:a.length+b.length<=zP
        . rw[if_pos hz]at h;cases h;exact⟨b,rfl,rfl,hz,rfl⟩
        . rw[if_neg hz]at h;cases h
       |_=>cases h
      |g _ _ _=>cases h
      |d=>cases h
    . simp only[if_neg ho]at h;cases h
   |_=>cases h
def Pm(h:∀r u,o=.e r u->L2.PS X st (tSt X.K X.d env s (.e r u))):L2.PS X st (tSt X.K X.d env s o):=by
 cases o with
 |e r u=>exact h r u rfl
 |g _ _ _=>exact zQ (zF rfl)
 |d=>exact zQ (zF rfl)
def SE{i:Nat}{x:Str}{e:Expr}{o:Bop}{f:Sto->Out Val}{J A:Pos}(T:¬(o=.g\/o=.h\/o=.i\/o=.e))(hN:X.N.Nodup)(hi:X.N[i]?=some x)(hx:L2.Loc X.a.scope x)(hf:X.m x=true\/X.a.scope.names.lookup x=some .local)(h:∀s,L2.PE X e (tV X.K X.d env s (f s))) :
 L2.PS X (.AugAssign (.Name x A) o.op e J) (tSt X.K X.d env s (match env[i]? with
 |some (some (.c x))=>(f s).bind λv u=>match v with
  |.c y=>(binOp false o (.c x) (.c y) u).bind λz F=>.e (.a (env.set i (some z))) F
  |_=>.d
 |some (some (.f x))=>if o=.a then (f s).bind λv u=>match v with
  |.f y=>(binOp false .a (.f x) (.f y) u).bind λz F=>.e (.a (env.set i (some z))) F
  |_=>.d
  else .d
 |_=>.d)):=by
 refine Pm λr s' hO=>?_;have B:=h s;rcases Xn hO with⟨a,b,u,z,V,L,hb,rfl⟩|⟨rfl,a,b,V,L,hz,rfl⟩
 . rw[L]at B
   rcases TZ (X:=X) o false with⟨r,Q,hq⟩|z
   . obtain⟨k,rfl,rfl,q⟩:=hq a b (λ_=>none) (λ_ _=>True) z u s' hb
     refine wC (L2.YR hN hi hx B Q hf) λD W H G=>?_;obtain⟨E,R,n,w⟩:=G;obtain⟨xv,O,M⟩:=n.a i _ V;cases M;refine⟨_,O,E,R,n,λt y U p j I=>?_⟩;cases I;obtain⟨k',Z,_,q'⟩:=hq a b U (λz S=>D.a (W.set i (some z)) S) _ _ _ hb;cases Z;exact q' (w t U _ p j ((n.mono p).set i (.l _)))
   . exact absurd z T
 . rw[L]at B
   refine wC (L2.YR hN hi hx B L2.dU hf) λD W H G=>?_;obtain⟨E,R,n,w⟩:=G;obtain⟨xv,O,M⟩:=n.a i _ V;refine⟨_,O,E,R,n,λt y U p j I=>?_⟩;have Z:=M.mono p;cases Z with
   |m n1 h1 q1=>
    cases I with
    |m n2 h2 q2=>
     refine⟨_,_,_,_,rfl,rfl,h1,h2,?_,uG j (q1.append q2) λC z S Y P rz=>w C S _ (p.trans j Y) P ((n.mono (p.trans j Y)).set i rz)⟩;rw[<-q1.length,<-q2.length,<-yS];exact hz
def ZY{a i e:Expr}{o:Out Val}{T R:Sto->Out Val}{p l:Pos}(Q:plain i=true)(h1:L2.PE X e (tV X.K X.d env s o))(h2:∀u,L2.PE X a (tV X.K X.d env u (T u)))(h3:∀u,L2.PE X i (tV X.K X.d env u (R u))) :
 L2.PS X (.Assign [.Subscript a i p] e l) (tSt X.K X.d env s (o.bind λv u=>(T u).bind λx M=>(R M).bind λy F=>match x,y with
  |.j r,.c k=>(match F[r]? with
   |some (.c vs)=>(match L2.ixN vs.length k with|some j=>.e (.a env) (upd F r (vs.set j v))|pn=>.d)
   |_=>.d)
  |_,_=>.d)):=by
 cases o with
 |e v u=>
  have z:=h2 u;simp only[zJ];cases hb:T u with
  |e x M=>
   rw[hb]at z;have t:=h3 M;simp only[zJ];cases hc:R M with
   |e y F=>
    rw[hc]at t;simp only[zJ];have b:L2.PS X (.Assign [.Subscript a i p] e l) (L2.oX _ (L2.QT _ _ L2.UY)):=L2.hU h1 (L2.RL z t L2.set_list (gL Q)) bT jf;cases x with
    |j r=>
     cases y with
     |c k=>
      simp only[];cases hs:F[r]? with
      |none=>exact zQ (zF rfl)
      |some cl=>
       cases cl with
       |d _=>exact zQ (zF rfl)
       |e _=>exact zQ (zF rfl)
       |f _=>exact zQ (zF rfl)
       |c vs=>
        simp only[];cases hj:L2.ixN vs.length k with
        |none=>exact zQ (zF rfl)
        |some j=>
         refine wC b λD O H ⟨ρ,hr,er,w⟩=>⟨ρ,hr,er,λI xv H1 N n Y=>⟨I,n,er.mono N,λG xo H2 L m W=>⟨G,m,(er.mono N).mono L,λE xi H3 J h U=>?_⟩⟩⟩;cases U;have P:=W.mono J;cases P with
         |C B _=>
          obtain⟨b',S,Z,A,q⟩:=h.obj r _ hs;rw[B]at Z;cases Z;have V:=(N.trans n L).trans m J;refine⟨_,S,k,j,rfl,rfl,A,by rw[<-q.length];exact hj,?_⟩
          exact w E _ O (V.trans h (Ext.write h B A _)) (h.write B A (RDs.set ((Y.mono L).mono J) j q)) ((er.mono V).mono (Ext.write h B A _))
     |_=>exact zQ (zF rfl)
    |_=>exact zQ (zF rfl)
   |g _ _ _=>exact zQ (zF rfl)
   |d=>exact zQ (zF rfl)
  |g _ _ _=>exact zQ (zF rfl)
  |d=>exact zQ (zF rfl)
 |g _ _ _=>exact zQ (zF rfl)
 |d=>exact zQ (zF rfl)
end
section
variable {X:L2.Cx}{env:Env}{s:Sto}
def Wh(b:L2.PS X st (L2.OJ i j ta))(h:∀F H Q,tVs X.K X.d env s o F H Q->ta F H Q) :
 L2.PS X st (tSt X.K X.d env s (o.bind λu M=>if u.length=[i,j].length then .e (.a (([i,j].zip u).foldl (λe p=>e.set p.1 (some p.2)) env)) M else .d)):=by
 cases o with
 |e u M=>
  show L2.PS X st (tSt X.K X.d env s (if u.length=[i,j].length then .e (.a (([i,j].zip u).foldl (λe p=>e.set p.1 (some p.2)) env)) M else .d))
  match u with
  |[v,w]=>
   refine wC b λD F H ⟨ρ,hr,er,wt⟩=>h _ _ _ ⟨ρ,hr,er,λc q A k f n=>?_⟩;obtain⟨x,y,rfl,m,l⟩:=Ya n;exact⟨x,y,rfl,wt c A _ k f (((er.mono k).set i m).set j l)⟩
  |[]=>exact zQ (zF rfl)
  |[_]=>exact zQ (zF rfl)
  |_::_::_::r=>exact zQ (λ_ _ e=>by simp at e)
 |g _ _ _=>exact zQ (zF rfl)
 |d=>exact zQ (zF rfl)
def uSs(K:KF)(m:Str->Option Value)(A:Calls)(G:Str->Option Val)(b:Sms):L2.TS:=λD a H=>∃env s,tSt K m env s (zU A G env b s) D a H
def Qq{l k:Sto->Out Fl}(p:L2.PT X c (tT X.K X.d env s o))(y:L2.PSs X a ta)(q:L2.PSs X b tb)(n:∀u D w H,tSt X.K X.d env u (l u) D w H->ta D w H)(m:∀u D w H,tSt X.K X.d env u (k u) D w H->tb D w H) :
 L2.PS X (.If c a b pos) (tSt X.K X.d env s (o.bind λt u=>if t then l u else k u)):=by
 cases o with
 |e v u=>
  refine wC (L2.Pk p y q) λD w H ⟨ρ,hr,er,wt⟩=>⟨ρ,hr,er,λf x A j h r=>?_⟩;have i:=wt.mono j h;cases r;cases v with
  |true=>exact L2.oM (n u D w A ⟨f,h,er.mono j,i⟩)
  |false=>exact L2.oK (m u D w A ⟨f,h,er.mono j,i⟩)
 |g _ _ _=>exact zQ (zF rfl)
 |d=>exact zQ (zF rfl)
def au{l:Env->Sto->Out Fl}{X:L2.TS}(W:Walk K mg ρ H r J)(TG:rn K mg t g)(hb:∀env s D F H,tSt K mg env s (l env s) D F H->X D F H)
 (hr:HR K mg ρ s H) (er:ER K mg ρ H env F) (w:qX K mg ρ H (vn r t l r.a env s) D):L2.sX J g X D F H:=by
 refine kJ (n:=r.a.length) (λi z B=>∃f A k,HR K mg f A B/\ER K mg f B k z/\Ext ρ H f B/\vn r t l (r.a.drop i) k A=vn r t l r.a env s) ⟨ρ,s,env,hr,er,Ext.refl,by rw[CT]⟩ ?_ ?_
 . rintro z B ⟨f,A,k,j,I,L,h⟩
   rw[List.drop_length,vn]at h;split at h
   . rename_i ho
     rw[<-h]at w;exact⟨W.a f B A _ L.mv j ho rfl,w f B z L j I⟩
   . rw[<-h]at w;exact w.elim
 . rintro i z B hi ⟨f,A,k,j,I,L,h⟩
   rw[BA hi,vn]at h;split at h
   . rename_i ho
     obtain⟨T,Y⟩:=W.c f B A i (r.a[i]) L.mv j ho (dS hi);refine⟨T,λx P y=>?_⟩;obtain⟨hH,S⟩:=Y x P y;split at h
     . rw[<-h]at w;exact w.elim
     . rename_i env' he
       have C:HR K mg f A P/\Ext f B f P:=by
        rcases hH with e|⟨q,o,M,e⟩
        . subst e;exact⟨j,Ext.refl⟩
        . subst e;exact⟨j.more M o,Ext.new j M o⟩
       have Q:=L.trans j C.2;refine TG f A P _ x k env' z _ C.1 S (I.mono C.2) he λR V=>hb env' A _ R P ⟨f,C.1,V,?_⟩;cases hc:l env' A with
       |e fl Z=>
        rw[hc]at h;simp only[zJ]at h;cases fl with
        |a e=>exact λm N E G p u=>⟨m,Z,e,p,u,Q.trans C.1 G,h⟩
        |d e=>exact λm N E G p u=>⟨m,Z,e,p,u,Q.trans C.1 G,h⟩
        |c e=>
         simp only[]at h;rw[<-h]at w;exact λm N E G p u=>w m N E (Q.trans C.1 G) p u
        |b v=>
         simp only[]at h;rw[<-h]at w;exact λm N O G p U=>w m N O (Q.trans C.1 G) p U
       |g _ _ _=>rw[hc]at h;simp only[qb]at h;rw[<-h]at w;exact w.elim
       |d=>rw[hc]at h;simp only[vf]at h;rw[<-h]at w;exact w.elim
   . rw[<-h]at w;exact w.elim
def SF(n:X.h=λ_ _=>False)(v:X.g=true)(o:plain iter=true)(p:∀env s,L2.PI X tg iter (tI (K:=X.K) (mg:=X.d) env s (zx Φ G env it s)))(q:L2.PG X tg g)(T:rn X.K X.d t g)
 (y:L2.PSs X body (uSs X.K X.d Φ G b)):L2.PS X (.For tg iter body [] pos) (tSt X.K X.d env s ((zx Φ G env it s).bind λr j=>vn r t (λe m=>zU Φ G e b m) r.a env j)):=by
 have c:GB (model X.f X.w) X.A X.a X.h:=by rw[n];exact GB.never
 refine wC (L2.RN c v (oP p) q y (zr o)) λD k H ⟨ρ,hr,er,w⟩=>⟨env,s,ρ,hr,er,?_⟩;cases hv:zx Φ G env it s with
 |e r j=>
  rw[hv]at w;exact λl B J x i W=>au W T (λenv s D k H h=>⟨env,s,h⟩) i (er.mono x) (w.mono x i)
 |g _ _ _=>rw[hv]at w;exact w.elim
 |d=>rw[hv]at w;exact w.elim
def gW{c:Env->Sto->Out Bool}{i:Env->Sto->Out Fl}{L:L2.TT}{N:L2.TS}(M:∀env s u H Q,tT K mg env s (c env s) u H Q->L u H Q)(O:∀env s D u H,tSt K mg env s (i env s) D u H->N D u H)
 (F:HR K mg ρ s H) (U:ER K mg ρ H env u) (w:qX K mg ρ H (uN c i n env s) D):L2.XH L N D u H:=by
 refine⟨λm o I=>∃q C f,HR K mg q C I/\ER K mg q I f o/\Ext ρ H q I/\uN c i m f C=uN c i n env s,⟨n,ρ,s,env,F,U,Ext.refl,rfl⟩,?_⟩;rintro m o I ⟨q,C,f,E,A,X,h⟩;cases m with
 |zero=>rw[uN]at h;rw[<-h]at w;exact w.elim
 |succ m=>
  rw[uN]at h;refine M f C o I _ ⟨q,E,A,?_⟩;cases hv:c f C with
  |e t s3=>
   rw[hv]at h;simp only[zJ]at h;intro B Y R J l W;cases W;have x:=X.trans E J;cases t with
   |true=>
    refine L2.oM ⟨_,λT H' p=>⟨m,Cz m,p⟩,O f s3 _ o R ⟨B,l,A.mono J,?_⟩⟩;simp only[if_true]at h;cases hbd:i f s3 with
    |e S P=>
     rw[hbd]at h;simp only[zJ]at h;cases S with
     |a e=>exact λj G y z k r=>⟨j,P,e,k,r,x.trans l z,h⟩
     |d e=>exact λj G y z k r=>⟨j,P,e,k,r,x.trans l z,h⟩
     |c e=>
      simp only[]at h;rw[<-h]at w;exact λj G y z k r=>w j G y (x.trans l z) k r
     |b v=>
      simp only[]at h;rw[<-h]at w;exact λj G V z k Z=>w j G V (x.trans l z) k Z
    |g _ _ _=>rw[hbd]at h;simp only[qb]at h;rw[<-h]at w;exact w.elim
    |d=>rw[hbd]at h;simp only[vf]at h;rw[<-h]at w;exact w.elim
   |false=>
    simp only[As,if_false]at h;rw[<-h]at w;exact L2.oK (w B R o x l (A.mono J))
  |g _ _ _=>rw[hv]at h;simp only[qb]at h;rw[<-h]at w;exact w.elim
  |d=>rw[hv]at h;simp only[vf]at h;rw[<-h]at w;exact w.elim
def ZZ(j:X.h=λ_ _=>False)(k:∀env s,L2.PT X ce (tT X.K X.d env s (evT Φ G env c s)))(l:L2.PSs X body (uSs X.K X.d Φ G b)) :
 L2.PS X (.While ce body [] pos) (tSt X.K X.d env s (uN (λe u=>evT Φ G e c u) (λe u=>zU Φ G e b u) qW env s)):=by
 have g:GB (model X.f X.w) X.A X.a X.h:=by rw[j];exact GB.never
 exact wC (L2.YT g (Po k) l) λD i H ⟨ρ,hr,er,w⟩=>gW (λenv s i H Q h=>⟨env,s,h⟩) (λenv s D i H h=>⟨env,s,h⟩) hr er w
def Wi:L2.PSs X [] (tSt X.K X.d env s (.e (.a env) s)):=eH L2.VV λD b H ⟨ρ,hr,er,w⟩=>w ρ H b Ext.refl hr er
def Za{l:Stmt}{r:List Stmt}{o:Out Fl}{f:Env->Sto->Out Fl}{t:L2.TS}(p:L2.PS X l (tSt X.K X.d env s o))(n:L2.PSs X r t)(m:∀env s D M H,tSt X.K X.d env s (f env s) D M H->t D M H) :
 L2.PSs X (l::r) (tSt X.K X.d env s (o.bind λu F=>match u with|.a e=>f e F|u=>.e u F)):=by
 refine eH (L2.YU p n) λD M H ⟨ρ,hr,er,w⟩=>⟨ρ,hr,er,?_⟩;cases o with
 |e u F=>
  simp only[zJ]at w;cases u with
  |a e=>exact λj A i x h k=>m e F D i A ⟨j,h,k,w.mono x h⟩
  |c e=>exact w
  |d e=>exact w
  |b v=>exact w
 |g _ _ _=>exact w.elim
 |d=>exact w.elim
end
def cS(c:Const)(k:Str->Bool):Bool:=el c.ctorIdx 5 λh=>Const.str.elim (motive:=λ_=>Bool) c h k
def eS(e:Expr):Bool:=U7 e λc _ _=>cS c λx=>decide (x.length<=1000)
def eF(e:Expr)(k:Expr->Bool):Bool:=Oi e λu c s _=>decide (c=-1)&&s.isNone&&k u
def eFs(e:Expr)(k:Expr->Expr->Bool):Bool:=eJn e λx _=>lc x λg x=>lc x λa x=>lc x λb x=>lc x λf x=>l1 x λc=>(eS g&&(eS b&&eS c))&&eF a λu=>eF f λv=>k u v
def Og(s:Scope)(N:List Str)(e:Exs)(a:Expr):Bool:=eFs a λu v=>ckL s N e [u,v]
def Oh(s:Scope)(N:List Str)(c:Str)(v:Nat)(e:Exs)(l:List Expr->Bool)(g:Stmt):Bool:=if v=1 then (sRs g λq b _=>b.isNone&&o1 q λq=>eCN q λx f=>decide (x=c)&&wg s x&&!(x == ("__debug__":Str))&&(l f&&yX f&&decide (f.length=2)&&decide (x="TooGreat"))) else (sRs g λq b _=>b.isNone&&o1 q λq=>eCN q λx f=>l1 f λa=>decide (x=c)&&wg s x&&!(x == ("__debug__":Str))&&(((l [a]&&plain a)||Og s N e a)&&decide (x≠"TooGreat")))
noncomputable def WO:Ex->Bool
 |.q ..|.y ..|.D ..=>true
 |_=>false
def Oy(e:Ex)(v:Expr):Bool:=WO e||sT v
mutual
noncomputable def ckS(k:Scope)(N:List Str):Sm->Stmt->Bool
 |.g e,st=>(P4 st λx _=>ck k N e x&&sT x)
 |.d e,st=>(P6 st λq _=>o1 q λx=>ck k N e x)
 |.v,_=>false
 |.f i e,st=>(Yv st λM v _=>l1 M λt=>eName t λx _=>decide (N[i]?=some x)&&(decide (k.names.lookup x=some .local)||decide (k.names.lookup x=some .cell))&&(ck k N e v&&(Q4 e&&Oy e v)))
 |.q is e,st=>(Yv st λW v _=>l1 W λt=>aa t λM _ _=>yx k N is M&&ck k N e v&&notTuple v)
 |.r is es,st=>(Yv st λW v _=>l1 W λt=>aa t λM _ _=>aa v λU _ _=>yx k N is M&&ckL k N es U&&yX U&&decide (is.length<=8)&&decide is.Nodup&&decide (M.length=U.length)&&(OD k M U||Uh k M U))
 |.w i op e,st=>(P2 st λt o v _=>eName t λx _=>decide (N[i]?=some x)&&(decide (k.names.lookup x=some .local)||decide (k.names.lookup x=some .cell))&&decide (o=op.op)&&ck k N e v&&!(decide (op=.g)||decide (op=.h)||decide (op=.i)||decide (op=.e)))
 |.x _ _ _,_=>false
 |.p o i e,st=>(Yv st λM v _=>l1 M λt=>X1 t λa b _=>ck k N o a&&ck k N i b&&ck k N e v&&plain b)
 |.j c a b,st=>(sIf st λt x y _=>ckC k N c t&&lj k N a x&&lj k N b y)
 |.l t it b,st=>(P5 st λY O F S _=>S.isEmpty&&(ckT k N t Y&&ckI k N it O Y&&lj k N b F&&plain O))
 |.m c b,st=>(P7 st λt F S _=>S.isEmpty&&(ckC k N c t&&lj k N b F))
 |.s,_=>false
 |.y,_=>false
 |.u,_=>false
 |.n e,st=>(match e with
  |.g c v es=>Oh k N c v es (λxs=>ckL k N es xs) st
  |.h _=>true
  |_=>false)
noncomputable def lj(s:Scope)(N:List Str):Sms->List Stmt->Bool
 |.f,ss=>ss.isEmpty
 |.e c cs,ss=>(lc ss λt d=>ckS s N c t&&lj s N cs d)
 |.g ..,_=>false
end
structure OkF(T:Tbl)(n:Nat)(sc:Scope)(N:List Str)(X:L2.Cx):Prop where
 a:Ok T n sc N X
 b:X.a.scope=sc
 bk:X.a.blockKind=.function
section
variable {T:Tbl}{n:Nat}
def JS(T:Tbl)(n:Nat)(a:Sm):Prop:=∀(sc:Scope) (N:List Str) (X:L2.Cx) (st:Stmt),OkF T n sc N X->ckS sc N a st=true->∀e s,L2.PS X st (tSt X.K X.d e s (exS (zE T n) T.b e a s))
def JSs(T:Tbl)(n:Nat)(a:Sms):Prop:=∀(sc:Scope) (N:List Str) (X:L2.Cx) (st:List Stmt),OkF T n sc N X->lj sc N a st=true->∀e s,L2.PSs X st (tSt X.K X.d e s (zU (zE T n) T.b e a s))
def jH(h:∀e s,L2.PSs X st (tSt X.K X.d e s (zU Φ G e b s))):L2.PSs X st (uSs X.K X.d Φ G b):=λp s a H D I ⟨e,t,q⟩=>h e t p s a H D I q
def Wa:JS T n (.g e):=by intro f N X c o h b s;replace h:=Yx h;obtain⟨x,p,rfl,h⟩:=h;simp only[ub]at h;exact Wg h.2 (jE T n e _ _ _ _ o.a h.1 b s)
def T1:JS T n (.d e):=by intro f N X c o h b s;replace h:=Yz h;obtain⟨q,p,rfl,h⟩:=h;replace h:=Zw h;obtain⟨x,rfl,h⟩:=h;exact SG (jE T n e _ _ _ _ o.a h b s)
def p6:∃b,FU (.ListComp elt gens csc cpos) (some (.Name y py)) l env=pure b:=⟨_,rfl⟩
def Tv:JS T n (.f i e):=by
 intro sc N X st o h j s;replace h:=si h;obtain⟨ts1,v,pos,rfl,h⟩:=h;replace h:=yW h;obtain⟨t1,rfl,h⟩:=h;replace h:=yr h;obtain⟨x,px,rfl,h⟩:=h;simp only[ub,decide_eq_true_eq,Bn]at h;obtain⟨⟨h1,h2⟩,P,hns,hnc⟩:=h;obtain⟨l1,l2⟩:=o.a.c.c x h2;have hN:X.N.Nodup:=by rw[o.a.c.b];exact o.a.c.d
 have hi:X.N[i]?=some x:=by rw[o.a.c.b];exact h1
 by_cases hn:sT v=true
 . exact iN (L2.hV hN hi l1 (jE T n e _ _ _ _ o.a P j s) (jh hn) l2) λσ H Q q=>q
 .
   cases e with
   |q m R fr u t it G=>
    replace P:=fM P;obtain⟨x',Y,E,fs,k,I,rfl,P⟩:=P;simp only[ub,decide_eq_true_eq]at P;obtain⟨⟨⟨⟨⟨⟨c1,c2⟩,c3⟩,c4⟩,c5⟩,c6⟩,c7⟩:=P;have S:=oz o.a.c c1;have oc:=o.a.comp S c2 c1;obtain⟨g,pg,tg'⟩:=tq o.a oc t Y c3;have M:L2.PI X Y E (uI X.K X.d (zE T n) T.b it):=oP λj s=>jI T n it _ _ _ _ _ o.a c4 j s;have F:∀C w A B,L2.PTs (X.comp R k C w A B) fs (uTs X.K X.d (zE T n) T.b G):=λC w A B=>(jCs T n G _ _ _ _ (oc C w A B) c5).2.2;have O:∀C w A B,L2.PE (X.comp R k C w A B) x' (uE X.K X.d (zE T n) T.b u):=λC w A B=>cq (X:=X.comp R k C w A B) λj s=>jE T n u _ _ _ _ (oc C w A B) c6 j s;have V:L2.PS X (.Assign [.Name x px] (.ListComp x' [⟨Y,E,fs,0⟩] k I) pos) (L2.oX (L2.uR fr (uI X.K X.d (zE T n) T.b it) g (uTs X.K X.d (zE T n) T.b G) λU=>L2.rk U (uE X.K X.d (zE T n) T.b u)) (L2.uF i)):=by
     obtain⟨b,hb⟩:=p6 (elt:=x') (gens:=[⟨Y,E,fs,0⟩]) (csc:=k) (cpos:=I) (y:=x) (py:=px) (l:=pos.line) (env:=X.a);cases b with
     |true=>exact L2.VT o.a.d S M pg F O hN hi l1 hb l2 (zr c7)
     |false=>exact L2.hV hN hi l1 (L2.eB o.a.d S M pg F O (zr c7)) hb l2
    refine iN (o:=evE (zE T n) T.b j (.q m R fr u t it G) s) V λσ H Q hq=>ue (env:=j) (s:=s) (chk:=false) (m:=m) (body:=uX (zE T n) T.b u G) tg' xX (λU ρ0 A hn=>sr gq hn) ?_ λ_ r s1 p s2 hl=>?_
    . simp only[As,false_implies,if_true];exact hq
    . have:=rV hl
      simpa using this
   |y m R fr u t it G t2 Z J=>
    replace P:=fN P;obtain⟨x',Y,E,fs,W,L,fs2,k,I,rfl,P⟩:=P;simp only[ub,decide_eq_true_eq]at P;obtain⟨⟨⟨⟨⟨⟨⟨⟨⟨⟨c1,c2⟩,c3⟩,c4⟩,c5⟩,c6⟩,c7⟩,c8⟩,c9⟩,c10⟩,c11⟩:=P;have S:=oz o.a.c c1;have oc:=o.a.comp S c2 c1;have tgt:=tq o.a oc;obtain⟨g,pg,tg'⟩:=tgt t Y c3;obtain⟨g2,pg2,tg2'⟩:=tgt t2 W c6;have M:L2.PI X Y E (uI X.K X.d (zE T n) T.b it):=oP λj s=>jI T n it _ _ _ _ _ o.a c4 j s;have F:∀C w A B,L2.PTs (X.comp R k C w A B) fs (uTs X.K X.d (zE T n) T.b G):=λC w A B=>(jCs T n G _ _ _ _ (oc C w A B) c5).2.2;have hpi2:∀C w A B,L2.PI (X.comp R k C w A B) W L (uI X.K X.d (zE T n) T.b Z):=λC w A B=>oP (X:=X.comp R k C w A B) λj s=>jI T n Z _ _ _ _ _ (oc C w A B) c7 j s;have hts2:∀C w A B,L2.PTs (X.comp R k C w A B) fs2 (uTs X.K X.d (zE T n) T.b J):=λC w A B=>(jCs T n J _ _ _ _ (oc C w A B) c8).2.2;have O:∀C w A B,L2.PE (X.comp R k C w A B) x' (uE X.K X.d (zE T n) T.b u):=λC w A B=>cq (X:=X.comp R k C w A B) λj s=>jE T n u _ _ _ _ (oc C w A B) c9 j s;have V:L2.PS X (.Assign [.Name x px] (.ListComp x' [⟨Y,E,fs,0⟩,⟨W,L,fs2,0⟩] k I) pos) (L2.oX (L2.uR fr (uI X.K X.d (zE T n) T.b it) g (uTs X.K X.d (zE T n) T.b G) λU=>L2.tm (uI X.K X.d (zE T n) T.b Z) g2 (uTs X.K X.d (zE T n) T.b J) (L2.rk U (uE X.K X.d (zE T n) T.b u))) (L2.uF i)):=by
     obtain⟨b,hb⟩:=p6 (elt:=x') (gens:=[⟨Y,E,fs,0⟩,⟨W,L,fs2,0⟩]) (csc:=k) (cpos:=I) (y:=x) (py:=px) (l:=pos.line) (env:=X.a);cases b with
     |true=>exact L2.YS o.a.d S M pg F hpi2 pg2 hts2 O hN hi l1 hb l2 (zr c10) (λj=>zr c11)
     |false=>exact L2.hV hN hi l1 (L2.k7 o.a.d S M pg F hpi2 pg2 hts2 O (zr c10) (λj=>zr c11)) hb l2
    refine iN (o:=evE (zE T n) T.b j (.y m R fr u t it G t2 Z J) s) V λσ H Q hq=>ue (env:=j) (s:=s) (chk:=true) (m:=m) (body:=tw (zE T n) T.b u G t2 Z J) tg' vm (λU ρ0 A hn=>rT gq hn tg2') ?_ λz=>by cases z
    simp only[true_implies];exact hq
   |D _=>cases hns
   |_=>exact absurd hnc hn
def WZ:JS T n (.q is e):=by intro u N X z o h f s;replace h:=si h;obtain⟨g,v,i,rfl,h⟩:=h;replace h:=yW h;obtain⟨y,rfl,h⟩:=h;replace h:=sG h;obtain⟨x,k,p,rfl,h⟩:=h;simp only[ub]at h;obtain⟨⟨m,l⟩,j⟩:=h;obtain⟨a,b,c⟩:=vJ o.a.c m;exact fh (t:=.b is) sm (L2.hU (jE T n e _ _ _ _ o.a l f s) (L2.m8 o.a.d a b c) rS (gM j)) λr H Q q=>q
def oj(h:yx sc N is (.Name x p::ts)=true):∃i d,is=i::d/\N[i]?=some x/\yx sc N d ts=true:=by
 cases is with
 |nil=>exact absurd h Aj
 |cons i d=>
  obtain⟨a,b⟩:=yY h;exact⟨i,d,rfl,of_decide_eq_true (yY a).1,b⟩
def b7(h:yx sc N is []=true):is=[]:=by
 cases is with
 |nil=>rfl
 |cons i j=>exact absurd h Aj
def Tz:JS T n (.r is es):=by
 intro W N X st o h m s;replace h:=si h;obtain⟨U,v,B,rfl,h⟩:=h;replace h:=yW h;obtain⟨t1,rfl,h⟩:=h;replace h:=sG h;obtain⟨R,k,p,rfl,h⟩:=h;replace h:=sG h;obtain⟨u,k2,p2,rfl,h⟩:=h;simp only[ub,decide_eq_true_eq,Bn]at h;obtain⟨⟨⟨⟨⟨⟨A,h2⟩,O⟩,h4⟩,M⟩,h6⟩,l⟩:=h;have E:=(jL T n es _ _ _ _ o.a h2).1 O m s;have hN:X.N.Nodup:=by rw[o.a.c.b];exact o.a.c.d
 have w:∀x,X.a.kindOf x=W.names.lookup x:=λx=>by show X.a.scope.names.lookup x=_;rw[o.b]
 rcases l with l|l
 . replace l:=xK l
   obtain⟨t,r,rfl,l⟩:=l;replace l:=yr l;obtain⟨x,F,rfl,l⟩:=l;replace l:=xK l;obtain⟨t,Y,rfl,l⟩:=l;replace l:=yr l;obtain⟨y,py,rfl,l⟩:=l;replace A:=oj A;obtain⟨i,js,rfl,i1,A⟩:=A;replace A:=oj A;obtain⟨j,js,rfl,j1,A⟩:=A;by_cases hr:Y.isEmpty=true
   . rw[if_pos hr]at l
     cases A9.mp hr;cases b7 A;simp only[ub,decide_eq_true_eq,BE]at l;obtain⟨⟨⟨⟨⟨Z,V⟩,q3⟩,q4⟩,q5⟩,q6⟩:=l
     . match u,h6 with
       |[a,b],_=>
        have L:i≠j:=by rw[Bm]at M;exact λz=>M.1 (by rw[z];exact Al.mpr rfl)
        exact Wh (L2.RO o.a.d hN (by rw[o.a.c.b];exact i1) (by rw[o.a.c.b];exact j1) L (by rw[o.b];exact Z) (by rw[o.b];exact V) E
         (jg o.bk (by rw[w];exact Z) (by rw[w];exact V) q3 q4 O q5 q6) rS) λS H Q q=>q
   . rw[if_neg hr]at l;cases l
 . have J:(∃x p,GF x p∈R/\X.a.kindOf x≠some .local)\/3<R.length\/u.all (FF 8)=true:=by
    unfold Uh at l;rw[Bn,Bn]at l;rw[CP,decide_eq_true_eq]at l;rcases l with⟨e,hm,P⟩|l
    . cases e with
      |Name x F=>
       simp only[decide_eq_true_eq]at P;exact .inl ⟨x,F,hm,by rw[w];exact P⟩
      |_=>cases P
    . exact .inr l
   obtain⟨a,b,c⟩:=vJ o.a.c A;have D:=fh (t:=.b is) (env:=m) (s:=s) sm (L2.hU (pos:=B) (ZW (k:=k2) (pos:=p2) E) (L2.m8 (k:=k) (pos:=p) o.a.d a b c) rS (bZ J)) λS H Q q=>q;have e:((yf (zE T n) T.b m es s).bind λu C=>if u.length=is.length then (.e:Fl->Sto->Out Fl) (.a ((is.zip u).foldl (λe p=>e.set p.1 (some p.2)) m)) C else .d)=(((yf (zE T n) T.b m es s).bind λu C=>if u.length<=zP then (.e:Val->Sto->Out Val) (.f u) C else .d).bind λv C=>match yC (.b is) v m with|some G=>(.e:Fl->Sto->Out Fl) (.a G) C|pn=>.d):=by
    cases yf (zE T n) T.b m es s with
    |e ws C=>
     simp only[zJ];by_cases hl:ws.length=is.length
     . have I:ws.length<=zP:=by rw[hl];exact Au h4 (by decide)
       simp only[if_pos hl,if_pos I,zJ,yC]
     . rw[if_neg hl]
       by_cases I:ws.length<=zP
       . simp only[if_neg hl,if_pos I,zJ,yC]
       . simp only[if_neg I,vf]
    |g _ _ _=>rfl
    |d=>rfl
   show L2.PS X _ (tSt X.K X.d m s ((yf (zE T n) T.b m es s).bind λu C=>if u.length=is.length then .e (.a ((is.zip u).foldl (λe p=>e.set p.1 (some p.2)) m)) C else .d))
   rw[e];exact D
def Tw:JS T n (.w i op e):=by intro u N X y o h g s;replace h:=Yw h;obtain⟨t,B,v,p,rfl,h⟩:=h;replace h:=yr h;obtain⟨x,A,rfl,h⟩:=h;simp only[ub,decide_eq_true_eq,Bn,BE,EM,decide_eq_false_iff_not]at h;obtain⟨⟨⟨⟨r,q⟩,rfl⟩,m⟩,j⟩:=h;obtain⟨k,l⟩:=o.a.c.c x q;exact SE (f:=evE (zE T n) T.b g e) (by rintro (z|z|z|z);exact j.1.1.1 z;exact j.1.1.2 z;exact j.1.2 z;exact j.2 z) (by rw[o.a.c.b];exact o.a.c.d) (by rw[o.a.c.b];exact r) k l λs=>jE T n e _ _ _ _ o.a m g s
def ZO:JS T n (.p a i e):=by intro k N X j o h b s;replace h:=si h;obtain⟨t,v,f,rfl,h⟩:=h;replace h:=yW h;obtain⟨g,rfl,h⟩:=h;replace h:=qk h;obtain⟨q,m,l,rfl,h⟩:=h;simp only[ub]at h;exact ZY h.2 (jE T n e _ _ _ _ o.a h.1.2 b s) (λc=>jE T n a _ _ _ _ o.a h.1.1.1 b c) λc=>jE T n i _ _ _ _ o.a h.1.1.2 b c
def Qi(k:JSs T n a)(i:JSs T n b):JS T n (.j c a b):=by intro m N X l o h e s;replace h:=Vg h;obtain⟨t,x,y,p,rfl,h⟩:=h;simp only[ub]at h;exact Qq (jC T n c _ _ _ _ o.a h.1.1 e s) (jH λe s=>k _ _ _ _ o h.1.2 e s) (jH λe s=>i _ _ _ _ o h.2 e s) (λf D g H q=>⟨e,f,q⟩) λf D g H q=>⟨e,f,q⟩
def Tx(j:JSs T n b):JS T n (.l t it b):=by intro r N X q o h e s;replace h:=Yy h;obtain⟨f,x,z,y,v,rfl,h⟩:=h;obtain⟨m,k⟩:=yY h;cases A9.mp m;clear h;have h:=k;simp only[ub]at h;obtain⟨g,p,i⟩:=Pj o.a.c o.a.d h.1.1.1;exact SF o.a.xe o.a.d h.2 (λe s=>jI T n it _ _ _ _ _ o.a h.1.1.2 e s) p i (jH λe s=>j _ _ _ _ o h.1.2 e s)
def ZP(j:JSs T n b):JS T n (.m c b):=by intro k N X i o h e s;replace h:=Y0 h;obtain⟨t,q,l,p,rfl,h⟩:=h;obtain⟨g,f⟩:=yY h;cases A9.mp g;clear h;have h:=f;simp only[ub]at h;exact ZZ o.a.xe (λe s=>jC T n c _ _ _ _ o.a h.1 e s) (jH λe s=>j _ _ _ _ o h.2 e s)
def ZN:JS T n (.n e):=λc N X b o h a s=>zQ (zF rfl)
def Wb:JSs T n .f:=by intro b N X a o h e s;cases A9.mp h;exact Wi
def ZQ(g:JS T n c)(j:JSs T n cs):JSs T n (.e c cs):=by intro m N X l o h a s;replace h:=xK h;obtain⟨k,t,rfl,h⟩:=h;simp only[ub]at h;exact Za (f:=λe s=>zU (zE T n) T.b e cs s) (g _ _ _ _ o h.1 a s) (jH λa s=>j _ _ _ _ o h.2 a s) λa s D i H q=>⟨a,s,q⟩
section
variable {sc:Scope}{N:List Str}{X:L2.Cx}{i:Nat}{L:Exs}{env:Env}{s s1:Sto}{vs:List Val}{d:Ex}
end
end
section
variable (T:Tbl)(n:Nat)
mutual
theorem jS:∀a:Sm,JS T n a
 |.g _=>Wa
 |.d _=>T1
 |.v=>λF N X e o h=>by cases h
 |.f _ _=>Tv
 |.q _ _=>WZ
 |.r _ _=>Tz
 |.w _ _ _=>Tw
 |.p _ _ _=>ZO
 |.x _ _ _=>λF N X e o h=>by cases h
 |.j _ a b=>Qi (jSs a) (jSs b)
 |.l _ _ b=>Tx (jSs b)
 |.m _ b=>ZP (jSs b)
 |.s=>λF N X e o h=>by cases h
 |.y=>λF N X e o h=>by cases h
 |.u=>λF N X e o h=>by cases h
 |.n _=>ZN
theorem jSs:∀a:Sms,JSs T n a
 |.f=>Wb
 |.e c cs=>ZQ (jS c) (jSs cs)
 |.g _ _ _ _ _ _ _ _=>λu N X d o h=>by cases h
end
end
mutual
noncomputable def nT(n:Nat):Val->Bool
 |.j i|.q i=>decide (i<n)
 |.f vs=>wo n vs
 |.g vs=>wo n vs
 |.h|.e _|.c _|.m _|.p|.o _|.r _|.u _|.t _|.s _ _=>true
noncomputable def wo(n:Nat):List Val->Bool
 |[]=>true
 |v::vs=>nT n v&&wo n vs
end
mutual
theorem sY{n:Nat}{v:Val}(h:v.noRef=true):nT n v=true:=by
 cases v with
 |j _=>cases h
 |q _=>cases h
 |f vs=>exact vK (vs:=vs) h
 |g vs=>exact vK (vs:=vs) h
 |_=>rfl
theorem vK{n:Nat}{vs:List Val}(h:zk vs=true):wo n vs=true:=by
 cases vs with
 |nil=>rfl
 |cons v vs=>
  rw[zk,ub]at h;rw[wo,sY h.1,vK h.2];rfl
end
section
variable {K:KF}{mg:Str->Option Value}
mutual
theorem RD.refs{a:Own}{H:L2.Hp}{v:Val}{x:L2.V}(q:RD K mg a H v x):nT a.o.length v=true:=by
 cases q with
 |m _ _ r=>exact RDs.refs r
 |D _ _ r=>exact RDs.refs r
 |C e _=>exact decide_eq_true (Ar.mp e).1
 |A e _=>exact decide_eq_true (Ar.mp e).1
 |_=>rfl
theorem RDs.refs{b:Own}{H:L2.Hp}{v:List Val}{x:List L2.V}(q:RDs K mg b H v x):wo b.o.length v=true:=by
 cases q with
 |d=>rfl
 |a r c=>rw[wo,RD.refs r,RDs.refs c];rfl
end
structure Cut(ρ ρ':Own):Prop where
 b:∃new,ρ'.o=ρ.o++new
 d:ρ'.h=ρ.h
theorem Cut.no(c:Cut ρ ρ')(n:ρ'.no a):ρ.no a:=by obtain⟨f,e⟩:=c.b;exact⟨λh=>n.1 (by rw[e];exact Bp _ h),by rw[<-c.d];exact n.2⟩
mutual
theorem RD.uy{y f:Own}{H:L2.Hp}(c:Cut y f){v:Val}{x:L2.V}(q:RD K mg f H v x)(h:nT y.o.length v=true):RD K mg y H v x:=by
 have z:∀{i:Nat} {a:Addr},f.o[i]?=some a->decide (i<y.o.length)=true->y.o[i]?=some a:=λ{i a} e h=>by obtain⟨d,u⟩:=c.b;rw[u,A0 (of_decide_eq_true h)]at e;exact e
 cases q with
 |p=>exact .p
 |j b=>exact .j b
 |l i=>exact .l i
 |E t=>exact .E t
 |m n e r=>exact .m (c.no n) e (RDs.uy c r h)
 |D n e r=>exact .D (c.no n) e (RDs.uy c r h)
 |B n e=>exact .B (c.no n) e
 |s g=>exact .s g
 |F g=>
  refine .F ?_;rcases g with⟨n,g⟩|g
  . exact .inl ⟨c.no n,g⟩
  . exact .inr g
 |C e k=>exact .C (z e h) k
 |A e k=>exact .A (z e h) k
 |I e=>exact .I e
 |J n=>exact .J n
 |G a k=>exact .G a k
theorem RDs.uy{f b:Own}{H:L2.Hp}(c:Cut f b){v:List Val}{x:List L2.V}(q:RDs K mg b H v x)(h:wo f.o.length v=true):RDs K mg f H v x:=by
 cases q with
 |d=>exact .d
 |a r g=>
  rw[wo,ub]at h;exact .a (RD.uy c r h.1) (RDs.uy c g h.2)
end
noncomputable def mH:Cel->List Val
 |.c vs=>vs
 |.d kvs=>kvs.map (·.2)
 |.e kvs=>kvs.map (·.2)
 |.f _=>[]
def CR.vals(h:CR K mg ρ H a c):∃u,RDs K mg ρ H (mH c) u:=by
 cases c with
 |c vs=>obtain⟨u,_,r⟩:=h;exact⟨_,r⟩
 |d k=>obtain⟨u,_,_,r⟩:=h;exact⟨_,r⟩
 |e k=>obtain⟨u,_,_,r⟩:=h;exact⟨_,r⟩
 |f x=>exact⟨[],.d⟩
def dD(h:c.noRef=true):zk (mH c)=true:=by cases c<;>first|exact h|rfl
theorem CR.uy(c:Cut ρ ρ')(h:CR K mg ρ' H a o)(i:wo ρ.o.length (mH o)=true):CR K mg ρ H a o:=by
 cases o with
 |c vs=>obtain⟨x,e,r⟩:=h;exact⟨x,e,RDs.uy c r i⟩
 |d b=>obtain⟨x,e,k,r⟩:=h;exact⟨x,e,k,RDs.uy c r i⟩
 |e b=>obtain⟨x,e,k,r⟩:=h;exact⟨x,e,k,RDs.uy c r i⟩
 |f y=>
  obtain⟨n,v,k,r,g⟩:=h;refine⟨n,v,k,λp z s=>?_,g⟩;obtain⟨a,o,vs,t,m,l,j,q⟩:=r p z s;exact⟨a,o,vs,t,m,c.no l,j,q⟩
theorem m7{f c:Type}:∀{a b:List (f × c)},a.map (·.1)=b.map (·.1)->a.map (·.2)=b.map (·.2)->a=b
 |[],[],_,_=>rfl
 |[],_::_,h,_=>by cases h
 |_::_,[],h,_=>by cases h
 |x::xs,y::ys,h1,h2=>by
  rw[AG,AG]at h1 h2;injection h1 with a1 a2
  injection h2 with b1 b2
  rw[m7 a2 b2,E7 a1 b1]
theorem kq:∀{s s'} {i} {o'},x9 s s'=true->i<s.length->s'[i]?=some o'->o'.noRef=true\/s[i]?=some o'
 |[],_,_,_,_,h,_=>by cases h
 |o::r,[],_,_,h,_,_=>by cases h
 |o::r,o'::r',0,q,h,_,e=>by
  rw[x9,ub,Bn]at h;simp only[List.getElem?_cons_zero,Option.some.injEq]at e;subst e;rcases h.1 with z|z
  . exact .inl z
  . right
    cases o' with
    |c a=>cases o with
     |c b=>simp only[Cel.beq]at z;rw[t9 z];rfl
     |_=>cases z
    |d a=>cases o with
     |d b=>simp only[Cel.beq,ub,decide_eq_true_eq]at z;rw[m7 z.1 (t9 z.2)];rfl
     |_=>cases z
    |e a=>cases o with
     |e b=>simp only[Cel.beq,ub,decide_eq_true_eq]at z;rw[m7 z.1 (t9 z.2)];rfl
     |_=>cases z
    |f a=>cases o with
     |f b=>simp only[Cel.beq,decide_eq_true_eq]at z;rw[z];rfl
     |_=>cases z
 |o::r,o'::r',i+1,q,h,hi,e=>by
  rw[x9,ub]at h;have:=kq (i:=i) h.2 (by simpa using hi) (by simpa using e)
  simpa using this
noncomputable def RM:Val->Bool
 |.j _|.q _|.f _=>false
 |.h|.e _|.c _|.m _|.p|.o _|.r _|.u _|.t _|.g _|.s _ _=>true
def WC{n:Nat}{s:Sto}{k i:Nat}:wO n s k (.j i)=if i<n then some (Val.j i) else match s[i]? with
 |some (.c vs)=>if zk vs then some (.g vs) else pn
 |_=>pn:=by cases k<;>rfl
def aw:wO n s k (.q i)=if i<n then some (Val.q i) else pn:=by cases k<;>rfl
def ax(h:RM v=true):wO n s k v=if v.noRef then some v else pn:=by
 cases v with
 |j _=>cases h
 |q _=>cases h
 |f _=>cases h
 |_=>cases k<;>rfl
def WB:sJ n s k []=some []:=by cases k<;>rfl
mutual
theorem qw{p g:Own}{H:L2.Hp}{s:Sto}(c:Cut p g)(y:HR K mg g s H){k:Nat}{v t:Val}{x:L2.V}(r:RD K mg g H v x)(h:wO p.o.length s k v=some t):RD K mg p H t x:=by
 have E:∀{w:Val},RD K mg g H w x->(if w.noRef then some w else pn)=some t->RD K mg p H t x:=λ{w} r h=>by
  split at h
  . rename_i hn;cases h;exact RD.uy c r (sY hn)
  . cases h
 cases v with
 |j i=>
  rw[WC]at h;cases r with
  |C e u=>
   by_cases hi:i<p.o.length
   . rw[if_pos hi]at h
     cases h;exact RD.uy c (.C e u) (by rw[nT];exact decide_eq_true hi)
   . rw[if_neg hi]at h
     split at h
     . rename_i vs hs
       split at h
       . rename_i hn
         cases h;obtain⟨a,T,G,Q,q⟩:=y.obj i vs hs;rw[e]at G;cases G;obtain⟨I,R⟩:=c.b;have J:=AD e;refine .D ⟨λz=>?_,λL=>?_⟩ Q (RDs.uy c q (vK hn))
         . obtain⟨j,A,P⟩:=Bz z
           have B:g.o[j]?=g.o[i]?:=by rw[e,R,A0 A,dS A,P]
           have:=Zp y.l e (B.trans e);exact hi (this▸A)
         . exact(y.d _ (by rw[c.d];exact L)).2 J
       . cases h
     . cases h
 |q i=>
  rw[aw]at h;split at h
  . rename_i hi
    cases h;exact RD.uy c r (by rw[nT];exact decide_eq_true hi)
  . cases h
 |f vs=>
  cases k with
  |zero=>exact E r h
  |succ k=>
   rw[wO,AB]at h;obtain⟨X,N,rfl⟩:=h;cases r with
   |m n e q=>exact .m (c.no n) e (qv c y q N)
 |_=>exact E r ((ax rfl).symm.trans h)
theorem qv{g f:Own}{H:L2.Hp}{s:Sto}(c:Cut g f)(l:HR K mg f s H){k:Nat}{v i:List Val}{x:List L2.V}(r:RDs K mg f H v x)(h:sJ g.o.length s k v=some i):RDs K mg g H i x:=by
 cases r with
 |d=>rw[WB]at h;cases h;exact .d
 |@a v _ vs _ j m=>
  cases k with
  |zero=>cases h
  |succ k=>
   rw[sJ]at h;split at h
   . rename_i a b ha hb
     cases h;refine .a ?_ (qv c l m hb);by_cases hn:v.noRef=true
     . rw[if_pos hn]at ha;cases ha;exact RD.uy c j (sY hn)
     . rw[if_neg hn]at ha;exact qw c l j ha
   . cases h
end
def kT(j:HR K mg ρ s H)(w:yQ K mg (RD K mg) ρ H (leave F s v s1) Q)(X:Ext ρ H ρ' H')(k:HR K mg ρ' s1 H')(r:RD K mg ρ' H' v x):Q x H':=by
 unfold leave at w;by_cases hk:F.c=true
 . rw[if_pos hk]at w;exact w ρ' x H' X k r
 . rw[if_neg hk]at w
   by_cases ho:x9 s s1=true
   . rw[if_pos ho]at w
     have c:Cut ρ ρ':=⟨by obtain⟨h,e,_⟩:=X.d;exact⟨h,e⟩,X.f⟩
     cases hf:freeze s.length s1 v with
     |none=>rw[hf]at w;exact w.elim
     |some G=>
      rw[hf]at w;have y:s.length<=s1.length:=by obtain⟨h,e,_⟩:=X.d;rw[<-j.f,<-k.f,e,Aw];omega
      refine w ρ x H' ⟨⟨[],by simp,λa m=>by cases m⟩,rfl,X.c,X.g⟩ ⟨?_,j.l,λi t e=>?_,λa m=>?_⟩ ?_
      . rw[Bu,j.f];omega
      . have p:i<s.length:=by have:=(Ar.mp e).1;rw[Bu]at this;omega
        rw[BP p]at e;obtain⟨a,u,q⟩:=k.g i t e;have C:ρ.o[i]?=some a:=by
         obtain⟨h,D,_⟩:=X.d;rw[D,A0 (by rw[j.f];exact p)]at u
         exact u
        refine⟨a,C,q.uy c ?_⟩;rcases kq ho p e with z|z
        . exact vK (dD z)
        . obtain⟨b,_,B⟩:=j.g i t z
          obtain⟨E,A⟩:=B.vals;exact RDs.refs A
      . obtain⟨z,n⟩:=k.d a (by rw[X.f];exact m)
        exact⟨z,(j.d a m).2⟩
      . unfold freeze at hf
        by_cases hn:v.noRef=true
        . rw[if_pos hn]at hf;cases hf;exact RD.uy c r (sY hn)
        . rw[if_neg hn,<-j.f]at hf
          exact qw c k r hf
   . rw[if_neg ho]at w;exact w.elim
def XD(r:RDs K mg ρ H args vs):ER K mg ρ H (ze N args) (L2.start N vs):=by
 refine⟨by unfold ze L2.start;rw[Aw,Aw,Ac,Ac,Eo,Eo,r.length],λi v e=>?_⟩
 unfold ze at e;unfold L2.start;by_cases hi:i<args.length
 . rw[A0 (by simpa using hi),An]at e
   rw[A0 (by rw[Ac,<-r.length];exact hi),An]
   cases ha:args[i]? with
   |none=>rw[ha]at e;cases e
   |some a=>
    rw[ha]at e;have:a=v:=AL (AL e);subst this;obtain⟨x,b,h⟩:=r.get ha;exact⟨x,by rw[b];rfl,h⟩
 . rw[AW (by simpa using hi),HD]at e
   split at e<;>cases e
end
def argNames(a:Arguments):Option (List Str):=
 if a.posonlyargs.isEmpty&&a.vararg.isNone&&a.kwonlyargs.isEmpty&&a.kw_defaults.isEmpty&&a.kwarg.isNone&&a.defaults.isEmpty then some (a.args.map (·.arg)) else none
def aH(s:Stmt)(F:Fn):Bool:=
 match s with
 |.FunctionDef _ args body _ _ _ sc _ _ _=>decide (argNames args=some F.a)&&decide (sc.kind=.function)&&!sc.isCoroutine&&!sc.isGenerator&&decide F.N.Nodup&&decide (F.N.take F.a.length=F.a) &&
  F.a.all (λx=>decide (sc.names.lookup x=some .local)||decide (sc.names.lookup x=some .cell))&&sc.names.all (λy=>decide (y.2≠.free))&&lj sc F.N F.b body
 |_=>false
def iT:∀{d:List Str} {us:List Value},d.Nodup->us.length=d.length->d.filterMap (λn=>((d.zip us).lookup n).map (n,·))=d.zip us:=by
 have k:∀(d a:List Str) (us ws:List Value),(a++d).Nodup->us.length=d.length->ws.length=a.length->d.filterMap (λn=>(((a++d).zip (ws++us)).lookup n).map (n,·))=d.zip us:=by
  intro d;induction d with
  |nil=>intro a us ws _ _ _;rfl
  |cons p d l=>
   intro a us ws b j g;cases us with
   |nil=>cases j
   |cons u us=>
    have m:((a++p::d).zip (ws++u::us)).lookup p=some u:=by
     rw[List.zip_append g.symm];have:∀(a:List Str) (ws:List Value),p ∉ a->((a.zip ws)++(p::d).zip (u::us)).lookup p=some u:=by
      intro a;induction a with
      |nil=>intro ws _;simp
      |cons q a i=>
       intro ws f;cases ws with
       |nil=>simp
       |cons w ws=>
        have c:(p == q)=false:=by
         have:p≠q:=λz=>f (by rw[z];exact AO)
         simpa using this
        rw[Fg,Dn,AA,c];exact i ws λz=>f (AF _ z)
     refine this a ws λz=>?_;rw[El]at b;exact b.2.2 p z p AO rfl
    rw[Bo,m];have:=l (a++[p]) us (ws++[u]) (by simpa using b) (by simpa using j) (by simp[g])
    rw[Aq,Aq]at this;exact congrArg ((p,u)::·) this
 intro d us b h;simpa using k d [] us [] (by simpa using b) h rfl
theorem lookup_some:∀{d:List Str} {us:List Value},us.length=d.length->∀n∈d,((d.zip us).lookup n).isNone=false
 |[],_,_,n,h=>by cases h
 |p::d,[],h,_,_=>by cases h
 |p::d,u::us,h,n,hn=>by
  rw[Fg,AA];cases hb:(n == p) with
  |true=>rfl
  |false=>
   have:n≠p:=by simpa using hb
   rcases Ao.mp hn with z|z
   . exact absurd z this
   . exact lookup_some (by simpa using h) n z
def lY(h:argNames a=some ps)(g:ps.Nodup)us(c:us.length=ps.length) :
 bindArgs (CK x qual a body sc .none kV doc pm an cdv ct) ⟨us,[]⟩=pure (ps.zip us):=by
 unfold argNames at h;split at h
 . rename_i hc
   simp only[ub,A9,Hi]at hc;obtain⟨⟨⟨⟨⟨o,m⟩,l⟩,k⟩,j⟩,i⟩:=hc;cases h;obtain⟨s,b,v,y,d,t,u⟩:=a;simp only at o m l k j i c g ⊢;subst o m l k j i;have q:((b.map (·.arg)).take ((b.map (·.arg)).length-0)).filter (λn=>(((b.map (·.arg)).zip us).lookup n).isNone)=[]:=by rw[FD];intro n p;rw[lookup_some c n (Bq p)];decide
   unfold bindArgs;have r:seqItems? Af=pure none:=rfl;have e:¬(us.length > (b.map (·.arg)).length/\True):=by rintro ⟨z,_⟩;omega
   simp only[CK,Er,D6,A5,Ih,FV,r,Hk,Gj,Cf,List.drop_nil,F3,Option.isNone_none,IG];rw[if_neg (by rw[Ac]at c;simp;omega)]
   have f:(List.filter (λn=>(List.lookup n ((Gy (λx=>x.arg) b).zip us)).isNone) (List.take (Gy (λx=>x.arg) b).length (Gy (λx=>x.arg) b)))=[]:=q;rw[f,if_neg (by decide),List.zip_nil_right,Ih,FV,if_neg (by decide),iT g c]
 . cases h
def lS(K:KF)(x:Str)(s:Stmt):Prop:=∃f a,BZ K Bt x=some (some (.ref f))/\L2.Fun K x x s f a
def U4(a:BZ K Bt x=some (some (.ref f)))
 (l:K.lookup f=some ⟨oc,od,.func (CK x x (L2.wM st) (L2.xR st) (L2.zu st) .none kV doc pm an cdv ct),osl⟩) (c:Dl K cdv x=true) (k:Dm K (.ref f)=true):lS K x st:=
 ⟨f,_,a,L2.TQ l c k⟩
section
variable {P:Program}{w:World}{K:KF}{mg:Str->Option Value}{base:Heap}{T:Tbl}
structure Top(T:Tbl)(K:KF)(mg:Str->Option Value):Prop where
 a:∀f v F,T.c f v=some F->∃st fa fd,mg f=some (.ref fa)/\L2.Fun K f f st fa fd/\aH st F=true/\((∃b,T.e b=true)->("!":Str)∈F.N->f∈T.d)
 d:∀x v,T.b x=some v->∃u xv,mg x=some u/\L2.RelV xv u/\∀ρ H,RD K mg ρ H v xv
 c:∀x∈wy,mg x=none
 no:∀f v,100<=v->T.c f v=none
def tP(h:aH st F=true):argNames (L2.wM st)=some F.a/\L2.qB F.N F.a (L2.zu st)/\lj (L2.zu st) F.N F.b (L2.xR st)=true:=by
 unfold aH at h;split at h
 . simp only[ub,decide_eq_true_eq,BE,AZ,Bn]at h
   refine byG λp g=>?_;obtain⟨⟨⟨⟨⟨⟨⟨⟨o,n⟩,m⟩,l⟩,k⟩,j⟩,i⟩,f⟩,c⟩:=h;refine g ?_;exact⟨o,⟨n,m,l,k,j,i,f⟩,c⟩
 . cases h
def Sh(t:Top T K mg)(I:∀j,j<=n->Lv T P w K mg base j){F:Fn}(p:L2.qB F.N F.a (L2.zu st))
 (B:mg f=some (.ref fa)) (C:K.lookup fa=some ⟨oc,od,.func (CK f f (L2.wM st) (L2.xR st) (L2.zu st) .none kV doc pm an cdv ct),osl⟩) (y:Dl K cdv f=true) (m:(∃b,T.e b=true)->("!":Str)∈F.N->f∈T.d)
      (o:L2.xD n (A.deeper (PyProof.Rows.envOfC f (L2.zu st) s.heap.objs.size fa cdv))):OkF T n (L2.zu st) F.N (L2.dG CX P w K mg base F.N f (L2.zu st) fa cdv A outer s H E).nox:=by
 refine⟨⟨rfl,o,⟨rfl,p.d,λx h=>h,λx h=>⟨h,.inl rfl⟩,λx h=>h,λx h=>h⟩,λg v G r=>?_,t.d,t.c,rfl,t.no⟩,rfl,?_⟩
 . obtain⟨u,z,l,k,i,q⟩:=(I n (Ad _)).ex g v G r
   exact⟨u,z,l,k,i,q⟩
 . show (if (L2.zu st).kind.isAnnotationScope then ScopeKind.function else (L2.zu st).kind)=.function
   rw[p.b];rfl
def UG(D:Top T K mg)(IH:∀j,j<=n->Lv T P w K mg base j)(h:T.c f v=some F)(S:mg f=some (.ref fa))(e2:L2.Fun K f f st fa fd)(Y:aH st F=true)
 (I:(∃b,T.e b=true)->("!":Str)∈F.N->f∈T.d):L2.qV P w K mg base L2.CX0 (n+1) fa fd F.a (spN T K mg (n+1) f v):=by
 obtain⟨p1,L,Z⟩:=tP Y;have i:∀(vs:List Val) (s:Sto),zE T (n+1) f v vs s=run T (zE T n) F vs s:=λvs s=>by simp only[zE,h]
 obtain⟨oc,od,kV,doc,pm,an,cdv,ct,M,rfl,R,y⟩:=e2.a;refine L2.QR R y L (λvs H Q E q=>?_) λA o s H vs Q E O q=>?_
 . obtain⟨B,t,m,_,r,z⟩:=q
   rw[i]at z;unfold run at z;split at z
   . rename_i l;rw[<-r.length];exact l
   . exact z.elim
 . obtain⟨B,t,m,J,r,z⟩:=q
   rw[i]at z;unfold run at z;have l:m.length=F.a.length:=by
    by_cases l:m.length=F.a.length
    . exact l
    . rw[if_neg l]at z;exact z.elim
   rw[if_pos l]at z;have G:=Sh (CX:=L2.CX0) (P:=P) (w:=w) (base:=base) (outer:=o) (s:=s) (H:=H) (E:=E) D IH L S R y I O;refine⟨_,(jSs T n F.b (L2.zu st) F.N _ (L2.xR st) G Z (ze F.N m) t).nox,B,J,XD r,?_⟩;show qX K mg B H (zU (zE T n) T.b (ze F.N m) F.b t) _;cases hx:zU (zE T n) T.b (ze F.N m) F.b t with
   |e U s1=>
    rw[hx]at z;cases U with
    |a e=>exact λu H1 V C k W=>kT J z C k .p
    |b v'=>exact λu H1 x C k X=>kT J z C k X
    |c e=>exact z.elim
    |d e=>exact z.elim
   |g _ _ _=>rw[hx]at z;exact z.elim
   |d=>rw[hx]at z;exact z.elim
def SY(c:Top T K mg)(Y:K.In base):∀n j,j<=n->Lv T P w K mg base j:=by
 have b:∀n,(∀j,j<n->Lv T P w K mg base j)->Lv T P w K mg base n:=λn M=>⟨λf v F e=>by
  obtain⟨O,C,l,k,g,m,L⟩:=c.a f v F e;obtain⟨J,r,S⟩:=tP m;have N:F.a.Nodup:=by rw[<-r.a];exact r.d.sublist (Dd _ _)
  have B:L2.Binds K l F.a []:=g.binds λW V U an X ct u R=>lY J N u R;cases n with
  |zero=>
   refine⟨C,l,k,g.kp,B,⟨λI H Q E q=>?_,λA o s H D u I Q E _ _ _ _ q=>?_⟩⟩
   . obtain⟨G,t,Z,_,_,z⟩:=q;exact z.elim
   . obtain⟨G,t,Z,_,_,z⟩:=q;exact z.elim
  |succ n=>exact⟨C,l,k,g.kp,B,UG (P:=P) (w:=w) (base:=base) c (λj x=>M j ⋯) e k g m L⟩⟩
 intro n;induction n with
 |zero=>intro j x;exact b j λi y=>absurd y ⋯
 |succ n p=>
  intro j x;by_cases h:j<=n
  . exact p j h
  . have:j=n+1:=by omega
    subst this;exact b _ λi y=>p i ⋯
end
end M
end
section
namespace M
open PySem Hd
def eX(K:KF)(x:Str):Val->Prop
 |.c i=>∃t,BZ K Bt x=some (some (.int i t))
 |.m y=>∃t,BZ K Bt x=some (some (.str y t))
 |.o ns=>∃a,BZ K Bt x=some (some (.ref a))/\KT K a (ns.map L2.V.d)
 |_=>False
noncomputable def glO(f:List ((Str × Nat) × Fn))(g:List (Str × Val))(x:Str):Option Val:=match g.lookup x with
 |some v=>some v
 |pn=>match f.lookup (x,0) with
  |some _=>some (.u x)
  |pn=>pn
def tbl(a:List ((Str × Nat) × Fn))(g:List (Str × Val)):Tbl:={c:=λf v=>a.lookup (f,v),b:=glO a g}
def NO(a:List ((Str × Nat) × Fn))(g:List (Str × Val))(t:List Str)(x:List (Str × Str))(m:Bool->Bool):Tbl:=⟨λf v=>a.lookup (f,v),glO a g,t,x,m⟩
def ng(f:List ((Str × Nat) × Fn))(D:List (Str × Stmt)):Bool:=f.all λp=>decide (p.1.2<100)&&match D.lookup p.1.1 with|some st=>aH st p.2|none=>false
theorem uO{f g:Type} [BEq f] [LawfulBEq f]:∀{l:List (f × g)} {a:f} {b:g},l.lookup a=some b->(a,b)∈l
 |[],_,_,h=>by cases h
 |(c,d)::l,a,b,h=>by
  rw[AA]at h;cases hb:(a == c) with
  |true=>rw[hb]at h;cases h;rw[CG hb];exact AO
  |false=>rw[hb]at h;exact AF _ (uO h)
def Rm(X:K.In h)(G:h.Ns Bt mg)(A:∀p∈D,lS K p.1 p.2)(P:∀p∈glL,eX K p.1 p.2)(Q:∀x∈wy,BZ K Bt x=some none)
 (k:ng fnL D=true)    (r:(∃b,md b=true)->fnL.all (λp=>!decide (("!":Str)∈p.2.N)||decide (p.1.1∈tb))=true):Top (NO fnL glL tb xc md) K mg:=by
 refine⟨λf v F e=>?_,λx v e=>?_,λx L=>PySem.W.mg_none_of X G (Q x L),λf v V=>?_⟩
 . have n:((f,v),F)∈fnL:=uO e
   unfold ng at k;rw[AZ]at k;have j:=k _ n;rw[ub]at j;have j:=j.2;split at j
   . rename_i st hs
     obtain⟨w,C,a,J⟩:=A _ (uO hs);refine⟨st,w,C,EZ X G a,J,j,λu R=>?_⟩;have:=AZ.mp (r u) _ n;simp only[Bn,BE,decide_eq_false_iff_not,decide_eq_true_eq]at this;exact this.resolve_left λz=>z R
   . cases j
 case refine_3=>
  show fnL.lookup (f,v)=none;cases e:fnL.lookup (f,v) with
  |none=>rfl
  |some F=>
   have n:((f,v),F)∈fnL:=uO e;unfold ng at k;rw[AZ]at k;have j:=k _ n;rw[ub,decide_eq_true_eq]at j;have B:v<100:=j.1;omega
 . have e:glO fnL glL x=some v:=e
   unfold glO at e;split at e
   case h_2=>
    split at e
    . rename_i F hF
      cases e;unfold ng at k;rw[AZ]at k;have j:=k _ (uO hF);rw[ub]at j;have j:=j.2;split at j
      . rename_i st hs
        obtain⟨w,C,a,J⟩:=A _ (uO hs);exact⟨_,.c w,EZ X G a,rfl,λq H=>.I (EZ X G a)⟩
      . cases j
    . cases e
   rename_i v' e';cases e;have n:(x,v)∈glL:=uO e';have j:=P _ n;cases v with
   |c i=>
    obtain⟨t,a⟩:=j;exact⟨_,.d i,EZ X G a,⟨t,rfl⟩,λq H=>.l i⟩
   |m y=>
    obtain⟨t,a⟩:=j;exact⟨_,.g y,EZ X G a,⟨t,rfl⟩,λq H=>.E y⟩
   |o ns=>
    obtain⟨a,B,T⟩:=j;exact⟨_,.c a,EZ X G B,rfl,λq H=>.s T⟩
   |_=>exact j.elim
def int_mk(a:BZ K Bt x=some (some (.int i t))):eX K x (.c i):=⟨t,a⟩
def str_mk(a:BZ K Bt x=some (some (.str y t))):eX K x (.m y):=⟨t,a⟩
theorem pA:∀{us} {ns},kO us=some ns->L2.Vals (ns.map L2.V.d) us
 |[],_,h=>by cases h;exact .nil
 |u::us,ns,h=>by
  cases u with
  |int i t=>
   simp only[kO,AB]at h;obtain⟨w,e,rfl⟩:=h;exact .cons ⟨t,rfl⟩ (pA e)
  |_=>cases h
def Xs(h:BZ K Bt x=some (some (.ref a)))
 (l:K.lookup a=some ⟨.type "tuple",od,.seq us.toArray n,sl⟩) (c:us.length<=1000) (b:kO us=some ns):eX K x (.o ns):=
 ⟨a,h,_,us.toArray,n,l,rfl,rfl,by rw[Ae,AX];omega,by simpa using pA b⟩
structure OY(T:Tbl)(K:KF)(mg:Str->Option Value)(h:Heap)(tabs:List Addr):Prop where
 nd:tabs.Nodup
 b:tabs.length=T.d.length
 a:∀(i:Nat) (g:Str),T.d[i]?=some g->∃P,tabs[i]?=some P/\h.get? P=some (Gx #[])/\K.lookup P=none/\isCodeTable h P /\
  ∃(fa c:Addr) (o:Obj) (fd:Ec),mg g=some (.ref fa)/\K.lookup fa=some o/\o.data=.func fd/\fd.code=.ref c/\∀h':Heap,K.In h'->PySem.W.CodeHd h' c P
def OC(K:KF)(t:List Addr):L2.Sp:=λv H Q _=>∃(a:Addr) (ns:List Int),v=[.c a]/\(∀b∈t,H b=some (.d #[]))/\L2.SqL K H a (ns.map L2.V.d)/\ns.length<=63/\∀A,Q (.e true) A
def walk{l:PySem.W.OpenLaw}(hn:l.most=some 63)(hdf:d.params.defaults=[])(hr:L2.xD n callerA)
 (hY:∀w h,YP w h->K.In h) (hF:T.c d.name 0=some F) (Z:F.a=[x])
 (TOP:∀w O U mb h,PySem.W.Ground q loose [] XP w O U mb h->K.In h->Top T K U/\∃M,OY T K U h M)
 (HL:∀S:List Int,S.length<=63->∃s',zE T n d.name 0 [.r S] (T.d.map .f)=.e (.e true) s') :
 PySem.W.WalkO q loose XP YP l.row.toRowW d [] (λf vs=>PySem.call f vs):=by
 refine Att.lX hn hdf λw O m U mb fa o X cd B a vs S G Y ho hd hcd J I A p L=>?_;have KX:=hY w _ Y;obtain⟨y,M,R⟩:=TOP w O U mb _ G KX;obtain⟨st,fa',fd',e1,e2,e3,e4⟩:=y.a _ _ _ hF;obtain⟨p1,p2,p3⟩:=tP e3;have nd:F.a.Nodup:=by rw[<-p2.a];exact p2.d.sublist (Dd _ _)
 rw[e1]at J;cases J;cases n with
 |zero=>
  obtain⟨s',hs⟩:=HL [] (by decide)
  cases hs
 |succ n=>
  have D:∀b∈M,m.heap.get? b=some (Gx #[])/\K.lookup b=none/\isCodeTable m.heap b:=λb hb=>by
   obtain⟨i,hi,e⟩:=Bz hb;obtain⟨P,C,q2,q3,q4,_⟩:=R.a i _ (dS (by rw[<-R.b];exact hi))
   rw[dS hi,e]at C;cases C;exact⟨q2,q3,q4⟩
  refine L2.di (CX:=L2.CX0) (k:=n+1) (fd:=fd') (x:=x) (sp:=OC K M) (tabs:=M) KX G.T.g G.T.b G.T.builtins G.T.nolimit L I A (Au p (by decide)) hr D (λv kb nb=>?_) (λs u=>?_) (λH V t=>⟨a,S,rfl,V,t,p,λ_=>rfl⟩) λ_ _ _ z=>z
  . have f4:=UG (P:=l.prog) (w:=w) (base:=v) y (λj hj=>SY y kb n j hj) hF e1 e2 e3 e4
    rw[Z]at f4;refine f4.imp λvs H Q E zn=>?_;obtain⟨a,S,e,V,t,hl,hq⟩:=zn;subst e;obtain⟨s',hs⟩:=HL S hl;refine⟨⟨M,[]⟩,T.d.map .f,[.r S],⟨by rw[Ac];exact R.b,R.nd,λi c z=>?_,λa z=>by cases z⟩,.a (.F ?_) .d,?_⟩
    . rw[An]at z
      cases L:T.d[i]? with
      |none=>rw[L]at z;cases z
      |some g=>
       rw[L]at z;cases z;obtain⟨P,C,q2,q3,q4,fn⟩:=R.a i g L;exact⟨P,C,#[],V P (AD C),By,λpos cv hc=>(nomatch hc),fn⟩
    . rcases t with t|t
      . refine .inl ⟨⟨λhm=>?_,by simp⟩,t⟩
        have:=V a hm;rcases t with z|⟨o,z⟩<;>(rw[this]at z;cases z)
      . exact .inr t
    . rw[hs]
      intro ρ' x' H' _ _ r;cases r;exact hq H'
  . obtain⟨oc,od,kV,B,X,an,N,ct,osl,e,_⟩:=e2.a
    subst e;refine .of_eq ?_;have:=lY (x:=d.name) (qual:=d.name) (body:=L2.xR st) (sc:=L2.zu st) (kV:=kV) (doc:=B) (pm:=X) (cdv:=N) (ct:=ct) (an:=an) p1 nd [u] (by rw[Z];rfl)
    rw[Z]at this;exact this
end M
end
section
namespace F
open PySem M
noncomputable def ya:Fn:=⟨["_law_script","_law_k"],["_law_script","_law_k"],false,(.e (.j (.a (.k .n (.e 1) (.j .a false (.a (.e 0) .b)))) (.e (.d (.u (.e 0) (.e 1))) .f) .f) (.e (.d (.h (.c 0))) .f))⟩
noncomputable def vw:Fn:=⟨["_law_pen_here","_law_many","_law_left","_law_found","_law_mixed"],["_law_pen_here","_law_many"],false,(.e (.j (.a (.k .k (.u (.e 0) (.h (.c 0))) (.h (.c 0)))) (.e (.q [2,3] (.j .c false (.a (.u (.e 0) (.h (.c 0))) (.a (.e 1) .b)))) (.e (.p (.e 0) (.h (.c 0)) (.e 2)) (.e (.d (.e 3)) .f))) .f) (.e (.p (.e 0) (.h (.c 1)) (.l false .f (.l false .a (.l false .b (.u (.e 0) (.h (.c 1))) (.h (.c 48271))) (.h (.c 30269))) (.h (.c 2147483629)))) (.e (.f 4 (.l false .f (.l false .a (.l false .a (.l false .b (.u (.e 0) (.h (.c 1))) (.u (.e 0) (.h (.c 1)))) (.l false .b (.h (.c 40692)) (.u (.e 0) (.h (.c 1))))) (.h (.c 7))) (.h (.c 2147483587)))) (.e (.d (.l false .f (.l false .d (.e 4) (.h (.c 64))) (.e 1))) .f))))⟩
noncomputable def yu:Fn:=⟨["_law_cell","_law_left"],["_law_cell"],true,(.e (.f 1 (.j .h false (.a (.e 0) (.a (.l false .c (.h (.c 0)) (.e 0)) .b)))) (.e (.d (.w true (.a (.l false .b (.e 1) (.j .q false (.a (.k .j (.e 1) (.l false .g (.h (.c 10)) (.h (.c 18)))) .b))) (.a (.l false .f (.e 1) (.h (.c 2147483629))) .b)))) .f))⟩
noncomputable def vy:Fn:=⟨["thing"],["thing"],false,(.e (.d (.z (.j .i false (.a (.e 0) (.a (.O "tuple" "tuple") .b))) (.a (.s .c .c (.h (.c 1)) (.j .a false (.a (.e 0) .b)) (.j .a false (.a (.E "HUES") .b))) (.a (.g "are_wholes" 0 (.a (.e 0) (.a (.E "LEAST_SIZE") (.a (.E "MOST_SIZE") .b)))) .b)))) .f)⟩
noncomputable def vU:Fn:=⟨["things","least","most"],["things","least","most"],false,(.e (.d (.j .p false (.a (.q false ["thing","least","most"] [none,some 1,some 2] (.g "is_whole" 0 (.a (.e 0) (.a (.e 1) (.a (.e 2) .b)))) (.a 0) (.d (.e 0)) .a) .b))) .f)⟩
noncomputable def vW:Fn:=⟨["hues","first","step","size"],["hues","first","step","size"],false,(.e (.d (.k .d (.J .b false (.F false (.e 0) (.a (.e 1)) (.a (.l false .a (.e 1) (.l false .b (.e 2) (.e 3)))) (.a (.e 2))) (.a (.u (.e 0) (.e 1)) .b)) (.e 3))) .f)⟩
noncomputable def tH:Fn:=⟨["thing","least","most"],["thing","least","most"],false,(.e (.d (.z (.j .i false (.a (.e 0) (.a (.O "int" "int") .b))) (.a (.I (.j .i false (.a (.e 0) (.a (.O "bool" "bool") .b)))) (.a (.s .c .c (.e 1) (.e 0) (.e 2)) .b)))) .f)⟩
noncomputable def v5:Fn:=⟨["length","first","size"],["length","first","size"],false,(.e (.d (.l false .d (.l false .c (.l false .c (.e 0) (.h (.c 1))) (.e 1)) (.l false .c (.e 2) (.h (.c 1))))) .f)⟩
noncomputable def wa:Fn:=⟨["thing"],["thing"],false,(.e (.g (.g "need_whole" 0 (.a (.e 0) (.a (.h (.c 0)) (.a (.E "MOST_PLACES") .b))))) .f)⟩
noncomputable def vY:Fn:=⟨["thing"],["thing"],false,(.e (.j (.b (.a (.g "are_sizes" 0 (.a (.e 0) .b)))) (.e (.n (.g "NoSizes" 0 (.a (.h (.m "one to four sizes are due")) .b))) .f) .f) .f)⟩
noncomputable def vb:Fn:=⟨["thing","least","most"],["thing","least","most"],false,(.e (.j (.b (.a (.g "is_whole" 0 (.a (.e 0) (.a (.e 1) (.a (.e 2) .b)))))) (.e (.n (.g "NoNumber" 0 (.a (.e 1) (.a (.e 2) .b)))) .f) .f) .f)⟩
end F
end
section
namespace M
open PySem L2
noncomputable def tX(n:List Int)(f d s:Nat):Bool:=(Ag s).all λk=>decide (n[f+k*d]?=n[f]?)
def fE{n f d s:Nat}(j:0<d)(i:1<=s)(h:f+d*(s-1)<n):yI n (some (f:Int)) (some ((f:Int)+(d:Int)*(s:Int))) (d:Int)=((f:Int),s):=by
 have a:d*s=d*(s-1)+d:=by rw[<-Nat.mul_succ];congr 1;omega
 have g:(d:Int)*(s:Int)=((d*s:Nat):Int):=(Gd d s).symm;have c:Bg (some (f:Int)) (some ((f:Int)+(d:Int)*(s:Int))) (d:Int) (n:Int)=((f:Int),((min (f+d*s) n:Nat):Int)):=by
  rw[g];unfold Bg;simp only[if_neg (show ¬(d:Int)<0 by omega),if_neg (show ¬(f:Int)<0 by omega),if_neg (show ¬((f:Int)+((d*s:Nat):Int))<0 by omega)]
  refine E7 ?_ ?_
  . show min (f:Int) (n:Int)=f;omega
  . show min ((f:Int)+((d*s:Nat):Int)) (n:Int)=_;omega
 unfold yI;rw[c];refine E7 rfl ?_;show B7 (f:Int) ((min (f+d*s) n:Nat):Int) (d:Int)=s;unfold B7;rw[if_pos ⋯,if_pos ⋯]
 have b:(((min (f+d*s) n:Nat):Int)-(f:Int)-1)=((min (f+d*s) n-f-1:Nat):Int):=by omega
 rw[b,<-Hz];have e:(min (f+d*s) n-f-1)/d=s-1:=by
  refine Nat.div_eq_of_lt_le ?_ ?_
  . rw[BR];omega
  . have:(s-1+1)*d=d*s:=by rw[show s-1+1=s by omega,BR]
    omega
 rw[e];omega
theorem rF{a b:Type}{f}{g:a->b}:∀{l:List a},(∀x∈l,f x=some (g x))->l.filterMap f=l.map g
 |[],_=>rfl
 |x::l,h=>by rw[Bo,h x (AO ..),AG,rF λy d=>h y (AF _ d)]
def jD{n:List Int}(h:f+d*(s-1)<n.length):zl n (f:Int) (d:Int) s=(Ag s).map λk=>n.getD (f+k*d) 0:=by
 unfold zl;refine rF λk b=>?_;rw[Ah]at b;have c:k*d<=d*(s-1):=by rw[BR];exact Nat.mul_le_mul_left d ⋯
 have e:((f:Int)+(k:Int)*(d:Int)).toNat=f+k*d:=by rw[show (k:Int)*(d:Int)=((k*d:Nat):Int) from (Gd k d).symm];omega
 have a:f+k*d<n.length:=by omega
 rw[e,dS a];rw[Aa,dS a];rfl
def W0(h:f+d*(s-1)<ns.length):tX ns f d s=true↔∀x∈(Ag s).map (λk=>ns.getD (f+k*d) 0),x=ns.getD f 0:=by
 unfold tX;rw[AZ];constructor
 . intro c x i
   obtain⟨k,b,rfl⟩:=AE.mp i;have:=of_decide_eq_true (c k b);rw[Aa,this,<-Aa]
 . intro c k b
   have:=c _ (AE.mpr ⟨k,b,rfl⟩);rw[Ah]at b;have j:k*d<=d*(s-1):=by rw[BR];exact Nat.mul_le_mul_left d ⋯
   have a:f+k*d<ns.length:=by omega
   have g:f<ns.length:=by omega
   rw[Aa,Aa,dS a,dS g]at this;refine decide_eq_true ?_;rw[dS a,dS g];exact congrArg some this
def Sz(z:List Int):Prop:=1<=z.length/\z.length<=4/\∀x∈z,2<=x/\x<=8
noncomputable def za(z:List Int)(h:Nat):Nat:=(z.getD h 0).toNat
def uS(b:Sz zs)(a:h<zs.length):zs[h]?=some ((za zs h:Nat):Int)/\2<=za zs h/\za zs h<=8:=by
 have e:zs.getD h 0=zs[h]:=by rw[Aa,dS a];rfl
 have:=b.2.2 zs[h] (Bv a);unfold za;rw[e,dS a];refine⟨?_,⋯,⋯⟩
 congr 1;omega
end M
end
section
namespace M
open PySem
def Out.post{b:Type}(o:Out b)(P:b->Sto->Prop):Prop:=∃a s,o=.e a s/\P a s
def zC{b:Type}{a:b}{s:Sto}{P:b->Sto->Prop}:(Out.e a s).post P↔P a s:=
 ⟨λ⟨_,_,e,h⟩=>(by cases e;exact h),λh=>⟨a,s,rfl,h⟩⟩
def zG{o:Out α}{f}{P:β->Sto->Prop}:(o.bind f).post P↔o.post λa s=>(f a s).post P:=by
 cases o with
 |e a s=>exact(zC (P:=λa s=>(f a s).post P)).symm
 |g c b s=>exact⟨λ⟨_,_,e,_⟩=>(by cases e),λ⟨_,_,e,_⟩=>(by cases e)⟩
 |d=>exact⟨λ⟨_,_,e,_⟩=>(by cases e),λ⟨_,_,e,_⟩=>(by cases e)⟩
def zT{o:Out α}{P Q}(h:o.post P)(i:∀a s,P a s->Q a s):o.post Q:=by obtain⟨a,s,e,h⟩:=h;exact⟨a,s,e,i a s h⟩
def zt{o:Out α}{P Q}(h:∀a s,P a s↔Q a s):o.post P↔o.post Q:=⟨λk=>zT k λa s=>(h a s).mp,λk=>zT k λa s=>(h a s).mpr⟩
def zX{a:Type}{P:a->Sto->Prop}:(Out.d:Out a).post P↔False:=⟨λ⟨_,_,e,_⟩=>(by cases e),Dp⟩
def xA{f:Type}{c:Prop} [Decidable c] {a b:Out f}{P:f->Sto->Prop}:(if c then a else b).post P↔if c then a.post P else b.post P:=by split<;>exact Dz
def post_eq{o:Out α}{a}:o=.e a s↔o.post λx t=>x=a/\t=s:=⟨λh=>⟨a,s,h,rfl,rfl⟩,λ⟨_,_,h,e1,e2⟩=>(by rw[h,e1,e2])⟩
section
variable {Φ:Calls}{G:Str->Option Val}{env:Env}{s:Sto}
def US{v:Val}{P:Val->Sto->Prop}:(evE Φ G env (.h v) s).post P↔P v s:=zC
def wB{i:Nat}{P:Val->Sto->Prop}:(evE Φ G env (.e i) s).post P↔∃v,env[i]?=some (some v)/\P v s:=by
 show (match env[i]? with|some (some v)=>Out.e v s|_=>.d).post P↔_
 split
 . rename_i v e
   refine zC.trans ⟨λh=>⟨_,e,h⟩,λz=>?_⟩;obtain⟨u,a,b⟩:=z;rw[e]at a;cases a;exact b
 . rename_i hn
   exact⟨λ⟨_,_,e,_⟩=>(by cases e),λ⟨u,a,b⟩=>absurd a (hn u)⟩
def PN{x:Str}{P:Val->Sto->Prop}:(evE Φ G env (.E x) s).post P↔∃v,G x=some v/\P v s:=by
 show (match G x with|some v=>Out.e v s|pn=>.d).post P↔_
 split
 . rename_i v e
   refine zC.trans ⟨λh=>⟨_,e,h⟩,λz=>?_⟩;obtain⟨u,a,b⟩:=z;rw[e]at a;cases a;exact b
 . rename_i e
   exact⟨λ⟨_,_,e,_⟩=>(by cases e),λ⟨u,a,b⟩=>(by rw[e]at a;cases a)⟩
def O1{x:Str}{n:String}{P:Val->Sto->Prop}:(evE Φ G env (.O x n) s).post P↔P (.t n) s:=zC
def PH{m:Bool}{o:Bop}{a b:Ex}{P:Val->Sto->Prop}:(evE Φ G env (.l m o a b) s).post P↔(evE Φ G env a s).post λx e=>(evE Φ G env b e).post λy d=>(binOp m o x y d).post P:=by show (Out.bind _ _).post P↔_;simp only[zG]
def PU{a:Ex}{P:Val->Sto->Prop}:(evE Φ G env (.C a) s).post P↔(evE Φ G env a s).post λx d=>∃i,x=.c i/\P (.c (-i)) d:=by show (Out.bind _ _).post P↔_;simp only[zG];exact zt λx d=>by cases x<;>simp[zC,zX]
def PV{a:Ex}{P:Val->Sto->Prop}:(evE Φ G env (.I a) s).post P↔(evE Φ G env a s).post λx d=>∃b,x=.e b/\P (.e !b) d:=by show (Out.bind _ _).post P↔_;simp only[zG];exact zt λx d=>by cases x<;>simp[zC,zX]
def PL{o:Cop}{a b:Ex}{P:Val->Sto->Prop}:(evE Φ G env (.k o a b) s).post P↔(evE Φ G env a s).post λx e=>(evE Φ G env b e).post λy d=>(zO o x y d).post P:=by show (Out.bind _ _).post P↔_;simp only[zG]
def VB{f o:Cop}{a b c:Ex}{P:Val->Sto->Prop}:(evE Φ G env (.s f o a b c) s).post P↔(evE Φ G env a s).post λx w=>(evE Φ G env b w).post λy u=>(zO f x y u).post λr d=>∃t,r=.e t/\if t=true then (evE Φ G env c d).post λz F=>(zO o y z F).post P else P (.e false) d:=by
 show (Out.bind _ _).post P↔_;simp only[zG];refine zt λx w=>zt λy u=>zt λr d=>?_;cases r with
 |e t=>cases t<;>simp[zC,zX,zG]
 |_=>simp[zX]
def PF{a b:Ex}{c:Exs}{P:Val->Sto->Prop}:(evE Φ G env (.z a (.a b c)) s).post P↔(evE Φ G env a s).post λx d=>∃t,x=.e t/\if t=true then (rd Φ G env (.a b c) d).post P else P (.e false) d:=by
 show (Out.bind _ _).post P↔_;simp only[zG];refine zt λx d=>?_;cases x with
 |e t=>cases t<;>simp[zC,zX]
 |_=>simp[zX]
def Sv{a:Ex}{P:Val->Sto->Prop}:(rd Φ G env (.a a .b) s).post P↔(evE Φ G env a s).post P:=Dz
def Sw{a b:Ex}{c:Exs}{P:Val->Sto->Prop}:(rd Φ G env (.a a (.a b c)) s).post P↔(evE Φ G env a s).post λx u=>∃t,x=.e t/\if t=true then (rd Φ G env (.a b c) u).post P else P (.e false) u:=by
 show ((evE Φ G env a s).bind λx u=>match x with
  |.e true=>rd Φ G env (.a b c) u
  |.e false=>.e (.e false) u
  |_=>.d).post P↔_
 simp only[zG];refine zt λx u=>?_;cases x with
 |e t=>cases t<;>simp[zC,zX]
 |_=>simp[zX]
def Oz{a b:Ex}{e:Exs}{P:Val->Sto->Prop}:(evE Φ G env (.P a (.a b e)) s).post P↔(evE Φ G env a s).post λx d=>∃t,truth d x=some t/\if t=true then P x d else (kG Φ G env (.a b e) d).post P:=by
 show (Out.bind _ _).post P↔_;simp only[zG];refine zt λx d=>?_;cases truth d x with
 |some t=>cases t<;>simp[zC,zX]
 |none=>simp[zX]
def PX{a:Ex}{P:Val->Sto->Prop}:(kG Φ G env (.a a .b) s).post P↔(evE Φ G env a s).post P:=Dz
def PY{a b:Ex}{c:Exs}{P:Val->Sto->Prop}:(kG Φ G env (.a a (.a b c)) s).post P↔(evE Φ G env a s).post λx u=>∃t,truth u x=some t/\if t=true then P x u else (kG Φ G env (.a b c) u).post P:=by
 show ((evE Φ G env a s).bind λx u=>match truth u x with
  |some false=>kG Φ G env (.a b c) u
  |some true=>.e x u
  |pn=>.d).post P↔_
 simp only[zG];refine zt λx u=>?_;cases truth u x with
 |some t=>cases t<;>simp[zC,zX]
 |none=>simp[zX]
def PQ{c:Cn}{a b:Ex}{P:Val->Sto->Prop}:(evE Φ G env (.H c a b) s).post P↔(evT Φ G env c s).post λt d=>if t=true then (evE Φ G env a d).post P else (evE Φ G env b d).post P:=by show (Out.bind _ _).post P↔_;simp only[zG,xA]
def Pa{a:Exs}{P:Val->Sto->Prop}:(evE Φ G env (.p a) s).post P↔(yf Φ G env a s).post λu w=>(if u.length<=zP then Out.e (Val.f u) w else .d).post P:=by show (Out.bind _ _).post P↔_;simp only[zG]
def UT{m:Bool}{a:Exs}{P:Val->Sto->Prop}:(evE Φ G env (.w m a) s).post P↔(yf Φ G env a s).post λe u=>(if e.length<=zP then newList m e u else .d).post P:=by show (Out.bind _ _).post P↔_;simp only[zG]
def pX{f:Str}{v:Nat}{e:Exs}{P:Val->Sto->Prop}:(evE Φ G env (.g f v e) s).post P↔(yf Φ G env e s).post λd u=>(Φ f v d u).post P:=by show (Out.bind _ _).post P↔_;simp only[zG]
def PJ{f:Bf}{m:Bool}{e:Exs}{P:Val->Sto->Prop}:(evE Φ G env (.j f m e) s).post P↔(yf Φ G env e s).post λd u=>(blt f m d u).post P:=by show (Out.bind _ _).post P↔_;simp only[zG]
def S4{f:Mf}{m:Bool}{o:Ex}{e:Exs}{P:Val->Sto->Prop}:(evE Φ G env (.J f m o e) s).post P↔(evE Φ G env o s).post λx w=>(yf Φ G env e w).post λd u=>(yT f x d u).post P:=by show (Out.bind _ _).post P↔_;simp only[zG]
def Z3{m:Bool}{a b c:Ex}{P:Val->Sto->Prop}:(evE Φ G env (.r m a b c) s).post P↔(evE Φ G env a s).post λx u=>(evE Φ G env b u).post λy e=>(evE Φ G env c e).post λz d=>(Wq m x y z d).post P:=by show (Out.bind _ _).post P↔_;simp only[zG]
def PR{a b:Ex}{P:Val->Sto->Prop}:(evE Φ G env (.u a b) s).post P↔(evE Φ G env a s).post λx e=>(evE Φ G env b e).post λy d=>(vt x y d).post P:=by show (Out.bind _ _).post P↔_;simp only[zG]
def O0{m:Bool}{a:Ex}{f g b:OEx}{P:Val->Sto->Prop}:(evE Φ G env (.F m a f g b) s).post P↔(evE Φ G env a s).post λx w=>(evO Φ G env f w).post λl u=>(evO Φ G env g u).post λh e=>(evO Φ G env b e).post λc d=>(wu m x l h c d).post P:=by show (Out.bind _ _).post P↔_;simp only[zG]
def S5{P:Option Int->Sto->Prop}:(evO Φ G env .b s).post P↔P none s:=zC
def S6{e:Ex}{P:Option Int->Sto->Prop}:(evO Φ G env (.a e) s).post P↔(evE Φ G env e s).post λv d=>∃i,v=.c i/\P (some i) d:=by show (Out.bind _ _).post P↔_;simp only[zG];exact zt λx d=>by cases x<;>simp[zC,zX]
def rg{P:List Val->Sto->Prop}:(yf Φ G env .b s).post P↔P [] s:=zC
def wj{e:Ex}{b:Exs}{P:List Val->Sto->Prop}:(yf Φ G env (.a e b) s).post P↔(evE Φ G env e s).post λv w=>(yf Φ G env b w).post λd u=>P (v::d) u:=by show (Out.bind _ _).post P↔_;simp only[zG,zC]
def f9{e:Ex}{P:Bool->Sto->Prop}:(evT Φ G env (.a e) s).post P↔(evE Φ G env e s).post λv d=>∃b,truth d v=some b/\P b d:=by
 show (Out.bind (evE Φ G env e s) _).post P↔_;simp only[zG];refine⟨λh=>zT h λv d h=>?_,λh=>zT h λv d h=>?_⟩
 . split at h
   . rename_i b e;exact⟨b,e,zC.mp h⟩
   . obtain⟨_,_,e,_⟩:=h;cases e
 . obtain⟨b,e,h⟩:=h
   rw[e];exact zC.mpr h
def RA{c:Cn}{P:Bool->Sto->Prop}:(evT Φ G env (.b c) s).post P↔(evT Φ G env c s).post λb d=>P (!b) d:=by show (Out.bind _ _).post P↔_;simp only[zG,zC]
def S9{c:Cn}{a:Cns}{P:Bool->Sto->Prop}:(evT Φ G env (.d c a) s).post P↔(evT Φ G env c s).post λb e=>if b=true then (yM Φ G env a e).post P else P false e:=by show (Out.bind _ _).post P↔_;simp only[zG,xA,zC]
def PZ{c:Cn}{a:Cns}{P:Bool->Sto->Prop}:(evT Φ G env (.f c a) s).post P↔(evT Φ G env c s).post λb d=>if b=true then P true d else (r0 Φ G env a d).post P:=by show (Out.bind _ _).post P↔_;simp only[zG,xA,zC]
def VG{P:Bool->Sto->Prop}:(yM Φ G env .a s).post P↔P true s:=zC
def VF{P:Bool->Sto->Prop}:(r0 Φ G env .a s).post P↔P false s:=zC
def Z7{c:Cn}{a:Cns}{P:Bool->Sto->Prop}:(yM Φ G env (.b c a) s).post P↔(evT Φ G env c s).post λb d=>if b=true then (yM Φ G env a d).post P else P false d:=by show (Out.bind _ _).post P↔_;simp only[zG,xA,zC]
def Z6{c:Cn}{a:Cns}{P:Bool->Sto->Prop}:(r0 Φ G env (.b c a) s).post P↔(evT Φ G env c s).post λb d=>if b=true then P true d else (r0 Φ G env a d).post P:=by show (Out.bind _ _).post P↔_;simp only[zG,xA,zC]
def Z2{e:Ex}{P:Src->Sto->Prop}:(zx Φ G env (.d e) s).post P↔(evE Φ G env e s).post λv u=>∃r,srcOf u v=some r/\P r u:=by
 show (Out.bind _ _).post P↔_;simp only[zG];refine⟨λh=>zT h λv u h=>?_,λh=>zT h λv u h=>?_⟩
 . split at h
   . rename_i b e;exact⟨b,e,zC.mp h⟩
   . obtain⟨_,_,e,_⟩:=h;cases e
 . obtain⟨b,e,h⟩:=h
   rw[e];exact zC.mpr h
def ku{a:Ex}{P:Src->Sto->Prop}:(zx Φ G env (.f a) s).post P↔(evE Φ G env a s).post λx d=>∃j,x=.c j/\(-(2 ^ 62)<=j/\j<=zP)/\P ⟨yP 0 j.toNat,pn⟩ d:=by
 show (Out.bind _ _).post P↔_;simp only[zG];refine⟨λh=>zT h λv d h=>?_,λh=>zT h λv d h=>?_⟩
 . split at h
   . rw[xA]at h
     split at h
     . rename_i j z;exact⟨_,rfl,z,zC.mp h⟩
     . obtain⟨_,_,e,_⟩:=h;cases e
   . obtain⟨_,_,e,_⟩:=h;cases e
 . obtain⟨j,rfl,z,h⟩:=h
   simp only[if_pos z];exact zC.mpr h
def kx{a b:Ex}{P:Src->Sto->Prop}:(zx Φ G env (.g a b) s).post P↔(evE Φ G env a s).post λx u=>(evE Φ G env b u).post λy d=>∃i j,x=.c i/\y=.c j/\(-(2 ^ 62)<=i/\i<2 ^ 62∧-(2 ^ 62)<=j/\j<2 ^ 62/\j-i<=zP)/\P ⟨yP i (j-i).toNat,pn⟩ d:=by
 show (Out.bind _ _).post P↔_;simp only[zG];refine⟨λh=>zT h λv u h=>zT h λw d h=>?_,λh=>zT h λv u h=>zT h λw d h=>?_⟩
 . split at h
   . rw[xA]at h
     split at h
     . rename_i z;exact⟨_,_,rfl,rfl,z,zC.mp h⟩
     . obtain⟨_,_,e,_⟩:=h;cases e
   . obtain⟨_,_,e,_⟩:=h;cases e
 . obtain⟨i,j,rfl,rfl,z,h⟩:=h
   simp only[if_pos z];exact zC.mpr h
def S1{a:Ex}{P:Src->Sto->Prop}:(zx Φ G env (.h a) s).post P↔(evE Φ G env a s).post λx u=>∃d,(x=.f d\/x=.g d)/\P ⟨yZ 0 d,pn⟩ u:=by
 show (Out.bind _ _).post P↔_;simp only[zG];refine⟨λh=>zT h λv u h=>?_,λh=>zT h λv u h=>?_⟩
 . split at h
   . exact⟨_,.inl rfl,zC.mp h⟩
   . exact⟨_,.inr rfl,zC.mp h⟩
   . obtain⟨_,_,e,_⟩:=h;cases e
 . obtain⟨j,rfl|rfl,h⟩:=h<;>exact zC.mpr h
def pY{e:Ex}{P:Fl->Sto->Prop}:(exS Φ G env (.g e) s).post P↔(evE Φ G env e s).post λ_ d=>P (.a env) d:=by show (Out.bind _ _).post P↔_;simp only[zG,zC]
def Z5{e:Ex}{P:Fl->Sto->Prop}:(exS Φ G env (.d e) s).post P↔(evE Φ G env e s).post λv u=>P (.b v) u:=by show (Out.bind _ _).post P↔_;simp only[zG,zC]
def S8{P:Fl->Sto->Prop}:(exS Φ G env .v s).post P↔P (.b .h) s:=zC
def nO{i:Nat}{e:Ex}{P:Fl->Sto->Prop}:(exS Φ G env (.f i e) s).post P↔(evE Φ G env e s).post λv d=>P (.a (env.set i (some v))) d:=by show (Out.bind _ _).post P↔_;simp only[zG,zC]
def Z1{i:List Nat}{e:Ex}{P:Fl->Sto->Prop}:(exS Φ G env (.q i e) s).post P↔(evE Φ G env e s).post λv u=>∃d,yC (.b i) v env=some d/\P (.a d) u:=by
 show (Out.bind _ _).post P↔_;simp only[zG];refine⟨λh=>zT h λv u h=>?_,λh=>zT h λv u h=>?_⟩
 . split at h
   . rename_i b e;exact⟨b,e,zC.mp h⟩
   . obtain⟨_,_,e,_⟩:=h;cases e
 . obtain⟨b,e,h⟩:=h
   rw[e];exact zC.mpr h
def Z4{i:List Nat}{b:Exs}{P:Fl->Sto->Prop}:(exS Φ G env (.r i b) s).post P↔(yf Φ G env b s).post λu w=>(if u.length=i.length then Out.e (Fl.a ((i.zip u).foldl (λe p=>e.set p.1 (some p.2)) env)) w else .d).post P:=by show (Out.bind _ _).post P↔_;simp only[zG]
def VD{o i e:Ex}{P:Fl->Sto->Prop}:(exS Φ G env (.p o i e) s).post P↔(evE Φ G env e s).post λv F=>(evE Φ G env o F).post λx w=>(evE Φ G env i w).post λy u=>∃r k d j,x=.j r/\y=.c k/\u[r]?=some (.c d)/\L2.ixN d.length k=some j/\P (.a env) (upd u r (d.set j v)):=by
 show (Out.bind _ _).post P↔_;simp only[zG];refine zt λv F=>zt λx w=>zt λy u=>⟨λh=>?_,λ⟨r,k,d,j,h1,h2,h3,h4,h5⟩=>?_⟩
 . split at h
   . split at h
     . rename_i e3
       split at h
       . rename_i e4;exact⟨_,_,_,_,rfl,rfl,e3,e4,zC.mp h⟩
       . exact(zX.mp h).elim
     . exact(zX.mp h).elim
   . exact(zX.mp h).elim
 . subst h1;subst h2
   simp only[h3,h4];exact zC.mpr h5
def S3{c:Cn}{a b:Sms}{P:Fl->Sto->Prop}:(exS Φ G env (.j c a b) s).post P↔(evT Φ G env c s).post λt d=>if t=true then (zU Φ G env a d).post P else (zU Φ G env b d).post P:=by show (Out.bind _ _).post P↔_;simp only[zG,xA]
def S7{P:Fl->Sto->Prop}:(exS Φ G env .s s).post P↔P (.a env) s:=zC
def PK{P:Fl->Sto->Prop}:(exS Φ G env .y s).post P↔P (.c env) s:=zC
def Sy{P:Fl->Sto->Prop}:(exS Φ G env .u s).post P↔P (.d env) s:=zC
def m5{P:Fl->Sto->Prop}:(zU Φ G env .f s).post P↔P (.a env) s:=zC
def p8(Φ:Calls)(G:Str->Option Val)(c:Sms)(P:Fl->Sto->Prop):Fl->Sto->Prop
 |.a e,s1=>(zU Φ G e c s1).post P
 |fl,s1=>P fl s1
def zV{c:Sm}{g:Sms}{P:Fl->Sto->Prop}:(zU Φ G env (.e c g) s).post P↔(exS Φ G env c s).post (p8 Φ G g P):=by
 show (Out.bind _ _).post P↔_;simp only[zG];have:∀f b,(match f with|.a e=>zU Φ G e g b|f=>Out.e f b:Out Fl).post P↔p8 Φ G g P f b:=λf b=>by
  cases f with
  |a e=>exact Dz
  |_=>exact zC
 exact⟨λh=>zT h λf b h=>(this f b).mp h,λh=>zT h λf b h=>(this f b).mpr h⟩
def wW{c:Sms}{P:Fl->Sto->Prop}{e:Env}:p8 Φ G c P (.a e) s↔(zU Φ G e c s).post P:=Dz
def eQ{c:Sms}{P:Fl->Sto->Prop}{v:Val}:p8 Φ G c P (.b v) s↔P (.b v) s:=Dz
def Vr{a:Sms}{P:Fl->Sto->Prop}{v:Env}:p8 Φ G a P (.c v) s↔P (.c v) s:=Dz
def Vs{c:Sms}{P:Fl->Sto->Prop}{v:Env}:p8 Φ G c P (.d v) s↔P (.d v) s:=Dz
theorem pN{I:Env->Prop}(a:r.ok s=true):∀u,(∀x∈u,∀e d,I e->∃M w,yC t x e=some M/\body M s d=.e (d++g x,w) s/\I w)->∀e d,I e->∃F,I F/\zz r t body u e s d=.e (d++u.flatMap g,F) s
 |[],_,e,d,h0=>⟨e,h0,by simp[zz,a]⟩
 |x::u,h,e,d,h0=>by obtain⟨M,w,U,S,O⟩:=h x (.head _) e d h0;obtain⟨F,f,c⟩:=pN a u (λy b=>h y (.tail _ b)) w (d++g x) O;refine⟨F,f,?_⟩;simp only[zz,a,if_true,U,S,zJ,c,Cc,Aq]
def Sx(I:Env->Prop)g
 (h:(zx Φ G env it s).post λr u=>r.ok u=true/\I (zL fr env)/\(∀x∈r.a,∀e,I e->∃w,yC t x e=some w/\I w/\(yM Φ G w ifs u).post λb d=>d=u/\if b=true then (evE Φ G w elt u).post (λv d=>d=u/\g x=[v]) else g x=[])/\(newList m (r.a.flatMap g) u).post P) :
 (evE Φ G env (.q m N fr elt t it ifs) s).post P:=by
 obtain⟨r,u,H,E,D,C,B⟩:=h;obtain⟨J,_,A⟩:=pN (I:=I) (g:=g) (body:=λe i c=>(yM Φ G e ifs i).bind λb d=>if b then (evE Φ G e elt d).bind λv f=>.e (c++[v],e) f else .e (c,e) d) E r.a (λx y e c z=>by
  obtain⟨w,p,o,b,d,n,rfl,k⟩:=C x y e z;refine⟨w,w,p,?_,o⟩;rw[n,zJ];cases b with
  |true=>
   rw[if_pos rfl]at k ⊢;obtain⟨v,f,j,rfl,l⟩:=k;rw[j,zJ,l]
  |false=>
   rw[if_neg Aj]at k ⊢;rw[k,A5]) (zL fr env) [] D
 show (Out.bind (zx Φ G env it s) _).post P;rw[H,zJ];rw[A,zJ];exact B
theorem rM(Q:List Val->Env->Sto->Prop)(R:Fl->Sto->Prop){r:Src}{t:Tgt}{f:Env->Sto->Out Fl}(g:∀e s,Q [] e s->R (.a e) s):∀(xs:List Val),(∀u e s,Q u e s->r.ok s=true)->(∀x u e s,Q (x::u) e s->∃M,yC t x e=some M/\(f M s).post λF w=>match F with|.a e=>Q u e w|.d e=>Q u e w|.c e=>R (.a e) w|.b v=>R (.b v) w)->∀e s,Q xs e s->(vn r t f xs e s).post R
 |[],hk,_,e,s,q=>by
  simp only[vn,hk _ _ _ q,if_true];exact zC.mpr (g _ _ q)
 |x::xs,hk,h,e,s,q=>by
  obtain⟨M,S,O⟩:=h x xs e s q;simp only[vn,hk _ _ _ q,if_true,S,zG];refine zT O λF w q=>?_;cases F with
  |a e=>exact rM Q R g xs hk h e w q
  |d e=>exact rM Q R g xs hk h e w q
  |c e=>exact zC.mpr q
  |b v=>exact zC.mpr q
def rj(Q:Env->Sto->Prop)(R:Fl->Sto->Prop):Fl->Sto->Prop
 |.a e,s=>Q e s
 |.d e,s=>Q e s
 |.c e,s=>R (.a e) s
 |.b v,s=>R (.b v) s
def eN{Q:Env->Sto->Prop}{R:Fl->Sto->Prop}{e:Env}:rj Q R (.a e) s↔Q e s:=Dz
def Vo{Q:Env->Sto->Prop}{R:Fl->Sto->Prop}{e:Env}:rj Q R (.d e) s↔Q e s:=Dz
def Vn{Q:Env->Sto->Prop}{R:Fl->Sto->Prop}{e:Env}:rj Q R (.c e) s↔R (.a e) s:=Dz
def Vp{Q:Env->Sto->Prop}{R:Fl->Sto->Prop}{v:Val}:rj Q R (.b v) s↔R (.b v) s:=Dz
def PM(Q:List Val->Env->Sto->Prop)
 (h:(zx Φ G env it s).post λr w=>Q r.a env w/\(∀d e s,Q d e s->r.ok s=true)/\(∀x d e s,Q (x::d) e s->∃u,yC t x e=some u/\(zU Φ G u b s).post (rj (Q d) R))/\∀e s,Q [] e s->R (.a e) s) :
 (exS Φ G env (.l t it b) s).post R:=by
 obtain⟨r,w,o,m,j,i,g⟩:=h;show (Out.bind (zx Φ G env it s) _).post R;rw[o,zJ];refine rM Q R g r.a j (λx d e s q=>?_) _ _ m;obtain⟨u,f,c⟩:=i x d e s q;refine⟨u,f,zT c λn p k=>?_⟩;cases n<;>exact k
def wA(Q:List Val->Env->Sto->Prop)xs(h:zx Φ G env it s=.e ⟨xs,pn⟩ s1)(g:Q xs env s1)
 (f:∀x d e s,Q (x::d) e s->∃u,yC t x e=some u/\(zU Φ G u b s).post (rj (Q d) R)) (c:∀e s,Q [] e s->R (.a e) s) :
 (exS Φ G env (.l t it b) s).post R:=PM Q ⟨_,_,h,g,λ_ _ _ _=>rfl,f,c⟩
def VC(I:Env->Prop)g xs(h:zx Φ G env it s=.e ⟨xs,pn⟩ s1)(f:I (zL fr env))
 (c:∀x∈xs,∀e,I e->∃d,yC t x e=some d/\I d/\(yM Φ G d ifs s1).post λb u=>u=s1/\if b=true then (evE Φ G d elt s1).post (λv u=>u=s1/\g x=[v]) else g x=[]) (a:(newList m (xs.flatMap g) s1).post P) :
 (evE Φ G env (.q m N fr elt t it ifs) s).post P:=Sx I g ⟨_,_,h,rfl,f,c,a⟩
def dn(Q:Nat->Env->Sto->Prop)R:∀n k,n<k->(∀n e s,Q n e s->(c e s).post λb u=>if b=true then (body e u).post (rj (λe s=>∃m,m<n/\Q m e s) R) else R (.a e) u)->∀e s,Q n e s->(uN c body k e s).post R:=by
 intro n;induction n using Nat.strongRecOn with
 |ind n j=>
  intro k o h e s q;cases k with
  |zero=>omega
  |succ k=>
   simp only[uN,zG];refine zT (h n e s q) λb u z=>?_;cases b with
   |true=>
    rw[if_pos rfl]at z ⊢;simp only[zG];refine zT z λl i z=>?_;cases l with
    |a e=>
     obtain⟨m,g,f⟩:=z;exact j m g k ⋯ h e i f
    |d e=>
     obtain⟨m,g,f⟩:=z;exact j m g k ⋯ h e i f
    |c e=>exact zC.mpr z
    |b v=>exact zC.mpr z
   |false=>
    rw[if_neg Aj]at z ⊢;exact zC.mpr z
def m6 n(Q:Nat->Env->Sto->Prop)(f:n<qW)(q:Q n env s)
 (h:∀n e s,Q n e s->(evT Φ G e c s).post λt d=>if t=true then (zU Φ G e b d).post (rj (λe s=>∃m,m<n/\Q m e s) R) else R (.a e) d) :
 (exS Φ G env (.m c b) s).post R:=dn Q R n qW f h env s q
end
def Vt{s:Sto}:truth s .h=some false:=rfl
def zR{s:Sto}{b:Bool}:truth s (.e b)=some b:=rfl
def Rp{s:Sto}{i:Int}:truth s (.c i)=some (i != 0):=rfl
def gO{s:Sto}{v:List Val}:truth s (.f v)=some !v.isEmpty:=rfl
def lN{s:Sto}{v:List Val}:truth s (.g v)=some !v.isEmpty:=rfl
def RZ{s:Sto}{v:List Val}:srcOf s (.f v)=some ⟨v,pn⟩:=rfl
def RY{s:Sto}{v:List Val}:srcOf s (.g v)=some ⟨v,pn⟩:=rfl
def Vl{s:Sto}{n:List Int}:srcOf s (.o n)=some ⟨n.map .c,pn⟩:=rfl
def Y8{s:Sto}{x:List Val}:Src.ok ⟨x,pn⟩ s=true:=rfl
def QF{i:Nat}{v:Val}{e:Env}:yC (.a i) v e=some (e.set i (some v)):=rfl
def Uy{i:List Nat}{v:List Val}{a:Env}:yC (.b i) (.f v) a=if v.length=i.length then some ((i.zip v).foldl (λe p=>e.set p.1 (some p.2)) a) else pn:=rfl
def aA vs:rC vs vs=true:=ud vs
def lg(c:Cel):c.beq c=true:=by cases c<;>simp[Cel.beq,aA]
theorem vI:∀s t,x9 s (s++t)=true
 |[],_=>rfl
 |c::r,t=>by simp[x9,lg c,vI r t]
def ij s:x9 s s=true:=by have:=vI s [];rwa [A5]at this
theorem pV:∀s t i c,c.noRef=true->x9 s (s.set i c++t)=true
 |[],_,_,_,_=>by simp[x9]
 |_::r,t,0,c,h=>by simp[x9,h,vI r t]
 |o::r,t,i+1,c,h=>by simp[x9,lg o,pV r t i c h]
def cC s t i vs(h:zk vs=true):x9 s (s.set i (.c vs)++t)=true:=pV s t i _ h
def uj:Val.h.noRef=true:=by rw[Val.noRef]
def yg{b:Bool}:(Val.e b).noRef=true:=by rw[Val.noRef]
def ie{b:Int}:(Val.c b).noRef=true:=by rw[Val.noRef]
def Sb{b:Str}:(Val.m b).noRef=true:=by rw[Val.noRef]
def Zs{v:List Val}:(Val.f v).noRef=zk v:=by rw[Val.noRef]
def tW{v:List Val}:(Val.g v).noRef=zk v:=by rw[Val.noRef]
def Ww:zk []=true:=by rw[zk]
def Zt{v:Val}{a:List Val}:zk (v::a)=(v.noRef&&zk a):=by rw[zk]
theorem yA:∀d:List Int,zk (d.map .c)=true
 |[]=>rfl
 |_::d=>by simp[zk,Val.noRef,yA d]
theorem pS:∀d:List (Int × Int),zk (d.map prV)=true
 |[]=>rfl
 |_::d=>by simp[zk,Val.noRef,prV,pS d]
def zh(k:Bool)(a:Sto)(v:Val)(s:Sto):Out Val:=
 if k then .e v s
 else if x9 a s then (match freeze a.length s v with|some b=>.e b (s.take a.length)|pn=>.d) else .d
def kS{a s:Sto}{v:Val}:zh true a v s=.e v s:=rfl
def zq{k:Bool}{s:Sto}{v:Val}(h:v.noRef=true):zh k s v s=.e v s:=by
 unfold zh;cases k
 . simp[ij,freeze,h]
 . rfl
def pH(h:v.noRef=true):zh false s v (s++t)=.e v s:=by unfold zh;simp[vI,freeze,h]
def iR(h:v.noRef=true)(a:zk vs=true):zh false s v (s.set i (.c vs)++t)=.e v (s.set i (.c vs)):=by
 unfold zh;have e:s.length=(s.set i (.c vs)).length:=by rw[D4]
 simp only[cC s t i vs a,freeze,h,if_true,As,if_false,e,List.take_left']
def iQ(b:i ≥ s.length)(a:(s++t)[i]?=some (.c vs))(h:zk vs=true):zh false s (.j i) (s++t)=.e (.g vs) s:=by
 unfold zh;have:¬i<s.length:=by omega
 simp[vI,freeze,Val.noRef,wO,this,a,h]
def fin(k:Bool)(s:Sto)(P:Val->Sto->Prop):Fl->Sto->Prop
 |.a _,s1=>(zh k s .h s1).post P
 |.b v,s1=>(zh k s v s1).post P
 |_,_=>False
def TM{k:Bool}{s b:Sto}{P:Val->Sto->Prop}{e:Env}:fin k s P (.a e) b↔(zh k s .h b).post P:=Dz
def aq{k:Bool}{s a:Sto}{P:Val->Sto->Prop}{v:Val}:fin k s P (.b v) a↔(zh k s v a).post P:=Dz
def yF{T:Tbl}{A:Calls}{N p:List Str}{k:Bool}{b:Sms}{v:List Val}{s:Sto}{P:Val->Sto->Prop}:(run T A ⟨N,p,k,b⟩ v s).post P↔v.length=p.length/\(zU A T.b (ze N v) b s).post (fin k s P):=by
 unfold run;by_cases hl:v.length=p.length
 . rw[if_pos hl,zG]
   refine⟨λh=>⟨hl,zT h λf a h=>?_⟩,λh=>zT h.2 λf a h=>?_⟩
   . cases f<;>first|exact h|exact(zX.mp h).elim
   . cases f<;>first|exact h|exact h.elim
 . rw[if_neg hl]
   exact⟨λh=>(zX.mp h).elim,λh=>absurd h.1 hl⟩
def uA(h:T.c f v=some F)vs s:zE T (n+1) f v vs s=run T (zE T n) F vs s:=by simp only[zE,h]
def At(T:Tbl)(k:Nat)(C:Calls->Prop):Prop:=∀n,k<=n->C (zE T n)
def EVl:=Ai @US <| Ai @wB <| Ai @PN <| Ai @O1 <| Ai @PH <| Ai @PU <| Ai @PV <| Ai @PL <| Ai @VB <| Ai @PF <| Ai @Sv <| Ai @Sw <| Ai @Oz <| Ai @PX <| Ai @PY <| Ai @PQ <| Ai @Pa <| Ai @UT <| Ai @pX <| Ai @PJ <| Ai @S4 <| Ai @Z3 <| Ai @PR <| Ai @O0 <| Ai @S5 <| Ai @S6 <| Ai @rg <| Ai @wj <| Ai @f9 <| Ai @RA <| Ai @S9 <| Ai @PZ <| Ai @VG <| Ai @VF <| Ai @Z7 <| Ai @Z6 <| Ai @Z2 <| Ai @ku <| Ai @kx <| Ai @S1 <| Ai @pY <| Ai @Z5 <| Ai @S8 <| Ai @nO <| Ai @Z1 <| Ai @Z4 <| Ai @VD <| Ai @S3 <| Ai @S7 <| Ai @PK <| Ai @Sy <| Ai @m5 <| Ai @zV <| Ai @wW <| Ai @eQ <| Ai @Vr <| Ai @Vs <| Ai @eN <| Ai @Vo <| Ai @Vn <| Ai @Vp <| Ai @zC <| Ai @xA <| Ai @zX <| Ai @Vt <| Ai @zR <| Ai @Rp <| Ai @gO <| Ai @lN <| Ai @RZ <| Ai @RY <| Ai @Vl <| Ai @Y8 <| Ai @QF <| Ai @Uy <| Ai @yF <| Ai @TM <| Ai @aq <| Ai @kS <| Ai @zq <| Ai @uj <| Ai @yg <| Ai @ie <| Ai @Sb <| Ai @Zs <| Ai @tW <| Ai @Ww <| Ai @Zt <| Ai @yA <| @pS
def bnd{o:Out α}{a}{f}{r:Out β}(h:o=.e a s)(k:f a s=r):o.bind f=r:=by rw[h];exact k
def zb:evE Φ G env (.h v) s=.e v s:=rfl
def zB(h:env[i]?=some (some v)):evE Φ G env (.e i) s=.e v s:=post_eq.mpr (wB.mpr ⟨v,h,rfl,rfl⟩)
def gf:evE Φ G env (.O x n) s=.e (.t n) s:=rfl
def gY(h:G x=some v):evE Φ G env (.E x) s=.e v s:=post_eq.mpr (PN.mpr ⟨v,h,rfl,rfl⟩)
def R0(h:evE Φ G env a s=.e (.e false) s1):evE Φ G env (.z a (.a b es)) s=.e (.e false) s1:=bnd h rfl
def R1(f:evE Φ G env a s=.e (.e true) s1)(h:evE Φ G env b s1=.e (.e false) s2):evE Φ G env (.z a (.a b (.a c es))) s=.e (.e false) s2:=bnd f (show (evE Φ G env b s1).bind _=_ from bnd h rfl)
def gX(g:evE Φ G env a s=.e (.e true) s1)(f:evE Φ G env b s1=.e (.e true) s2)(h:evE Φ G env c s2=r):evE Φ G env (.z a (.a b (.a c .b))) s=r:=bnd g (show (evE Φ G env b s1).bind _=_ from bnd f h)
def Xa(h:evE Φ G env a s=.e (.c i) s1):evE Φ G env (.C a) s=.e (.c (-i)) s1:=bnd h rfl
def ye(f:evE Φ G env a s=.e x s1)(c:evE Φ G env b s1=.e y s2)(h:binOp m op x y s2=r):evE Φ G env (.l m op a b) s=r:=bnd f (bnd c h)
def z8(f:evE Φ G env a s=.e x s1)(c:evE Φ G env b s1=.e y s2)(h:zO op x y s2=r):evE Φ G env (.k op a b) s=r:=bnd f (bnd c h)
def vv(f:evE Φ G env a s=.e x s1)(c:evE Φ G env b s1=.e y s2)(h:vt x y s2=r):evE Φ G env (.u a b) s=r:=bnd f (bnd c h)
def pU:evO Φ G env .b s=.e none s:=rfl
def u4(h:evE Φ G env e s=.e (.c i) s1):evO Φ G env (.a e) s=.e (some i) s1:=bnd h rfl
def gc(j:evE Φ G env a s=.e x s1)(i:evO Φ G env lo s1=.e l s2)(g:evO Φ G env hi s2=.e h s3)(f:evO Φ G env st s3=.e c s4)(b:wu m x l h c s4=r):evE Φ G env (.F m a lo hi st) s=r:=bnd j (bnd i (bnd g (bnd f b)))
def zD:yf Φ G env .b s=.e [] s:=rfl
def zA(b:evE Φ G env e s=.e v s1)(h:yf Φ G env es s1=.e vs s2):yf Φ G env (.a e es) s=.e (v::vs) s2:=bnd b (bnd h rfl)
def qP{P:List Val->Sto->Prop}(h:evE Φ G env e s=.e v s1)(k:(yf Φ G env es s1).post λd u=>P (v::d) u):(yf Φ G env (.a e es) s).post P:=wj.mpr (by rw[h];exact zC.mpr k)
def uc(h:yf Φ G env es s=.e vs s1)(a:vs.length<=zP):evE Φ G env (.p es) s=.e (.f vs) s1:=bnd h (if_pos a)
def jo(h:yf Φ G env es s=.e vs s1)(a:vs.length<=zP):evE Φ G env (.w false es) s=.e (.g vs) s1:=bnd h (if_pos a)
def yt(h:yf Φ G env es s=.e vs s1)(k:blt f m vs s1=r):evE Φ G env (.j f m es) s=r:=bnd h k
def x_call(h:yf Φ G env es s=.e vs s1)(k:Φ f v vs s1=r):evE Φ G env (.g f v es) s=r:=bnd h k
def yd(h:evE Φ G env e s=.e v s1)(k:(zU Φ G (env.set i (some v)) cs s1).post P):(zU Φ G env (.e (.f i e) cs) s).post P:=zV.mpr (nO.mpr (by rw[h];exact zC.mpr k))
def RU(h:evE Φ G env e s=.e v s1)(a:yC (.b is) v env=some env')(k:(zU Φ G env' cs s1).post P):(zU Φ G env (.e (.q is e) cs) s).post P:=zV.mpr (Z1.mpr (by rw[h];exact zC.mpr ⟨env',a,k⟩))
def xp(h:evE Φ G env e s=.e v s1)(k:(zU Φ G env cs s1).post P):(zU Φ G env (.e (.g e) cs) s).post P:=zV.mpr (pY.mpr (by rw[h];exact zC.mpr k))
def yB(h:evE Φ G env e s=.e v s1)(k:P (.b v) s1):(zU Φ G env (.e (.d e) cs) s).post P:=zV.mpr (Z5.mpr (by rw[h];exact zC.mpr k))
def yV(h:evE Φ G env e s=.e v s1)(k:srcOf s1 v=some ⟨xs,none⟩):zx Φ G env (.d e) s=.e ⟨xs,none⟩ s1:=post_eq.mpr (Z2.mpr (by rw[h];exact zC.mpr ⟨_,k,rfl,rfl⟩))
def zi(h:evE Φ G env e s=.e v s1)(k:truth s1 v=some b):evT Φ G env (.a e) s=.e b s1:=post_eq.mpr (f9.mpr (by rw[h];exact zC.mpr ⟨_,k,rfl,rfl⟩))
def sk(h:evT Φ G env c s=.e b s1):evT Φ G env (.b c) s=.e (!b) s1:=bnd h rfl
def XI(h:evT Φ G env c s=.e false s1)(k:r0 Φ G env cs s1=.e b s2):evT Φ G env (.f c cs) s=.e b s2:=bnd h k
def p9:r0 Φ G env .a s=.e false s:=rfl
def wX(h:evT Φ G env c s=.e false s1)(k:r0 Φ G env cs s1=.e b s2):r0 Φ G env (.b c cs) s=.e b s2:=bnd h k
def ym(h:evT Φ G env c s=.e false s1)(k:(zU Φ G env cs s1).post P):(zU Φ G env (.e (.j c a .f) cs) s).post P:=zV.mpr (S3.mpr (by rw[h];refine zC.mpr ?_;rw[if_neg Aj];exact m5.mpr k))
def eL(h:evT Φ G env c s=.e true s1)(k:(zU Φ G env a s1).post (p8 Φ G cs P)):(zU Φ G env (.e (.j c a b) cs) s).post P:=zV.mpr (S3.mpr (by rw[h];refine zC.mpr ?_;rw[if_pos rfl];exact k))
def fc(h:evE Φ G env e s=.e (.f vs) s1):zx Φ G env (.h e) s=.e ⟨yZ 0 vs,none⟩ s1:=bnd h rfl
def Ui(h:evE Φ G env a s=.e (.e b) s1):evE Φ G env (.I a) s=.e (.e !b) s1:=bnd h rfl
def R3(h:evT Φ G env c s=.e true s1)(k:evE Φ G env a s1=r):evE Φ G env (.H c a b) s=r:=bnd h k
def wU(k:P (.a env) s):(zU Φ G env .f s).post P:=m5.mpr k
def eA{i:List Nat}{v:List Val}{P:Fl->Sto->Prop}(h:v.length=i.length)(k:P (.a ((i.zip v).foldl (λe p=>e.set p.1 (some p.2)) env)) s):(if v.length=i.length then Out.e (Fl.a ((i.zip v).foldl (λe p=>e.set p.1 (some p.2)) env)) s else .d).post P:=by rw[if_pos h];exact zC.mpr k
def ZF{k:Nat}(h:evE Φ G env e s=.e (.c (k:Int)) s1)(a:k<=zP):zx Φ G env (.f e) s=.e ⟨yP 0 k,none⟩ s1:=by rw[post_eq];refine ku.mpr ?_;rw[h];exact zC.mpr ⟨_,rfl,⟨⋯,⋯⟩,by rw[Bx],rfl⟩
def UN{i j:Nat}(h:evE Φ G env a s=.e (.c (i:Int)) s1)(f:evE Φ G env b s1=.e (.c (j:Int)) s2)(l:i<=1000)(k:j<=1000):zx Φ G env (.g a b) s=.e ⟨yP i (j-i),none⟩ s2:=by rw[post_eq];refine kx.mpr ?_;rw[h];refine zC.mpr ?_;rw[f];exact zC.mpr ⟨_,_,rfl,rfl,⟨⋯,⋯,⋯,⋯,by unfold zP;omega⟩,by congr 2;omega,rfl⟩
def Rj(h:evT Φ G env c s=.e a s)(k:evT Φ G env d s=.e b s):evT Φ G env (.d c (.b d .a)) s=.e (a&&b) s:=bnd h (by
 cases a with
 |false=>rfl
 |true=>exact bnd k (by cases b<;>rfl))
def tu(h:evT Φ G env c s=.e b s):yM Φ G env (.b c .a) s=.e b s:=bnd h (by cases b<;>rfl)
def eM(l:evE Φ G env e s=.e v s1)(b:evE Φ G env o s1=.e (.j r) s1)(g:evE Φ G env i s1=.e (.c k) s1)(h:s1[r]?=some (.c vs))(f:L2.ixN vs.length k=some j)
 (q:(zU Φ G env cs (s1.set r (.c (vs.set j v)))).post P):(zU Φ G env (.e (.p o i e) cs) s).post P:=by
 have m:exS Φ G env (.p o i e) s=.e (.a env) (s1.set r (.c (vs.set j v))):=by show ((evE Φ G env e s).bind _)=_;rw[l,zJ,b,zJ,g,zJ];simp only[h,f];rfl
 refine zV.mpr ?_;rw[m];exact zC.mpr q
def XZ(l:evE Φ G env a s=.e (.c i) s)(g:evE Φ G env b s=.e (.c j) s)(h:evE Φ G env c s=.e (.c k) s):evE Φ G env (.s .c .c a b c) s=.e (.e (decide (i<=j)&&decide (j<=k))) s:=by
 refine bnd l (bnd g (bnd (show zO .c (.c i) (.c j) s=.e (.e (decide (i<=j))) s from rfl) ?_));cases decide (i<=j) with
 |true=>
  show (evE Φ G env c s).bind (λz f=>zO .c (.c j) z f)=_;exact bnd h (by rw[show zO .c (.c j) (.c k) s=.e (.e (decide (j<=k))) s from rfl,Bool.true_and])
 |false=>rfl
def zw(h:v.noRef=true):(zh false s v s).post λx t=>x=v/\t=s:=by rw[zq h];exact zC.mpr ⟨rfl,rfl⟩
theorem Zl{b:Type}{f}{g}{I:Env->Prop}(a:r.ok s=true):∀(xs:List b),(∀x∈xs,∀e d,I e->∃F u,yC t (f x) e=some F/\body F s d=.e (d++g x,u) s/\I u)->∀e d,I e->∃w,I w/\zz r t body (xs.map f) e s d=.e (d++xs.flatMap g,w) s
 |[],_,e,d,h0=>⟨e,h0,by simp[zz,a]⟩
 |x::xs,h,e,d,h0=>by obtain⟨F,u,S,O,M⟩:=h x (.head _) e d h0;obtain⟨w,j,i⟩:=Zl a xs (λy c=>h y (.tail _ c)) u (d++g x) M;refine⟨w,j,?_⟩;rw[AG,zz,a,if_pos rfl,S];simp only[O,zJ,i,Cc,Aq]
def iU{i:Type}{x:List i}{f:i->Val}{g:i->List Val}{I:Env->Prop}
 (h:∀a∈x,∀e,I e->∃d,yC t (f a) e=some d/\I d/\∃c,yM Φ G d ifs s=.e c s/\if c=true then ∃v,evE Φ G d elt s=.e v s/\g a=[v] else g a=[])   (r:I e) :
 ∃w,I w/\zz ⟨x.map f,none⟩ t (λe M acc=>(yM Φ G e ifs M).bind λb u=>if b then (evE Φ G e elt u).bind λv F=>.e (acc++[v],e) F else .e (acc,e) u) (x.map f) e s acc=.e (acc++x.flatMap g,w) s:=
 Zl rfl x (λa q e acc p=>by
  obtain⟨d,o,n,c,m,k⟩:=h a q e p;refine⟨d,d,o,?_,n⟩;show (yM Φ G d ifs s).bind _=_;rw[m,zJ];cases c with
  |true=>
   rw[if_pos rfl]at k ⊢;obtain⟨v,j,l⟩:=k;rw[j,zJ,l]
  |false=>
   rw[if_neg Aj]at k ⊢;rw[k,A5]) e acc r
def ur{b:Type}{xs:List b}{f}{g}(I:Env->Prop)(i:zx Φ G env it s=.e ⟨xs.map f,none⟩ s1)(j:I (zL fr env))
 (h:∀a∈xs,∀e,I e->∃d,yC t (f a) e=some d/\I d/\∃c,yM Φ G d ifs s1=.e c s1/\if c=true then ∃v,evE Φ G d elt s1=.e v s1/\g a=[v] else g a=[]) :
 evE Φ G env (.q false N fr elt t it ifs) s=.e (.g (xs.flatMap g)) s1:=by
 obtain⟨l,_,k⟩:=iU h (acc:=[]) j;show (zx Φ G env it s).bind _=_;rw[i,zJ];exact bnd k rfl
def Zk{i j:Type}{x:List i}{f:i->Val}{y:i->List j}{m:i->j->Val}{g:i->j->List Val}{I:Env->Prop}{J:i->Env->Prop}
 (h:∀a∈x,∀e,I e->∃F,yC t (f a) e=some F/\zx Φ G F it2 s=.e ⟨(y a).map (m a),none⟩ s/\J a F) (B:∀a e,J a e->I e)
 (C:∀a∈x,∀b∈y a,∀e,J a e->∃F,yC t2 (m a b) e=some F/\J a F/\∃c,yM Φ G F ifs2 s=.e c s/\if c=true then ∃v,evE Φ G F elt s=.e v s/\g a b=[v] else g a b=[])  (D:I e) :
 ∃w,zz ⟨x.map f,none⟩ t (λe s' u=>(yM Φ G e .a s').bind λb O=>if b then (zx Φ G e it2 O).bind λS Y=>
    zz S t2 (λw W d=>(yM Φ G w ifs2 W).bind λb' M=>if b' then (evE Φ G w elt M).bind λv U=>.e (d++[v],w) U else .e (d,w) M) S.a e Y u
  else .e (u,e) O) (x.map f) e s []=.e (x.flatMap λa=>(y a).flatMap (g a),w) s:=by
 obtain⟨w,_,k⟩:=Zl (s:=s) (r:=⟨x.map f,none⟩) (t:=t) (I:=I) (g:=λa=>(y a).flatMap (g a)) (f:=f) (body:=λe s' u=>(yM Φ G e .a s').bind λb O=>if b then (zx Φ G e it2 O).bind λS Y=>
        zz S t2 (λw W d=>(yM Φ G w ifs2 W).bind λb' M=>if b' then (evE Φ G w elt M).bind λv U=>.e (d++[v],w) U else .e (d,w) M) S.a e Y u
  else .e (u,e) O) rfl x (λa l e u A=>by
  obtain⟨F,z,q,p⟩:=h a l e A;obtain⟨E,o,n⟩:=iU (t:=t2) (I:=J a) (C a l) (acc:=u) p;refine⟨F,E,z,?_,B _ _ o⟩;show (zx Φ G F it2 s).bind _=_;rw[q,zJ];exact n) e [] D
 exact⟨w,k⟩
def jn{i j:Type}{xs:List i}{f}{ys:i->List j}{f2:i->j->Val}{g:i->j->List Val}(I:Env->Prop)(J:i->Env->Prop)(m:zx Φ G env it s=.e ⟨xs.map f,none⟩ s1)(p:I (zL fr env))
 (h:∀a∈xs,∀e,I e->∃d,yC t (f a) e=some d/\zx Φ G d it2 s1=.e ⟨(ys a).map (f2 a),none⟩ s1/\J a d) (n:∀a e,J a e->I e)
 (o:∀a∈xs,∀b∈ys a,∀e,J a e->∃d,yC t2 (f2 a b) e=some d/\J a d/\∃c,yM Φ G d ifs2 s1=.e c s1/\if c=true then ∃v,evE Φ G d elt s1=.e v s1/\g a b=[v] else g a b=[]) (l:(xs.flatMap λa=>(ys a).flatMap (g a)).length<=zP) :
 evE Φ G env (.y false N fr elt t it .a t2 it2 ifs2) s=.e (.g (xs.flatMap λa=>(ys a).flatMap (g a))) s1:=by
 obtain⟨q,k⟩:=Zk h n o p;show (zx Φ G env it s).bind _=_;rw[m,zJ];exact bnd k (if_pos l)
def up1(k:run T (zE T n) F vs s=r)(h:T.c f v=some F):zE T (n+1) f v vs s=r:=by rw[uA h];exact k
def OP(k:(run T (zE T n) F vs s).post P)(h:T.c f v=some F):(zE T (n+1) f v vs s).post P:=by rw[uA h];exact k
noncomputable def Sms.tl:Sms->Sms
 |.e _ ss=>ss
 |x=>x
noncomputable def Sms.hd:Sms->Sm
 |.e a _=>a
 |_=>.s
noncomputable def Sm.fb:Sm->Sms
 |.l _ _ b=>b
 |_=>.f
noncomputable def xg(l m:Int):Val->Bool
 |.c i=>decide (l<=i)&&decide (i<=m)
 |_=>false
def nk(a:l<=i)(h:i<=m):xg l m (.c i)=true:=by simp[xg,a,h]
def jt(A:Calls):Prop:=∀(v:Val) (l m:Int) (s:Sto),kindOf v≠none->A "is_whole" 0 [v,.c l,.c m] s=.e (.e (xg l m v)) s
def ny(A:Calls):Prop:=∀(vs:List Val) (l m:Int) (s:Sto),(∀v∈vs,kindOf v≠none)->A "are_wholes" 0 [.f vs,.c l,.c m] s=.e (.e (vs.all (xg l m))) s
def qS(A:Calls):Prop:=∀(i l m:Int) (s:Sto),l<=i->i<=m->A "need_whole" 0 [.c i,.c l,.c m] s=.e .h s
def rW(A:Calls):Prop:=∀(i:Int) (s:Sto),0<=i->i<=40->A "need_length" 0 [.c i] s=.e .h s
def V7(A:Calls):Prop:=∀(n i z:Nat) (s:Sto),i<n->2<=z->z<=8->A "most_step" 0 [.c n,.c i,.c z] s=.e (.c ((n-1-i)/(z-1):Nat)) s
def UQ:blt .a m [.f vs] s=.e (.c vs.length) s:=rfl
def kQ:blt .a m [.g vs] s=.e (.c vs.length) s:=rfl
def SU:blt .a m [.o ns] s=.e (.c ns.length) s:=by simp[blt,xB]
def Ze:blt .a m [.r ns] s=.e (.c ns.length) s:=by simp[blt,xB]
def le_int:zO .c (.c a) (.c b) s=.e (.e (decide (a<=b))) s:=rfl
def lt_int:zO .n (.c a) (.c b) s=.e (.e (decide (a<b))) s:=rfl
def ge_int:zO .j (.c a) (.c b) s=.e (.e (decide (b<=a))) s:=rfl
def gt_int:zO .k (.c a) (.c b) s=.e (.e (decide (b<a))) s:=rfl
def fZ:blt .i m [.f vs,.t "tuple"] s=.e (.e true) s:=rfl
theorem rY{a:Type}f:∀d:List a,boolsOf (d.map λx=>Val.e (f x))=some (d.map f)
 |[]=>rfl
 |x::d=>by simp[boolsOf,rY f d]
def ee:binOp m .a (.c i) (.c j) s=.e (.c (i+j)) s:=by simp only[binOp]
def aB:binOp m .c (.c i) (.c j) s=.e (.c (i-j)) s:=by simp only[binOp]
def UA(h:-1000000<=i/\i<=1000000):binOp m .b (.c i) (.c j) s=.e (.c (i*j)) s:=by simp only[binOp];rw[if_pos (.inl ⋯)]
def g9(h:-1000000<=j/\j<=1000000):binOp m .b (.c i) (.c j) s=.e (.c (i*j)) s:=by simp only[binOp];rw[if_pos (.inr ⋯)]
def ZE(h:kindOf v=some a)(b:rK n=some c):blt .i m [v,.t n] s=.e (.e (a.sub c)) s:=by simp only[blt];rw[h,b]
def SK(h:kindOf v=some a):(∃i,v=.c i)\/(∃b,v=.e b)\/(a.sub .b=false/\∀l m,xg l m v=false):=by
 cases v with
 |c i=>exact .inl ⟨i,rfl⟩
 |e b=>exact .inr (.inl ⟨b,rfl⟩)
 |_=>cases h<;>exact .inr (.inr ⟨rfl,λ_ _=>rfl⟩)
def Wj(h:kindOf v≠none):∃a,kindOf v=some a:=Option.ne_none_iff_exists'.mp h
def bK(n:kindOf v≠none):run T Φ F.tH [v,.c l,.c m] s=.e (.e (xg l m v)) s:=by
 obtain⟨a,h⟩:=Wj n;have g:=ZE (m:=false) (s:=s) h (show rK "int"=some .b from rfl);have j:=ZE (m:=false) (s:=s) h (show rK "bool"=some .i from rfl);have f:∀{b:Bool},b=xg l m v->(zh false s (.e b) s).post λx t=>x=.e (xg l m v)/\t=s:=λ{b} e=>by rw[zq yg,e];exact zC.mpr ⟨rfl,rfl⟩
 rw[post_eq,F.tH,yF];refine⟨rfl,?_⟩;show (zU Φ T.b [some v,some (.c l),some (.c m)] _ s).post _;rcases SK h with⟨i,rfl⟩|⟨b,rfl⟩|⟨q,p⟩
 . cases h
   have o:evE Φ T.b [some (.c i),some (.c l),some (.c m)] (.s .c .c (.e 1) (.e 0) (.e 2)) s=.e (.e (xg l m (.c i))) s:=by
    refine bnd (zB rfl) (bnd (zB rfl) (bnd le_int ?_));show (match Val.e (decide (l<=i)) with
     |.e true=>(evE Φ T.b [some (.c i),some (.c l),some (.c m)] (.e 2) s).bind λz k=>zO .c (.c i) z k
     |.e false=>.e (.e false) s
     |_=>.d)=Out.e (.e (decide (l<=i)&&decide (i<=m))) s
    cases decide (l<=i) with
    |true=>exact bnd (zB rfl) le_int
    |false=>rfl
   exact yB (gX (yt (zA (zB rfl) (zA gf zD)) g) (Ui (yt (zA (zB rfl) (zA gf zD)) j)) o) (f rfl)
 . cases h
   exact yB (R1 (yt (zA (zB rfl) (zA gf zD)) g) (Ui (yt (zA (zB rfl) (zA gf zD)) j))) (f rfl)
 . rw[q]at g
   exact yB (R0 (yt (zA (zB rfl) (zA gf zD)) g)) (f (p _ _).symm)
def gG(c:jt Φ)(i:∀v∈vs,kindOf v≠none):run T Φ F.vU [.f vs,.c l,.c m] s=.e (.e (vs.all (xg l m))) s:=by
 rw[post_eq,F.vU,yF];refine⟨rfl,?_⟩;show (zU Φ T.b [some (.f vs),some (.c l),some (.c m)] _ s).post _;have j:∀N,evE Φ T.b [some (.f vs),some (.c l),some (.c m)] (.q false N [none,some 1,some 2] (.g "is_whole" 0 (.a (.e 0) (.a (.e 1) (.a (.e 2) .b)))) (.a 0) (.d (.e 0)) .a) s=.e (.g (vs.map λv=>.e (xg l m v))) s:=λN=>by
  rw[Dk];refine ur (xs:=vs) (f:=λv=>v) (λe=>∃o,e=[o,some (.c l),some (.c m)]) (yV (zB rfl) (by rw[List.map_id'];rfl)) ⟨none,rfl⟩ ?_
  rintro v h e ⟨o,rfl⟩;exact⟨_,rfl,⟨_,rfl⟩,true,rfl,(if_pos rfl).mpr ⟨_,x_call (zA (zB rfl) (zA (zB rfl) (zA (zB rfl) zD))) (c v l m s (i v h)),rfl⟩⟩
 refine yB (yt (zA (j _) zD) (by simp[EVl,ze,zL,blt,z0,rY])) (zw yg)
def oU(c:jt Φ)(b:l<=i)(a:i<=m):run T Φ F.vb [.c i,.c l,.c m] s=.e .h s:=by rw[post_eq];simp[F.vb,EVl,ze,zL,c (.c i) l m s (by simp[kindOf]),nk b a]
def Yt{n i z:Nat}(f:i<n)(b:2<=z)(h:z<=8):run T Φ F.v5 [.c n,.c i,.c z] s=.e (.c ((n-1-i)/(z-1):Nat)) s:=by
 rw[post_eq];have g:(0:Int)<(z:Int)-1/\(z:Int)-1<1073741824:=by omega
 have a:((n:Int)-1-(i:Int))/((z:Int)-1)=(((n-1-i)/(z-1):Nat):Int):=by rw[Hz];congr 1<;>omega
 simp[F.v5,EVl,ze,zL,binOp];refine⟨⋯,?_⟩
 rw[a];simp
def fw(h:x∈yP lo n):∃k:Nat,k<n/\x=.c (lo+k):=by unfold yP at h;obtain⟨k,a,rfl⟩:=AE.mp h;exact⟨k,Ah.mp a,rfl⟩
def YK ns lo st n:L2.zl (ns.map Val.c) lo st n=(L2.zl ns lo st n).map Val.c:=by unfold L2.zl;rw[List.map_filterMap];congr 1;funext k;simp[An]
def mN a b:Cb (.int a) (.int b)=decide (a=b):=by by_cases h:a=b<;>simp[Cb,h]
def eq_int:zO .d (.c a) (.c b) s=.e (.e (decide (a=b))) s:=by simp[zO,zy,yh,qm,Val.isD,Val.d,Dw,mN]
def ne_int:zO .b (.c a) (.c b) s=.e (.e !(decide (a=b))) s:=by simp[zO,zy,yh,qm,Val.isD,Val.d,Dw,mN]
def ZI{k:Nat}(h:vs[k]?=some v):vt (.f vs) (.c k) s=.e v s:=by simp[vt,xB,L2.qC h]
def pF{n:List Int}{k:Nat}(h:n[k]?=some i):vt (.f (n.map .c)) (.c k) s=.e (.c i) s:=ZI (by rw[An,h];rfl)
def dI(n:List Int):(n.map Val.c).all flat=true:=by rw[List.all_map];simp[flat]
def iD(n:List Int)y:(n.map Val.c).countP (λz=>eqF z (.c y))=n.count y:=by rw[List.countP_map];rfl
section
variable {T:Tbl}{Φ:Calls}{s:Sto}
def Ul(Φ:Calls):Prop:=∀(ns:List Int) (f d z:Nat) (s:Sto),0<d->1<=z->f+d*(z-1)<ns.length->z<=zP->Φ "is_one_hue" 0 [.f (ns.map .c),.c f,.c d,.c z] s=.e (.e (tX ns f d z)) s
def Vc{f d z:Nat}(u:0<d)(t:1<=z)(h:f+d*(z-1)<ns.length)(l:z<=zP):run T Φ F.vW [.f (ns.map .c),.c f,.c d,.c z] s=.e (.e (tX ns f d z)) s:=by
 have r:f<ns.length:=by have:0<=d*(z-1):=AV _;omega
 have B:=fE u t h;have p:(d:Int)≠0:=by omega
 rw[post_eq];have v:-(2 ^ 64)<(z:Int)/\(z:Int)<2 ^ 64:=by unfold zP at l;omega
 have j:binOp false .b (.c d) (.c z) s=.e (.c ((d:Int)*z)) s:=by simp only[binOp];rw[if_pos (.inr v)]
 have m:vt (.f (ns.map .c)) (.c f) s=.e (.c (ns.getD f 0)) s:=pF (by rw[dS r,Aa,dS r];rfl)
 have n:binOp false .a (.c f) (.c ((d:Int)*z)) s=.e (.c ((f:Int)+(d:Int)*z)) s:=by simp only[binOp]
 have i:wu false (.f (ns.map .c)) (some (f:Int)) (some ((f:Int)+(d:Int)*z)) (some (d:Int)) s=.e (.f (((Ag z).map λk=>ns.getD (f+k*d) 0).map .c)) s:=by simp only[wu,Ac];rw[B,if_pos ⟨p,l⟩];simp only[YK,jD h]
 have g:decide ((((Ag z).map λk=>ns.getD (f+k*d) 0).count (ns.getD f 0):Int)=(z:Int))=tX ns f d z:=by
  rw[BN,W0 h,decide_eq_true_iff];have l:((Ag z).map λk=>ns.getD (f+k*d) 0).length=z:=by rw[Ac,AQ]
  constructor
  . intro e x o
    exact(EN.mp (by rw[l];exact Int.ofNat.inj e) x o).symm
  . intro e
    rw[EN.mpr λx o=>(e x o).symm,l]
 generalize hy:ns.getD f 0=y at m g;generalize hxs:(Ag z).map (λk=>ns.getD (f+k*d) 0)=xs at i g;have q:yT .b (.f (xs.map .c)) [.c y] s=.e (.c (xs.count y)) s:=by have A:=dI xs;have w:=iD xs y;simp only[yT,xB];rw[A,w];rfl
 rw[F.vW,yF];refine⟨rfl,?_⟩;show (zU Φ T.b [some (.f (ns.map .c)),some (.c f),some (.c d),some (.c z)] _ s).post _;refine yB (z8 (bnd (gc (zB rfl) (u4 (zB rfl)) (u4 (ye (zB rfl) (ye (zB rfl) (zB rfl) j) n)) (u4 (zB rfl)) i) (bnd (zA (vv (zB rfl) (zB rfl) m) zD) q)) (zB rfl) eq_int) ?_;rw[g];exact zw yg
end
def nF{n:List Int}:∀v∈n.map Val.c,kindOf v≠none:=λv h=>by obtain⟨i,_,rfl⟩:=AE.mp h;simp[kindOf]
def qZ{n:List Int}(h:∀x∈n,l<=x/\x<=m):(n.map Val.c).all (xg l m)=true:=by rw[AZ];intro v b;obtain⟨i,a,rfl⟩:=AE.mp b;exact nk (h i a).1 (h i a).2
noncomputable abbrev tpI(n:List Int):Val:=.f (n.map .c)
section
variable {T:Tbl}{Φ:Calls}{s:Sto}
def oe(Φ:Calls):Prop:=∀(z:List Int) (s:Sto),Sz z->Φ "are_sizes" 0 [tpI z] s=.e (.e true) s
def u6(Φ:Calls):Prop:=∀(z:List Int) (s:Sto),Sz z->Φ "need_sizes" 0 [tpI z] s=.e .h s
def oR(c:oe Φ)(h:Sz zs):run T Φ F.vY [tpI zs] s=.e .h s:=by rw[post_eq];simp[F.vY,EVl,ze,zL,c zs s h]
def n9(h:a.length+b.length<=zP):binOp m .a (.f a) (.f b) s=.e (.f (a++b)) s:=by simp only[binOp];rw[if_pos h]
end
def fU{b c:Type}f(g:b->c)(a:List b):a.flatMap (λx=>if f x then [g x] else [])=(a.filter f).map g:=by
 induction a with
 |nil=>rfl
 |cons x a i=>
  rw[Cc,i];cases h:f x<;>simp[h]
section
variable {T:Tbl}{Φ:Calls}{s:Sto}
noncomputable def yE(h:List Nat):Val:=.f (h.map λ(k:Nat)=>Val.c k)
def uQ(h:List Nat):zk (h.map λ(k:Nat)=>Val.c k)=true:=by have:=yA (h.map λ(k:Nat)=>(k:Int));rw[A7]at this;exact this
def b9{n:List Int}(h:n[p]?=some i):p<n.length:=(Ar.mp h).1
end
noncomputable def pZ(a b:Int):Cel:=.c [.c a,.c b]
def t4(s:Sto)(p:Nat):Prop:=∃a b,s[p]?=some (pZ a b)/\0<=b/\b<2147483629
def uz(s:Sto)(p:Nat)(c:Sto):Prop:=∃a b,c=s.set p (pZ a b)/\0<=b/\b<2147483629
def t4.lt(h:t4 s p):p<s.length:=by obtain⟨a,b,h,_⟩:=h;exact(Ar.mp h).1
def uz.at_(h:uz s p s')(c:p<s.length):t4 s' p:=by obtain⟨a,b,rfl,f⟩:=h;exact⟨a,b,B1 c,f⟩
def dj(h:uz s p s')(c:v.noRef=true):zh false s v (s'++t)=.e v s':=by obtain⟨a,b,rfl,_⟩:=h;exact iR c rfl
def pI(h:uz s p s')(a:v.noRef=true):zh false s v s'=.e v s':=by
 have:=dj (t:=[]) h a
 rwa [A5]at this
def bmod(h:0<j):binOp m .f (.c i) (.c j) s=.e (.c (i%j)) s:=by simp only[binOp];rw[if_pos h]
def bdiv(h:0<j/\j<1073741824):binOp m .d (.c i) (.c j) s=.e (.c (i/j)) s:=by simp only[binOp];rw[if_pos h]
def iL{k:Nat}(h:vs[k]?=some v):vt (.g vs) (.c k) s=.e v s:=by simp[vt,xB,L2.qC h]
def Ta{i k:Nat}(a:s[i]?=some (.c vs))(h:vs[k]?=some v):vt (.j i) (.c k) s=.e v s:=by simp[vt,xB,a,L2.qC h]
section
variable {T:Tbl}{Φ:Calls}{s:Sto}
def V0(Φ:Calls):Prop:=∀(ns:List Int) (k:Nat) (s:Sto),∃c,Φ "_law_cell_at" 0 [.r ns,.c k] s=.e (.c c) s
def R7(Φ:Calls):Prop:=∀(c:Int) (s:Sto),∃a b,Φ "_law_pen" 1 [.c c] s=.e (.j s.length) (s++[pZ a b])/\0<=b/\b<2147483629
def bj(Φ:Calls):Prop:=∀(p:Nat) (m:Int) (s:Sto),t4 s p->0<m->m<1000000->(Φ "_law_draw" 0 [.j p,.c m] s).post λv a=>∃r:Nat,v=.c r/\(r:Int)<m/\uz s p a
def Yh ns(k:Nat):∃c,run T Φ F.ya [.r ns,.c k] s=.e (.c c) s:=by
 by_cases h:k<ns.length
 . refine⟨ns[k],?_⟩
   rw[post_eq];have a:(k:Int)<ns.length:=by omega
   have e:(ns.map Val.c)[k]?=some (.c ns[k]):=by rw[An,dS h];rfl
   have b:vt (.r ns) (.c k) s=.e (.c ns[k]) s:=by simp[vt,xB,L2.qC e]
   simp[F.ya,EVl,ze,zL,Ze,lt_int,a,h,b]
 . refine⟨0,?_⟩
   rw[post_eq];have a:¬(k:Int)<ns.length:=by omega
   simp[F.ya,EVl,ze,zL,Ze,lt_int,a,h]
def Vd c:∃a b,run T Φ F.yu [.c c] s=.e (.j s.length) (s++[pZ a b])/\0<=b/\b<2147483629:=by
 have k:(run T Φ F.yu [.c c] s).post λv l=>∃a b,v=.j s.length/\l=s++[pZ a b]/\0<=b/\b<2147483629:=by
  have p:∀(i:Int) (b:Bool),binOp false .b (.c i) (.c (if b then 1 else 0)) s=.e (.c (i*(if b then 1 else 0))) s:=λi b=>g9 (by cases b<;>simp)
  have o:∀i:Int,binOp false .f (.c i) (.c 2147483629) s=.e (.c (i%2147483629)) s:=λi=>by simp[binOp]
  have n:binOp false .g (.c 10) (.c 18) s=.e (.c (10 ^ 18)) s:=by simp[binOp]
  simp[F.yu,EVl,ze,zL,aB,blt];simp[EVl,ze,zL,p,o,n,ge_int,blt,zP,newList,pZ];rw[g9 (by split<;>omega)]
  simp only[zC];rw[bmod ⋯]
  simp only[zC];exact⟨trivial,_,_,⟨trivial,rfl,rfl⟩,HW _ ⋯,GN _ ⋯⟩
 obtain⟨v,l,h,a,b,rfl,rfl,m⟩:=k;exact⟨a,b,h,m⟩
def Yi(w:t4 s p)(z:0<m)(H:m<1000000):(run T Φ F.vw [.j p,.c m] s).post λv d=>∃r:Nat,v=.c r/\(r:Int)<m/\uz s p d:=by
 have q:=w.lt;obtain⟨a,b,n,C,y⟩:=w;have l:∀{s:Sto} {a b:Int} {k:Nat} {v:Val},s[p]?=some (pZ a b)->[Val.c a,.c b][k]?=some v->vt (.j p) (.c k) s=.e v s:=λh D=>Ta h D;have g:∀{x:Int} {d:Sto},uz s p d->(zh false s (.c (x%m)) d).post λv d=>∃r:Nat,v=.c r/\(r:Int)<m/\uz s p d:=λ{x d} t=>by
  rw[pI t ie];have G:=HW x (show m≠0 by omega)
  have E:=GN x z;exact zC.mpr ⟨(x%m).toNat,by congr 1;omega,⋯,t⟩
 rw[F.vw,yF];refine⟨rfl,?_⟩;show (zU Φ T.b [some (.j p),some (.c m),none,none,none] _ s).post _;have o:evT Φ T.b [some (.j p),some (.c m),none,none,none] (.a (.k .k (.u (.e 0) (.h (.c 0))) (.h (.c 0)))) s=.e (decide (0<a)) s:=zi (z8 (vv (zB rfl) zb (l (k:=0) n rfl)) zb gt_int) zR;cases hd:decide (0<a) with
 |true=>
  rw[hd]at o;refine eL o (RU (env':=[some (.j p),some (.c m),some (.c (a/m)),some (.c (a%m)),none]) (yt (zA (vv (zB rfl) zb (l (k:=0) n rfl)) (zA (zB rfl) zD)) (show blt .c false [.c a,.c m] s=.e (.f [.c (a/m),.c (a%m)]) s by simp only[blt];rw[if_pos ⟨z,⋯⟩])) rfl ?_)
  exact eM (j:=0) (zB rfl) (zB rfl) zb n rfl (yB (zB rfl) (g ⟨a/m,b,rfl,C,y⟩))
 |false=>
  rw[hd]at o;refine ym o ?_;refine eM (j:=1) (ye (ye (ye (vv (zB rfl) zb (l (k:=1) n rfl)) zb (g9 ⋯)) zb ee) zb (bmod ⋯)) (zB rfl) zb n rfl ?_
  generalize hx:(b*48271+30269)%2147483629=x;have B:0<=x:=by rw[<-hx];exact HW _ ⋯
  have A:x<2147483629:=by rw[<-hx];exact GN _ ⋯
  have i:(s.set p (pZ a x))[p]?=some (pZ a x):=B1 q;show (zU Φ T.b [some (.j p),some (.c m),none,none,none] _ (s.set p (pZ a x))).post _;refine yd (ye (ye (ye (ye (vv (zB rfl) zb (l (k:=1) i rfl)) (vv (zB rfl) zb (l (k:=1) i rfl)) (show binOp false .b (.c x) (.c x) _=_ by simp only[binOp];rw[if_pos (.inl ⋯)])) (ye zb (vv (zB rfl) zb (l (k:=1) i rfl)) (UA ⋯)) ee) zb ee) zb (bmod ⋯)) ?_
  exact yB (ye (ye (zB rfl) zb (bdiv ⟨⋯,⋯⟩)) (zB rfl) (bmod z)) (g ⟨a,x,rfl,B,A⟩)
end
def Xl(h:vs.length<zP):yT .a (.j s.length) [y] (s++[.c vs])=.e .h (s++[.c (vs++[y])]):=by simp[yT,h,upd]
def VX lo n:(yP lo n).length=n:=by unfold yP;rw[Ac,AQ]
def Ye lo k:yP lo (k+1)=.c lo::yP (lo+1) k:=by
 unfold yP;rw[Fx,AG,A7];congr 1
 . simp
 . refine BG λj _=>?_
   show Val.c (lo+((j+1:Nat):Int))=Val.c (lo+1+(j:Int));congr 1;omega
def bA(h:x::rest=yP lo k):∃d,k=d+1/\x=.c lo/\rest=yP (lo+1) d:=by
 cases k with
 |zero=>simp[yP]at h
 |succ k=>
  rw[Ye]at h;injection h with h1 h2
  exact⟨k,rfl,h1,h2⟩
def VY(h:[]=yP lo k):k=0:=by have:=congrArg Fw h;rw[VX]at this;exact this.symm
theorem vE:∀d:List Int,ux (d.map .c)=true
 |[]=>by rw[Er,ux]
 |k::d=>by rw[AG,ux,vE d,Val.isD];rfl
def wH(h:env[i]?=some (some (tpI ns))):evE Φ G env (.j .a m (.a (.e i) .b)) s=.e (.c (ns.length:Nat)) s:=yt (zA (zB h) zD) (by rw[UQ,Ac])
theorem qD:∀e:List Int,ds (e.map .c)=e.map EO
 |[]=>by rw[Er,ds];rfl
 |k::e=>by rw[AG,ds,qD e,Val.d];rfl
def qI hs:yE hs=tpI (hs.map λ(k:Nat)=>(k:Int)):=by unfold yE tpI;rw[A7];rfl
theorem kZ:∀{n} {vs} {x},x∈yZ n vs->∃k v,vs[k]?=some v/\x=.f [.c ((n+k:Nat):Int),v]
 |_,[],_,h=>by cases h
 |n,v::vs,x,h=>by
  rw[yZ]at h;rcases Ao.mp h with e|h
  . exact⟨0,v,rfl,e⟩
  . obtain⟨k,w,u,d⟩:=kZ h
    refine⟨k+1,w,by simpa using u,?_⟩
    rw[d];congr 3;omega
def max2:blt .h m [.c i,.c j] s=.e (.c (if j > i then j else i)) s:=rfl
def min2:blt .j m [.c i,.c j] s=.e (.c (if j<i then j else i)) s:=rfl
def ah{K:Nat}(g:env[0]?=some (some (.r ns)))(i:K<=100) :
 zx Φ G env (.f (.j .h false (.a (.h (.c 1)) (.a (.j .j false (.a (.j .a false (.a (.e 0) .b)) (.a (.h (.c K)) .b))) .b)))) s=.e ⟨yP 0 (max 1 (min ns.length K)),none⟩ s:=by
 rw[post_eq];simp only[EVl,ze,zL];refine⟨_,g,?_⟩;rw[Ze];simp only[zC];rw[min2];simp only[zC];rw[max2];simp only[zC];have e:(if (if (K:Int)<(ns.length:Int) then (K:Int) else (ns.length:Int)) > 1 then (if (K:Int)<(ns.length:Int) then (K:Int) else (ns.length:Int)) else 1)=((max 1 (min ns.length K):Nat):Int):=by split<;>split<;>omega
 rw[e];refine⟨_,rfl,⟨⋯,by unfold zP;omega⟩,?_⟩
 simp
def WQ hs:(yE hs).isD=true:=by rw[qI,Val.isD];exact vE _
def X4:zO .d (yE hs) (.f []) s=.e (.e hs.isEmpty) s:=by
 have h:zy s (yE hs)=yE hs:=by show Val.f ((hs.map λ(k:Nat)=>Val.c k).map (yh s))=_;rw[A7];rfl
 have j:zy s (.f [])=.f []:=rfl;have l:=WQ hs;have g:(Val.f []).isD=true:=by rw[Val.isD,ux]
 have i:Cb (yE hs).d (Val.f []).d=hs.isEmpty:=by
  have n:(Val.f []).d=.tuple []:=by rw[Val.d,ds]
  have m:(yE hs).d=.tuple ((hs.map λ(k:Nat)=>(k:Int)).map EO):=by rw[qI,Val.d,qD]
  rw[n,m];cases hs<;>rfl
 have a:(Val.f []).d.depth<=60:=by rw[Val.d,ds];simp[Dw,CH]
 show (match qm (zy s (yE hs)) (zy s (.f [])) with|some b=>Out.e (Val.e b) s|pn=>.d)=_
 rw[h,j];unfold qm;rw[l,g,decide_eq_true a,i];rfl
end M
end
section
namespace M
open L2
noncomputable def lW(n:List Int)(f d z:Nat)(h:Int):Bool:=(Ag z).all λk=>decide (n[f+k*d]?=some h)
def yj:lW ns f d z h=true↔∀k<z,ns[f+k*d]?=some h:=by unfold lW;rw[AZ];exact⟨λH k a=>of_decide_eq_true (H k (Ah.mpr a)),λH k a=>decide_eq_true (H k (Ah.mp a))⟩
noncomputable def xZ(n:List Int)(z:Nat)(h:Int):Bool:=(Ag (n.length/(z-1))).any λj=>(Ag (z-1)).all λk=>decide (n[n.length-(k+1)*(j+1)]?=some h)
def fP(g:2<=z):xZ ns z h=true↔∃d,0<d/\(z-1)*d<=ns.length/\∀k,1<=k->k<z->ns[ns.length-k*d]?=some h:=by
 unfold xZ;rw[CP];constructor
 . rintro ⟨j,a,H⟩
   rw[Ah,EA,EB ⋯,BR]at a
   rw[AZ]at H;refine⟨j+1,⋯,a,λk f b=>?_⟩
   have:=of_decide_eq_true (H (k-1) (Ah.mpr ⋯))
   rwa [show k-1+1=k by omega]at this
 . rintro ⟨d,f,b,H⟩
   refine⟨d-1,?_,?_⟩
   . rw[Ah,EA,EB ⋯,show d-1+1=d by omega,BR];exact b
   . rw[AZ]
     intro k c;rw[Ah]at c;rw[show d-1+1=d by omega]
     exact decide_eq_true (H (k+1) ⋯ ⋯)
def lT(z n:List Int):Prop:=∀h f d,h<z.length->0<d->f+d*(za z h-1)<n.length->lW n f d (za z h) h≠true
structure Fit(zs ns:List Int):Prop where
 b:∀x∈ns,0<=x/\x<zs.length
 c:lT zs ns
def pq{h:Int}(a:i<ns.length):(ns++[h])[i]?=ns[i]?:=A0 a
def Wo{g:Nat}(o:lT zs ns)(m:h<zs.length)(n:0<d)(i:f+d*(za zs h-1)<(ns++[(g:Int)]).length)(p:2<=za zs h)(c:lW (ns++[(g:Int)]) f d (za zs h) h=true) :
 f+d*(za zs h-1)=ns.length/\h=g:=by
 rw[Aw,BF]at i;rw[yj]at c;have a:f+d*(za zs h-1)=ns.length:=by
  apply F9 ⋯
  refine Nat.not_lt.mp λb=>o h f d m n b ?_;rw[yj];intro k l;have j:k*d<=(za zs h-1)*d:=ES _ ⋯
  have e:=BR d (za zs h-1);rw[<-c k l,pq ⋯]
 refine⟨a,?_⟩;have:=c (za zs h-1) ⋯
 rw[BR,a,AW (Ad _),Eu]at this;have:=AL this;omega
def TC{h:Nat}(g:2<=z)(b:0<d)(m:f+d*(z-1)=ns.length)(c:lW (ns++[(h:Int)]) f d z h=true):xZ ns z h=true:=by
 rw[fP g];rw[yj]at c;have e:=BR d (z-1);refine⟨d,b,⋯,λk i n=>?_⟩
 have a:=c (z-1-k) ⋯
 have o:(z-1-k)*d+k*d=(z-1)*d:=by rw[<-H9];congr 1;omega
 have l:1*1<=k*d:=Fh i b;have j:f+(z-1-k)*d=ns.length-k*d:=by omega
 rw[j,pq ⋯]at a
 exact a
def Sf{h:Nat}(c:2<=z)(a:xZ ns z h=true):∃f d,0<d/\f+d*(z-1)=ns.length/\lW (ns++[(h:Int)]) f d z h=true:=by
 rw[fP c]at a;obtain⟨d,b,j,H⟩:=a;have e:=BR d (z-1);refine⟨ns.length-(z-1)*d,d,b,⋯,?_⟩
 rw[yj];intro k l;have m:(z-1-k)*d+k*d=(z-1)*d:=by rw[<-H9];congr 1;omega
 have g:ns.length-(z-1)*d+k*d=ns.length-(z-1-k)*d:=by omega
 rw[g];by_cases hc:k=z-1
 . subst hc
   rw[Eu,Nat.zero_mul,F3,AW (Ad _),Eu];rfl
 . have i:1*1<=(z-1-k)*d:=Fh ⋯ b
   rw[pq ⋯]
   exact H (z-1-k) ⋯ ⋯
def nD(c:Sz zs)(l:lT zs ns)(g:h0<zs.length):lT zs (ns++[(h0:Int)])↔xZ ns (za zs h0) h0=false:=by
 have z:=(uS c g).2.1;constructor
 . intro H
   cases a:xZ ns (za zs h0) h0 with
   |false=>rfl
   |true=>
    obtain⟨f,d,k,o,b⟩:=Sf z a;exact(H h0 f d g k (by rw[Aw,BF];omega) b).elim
 . intro a h f d j i m b
   obtain⟨n,e⟩:=Wo l j i m (uS c j).2.1 b;subst e;rw[TC z i n b]at a;cases a
def Fit.snoc(f:Sz zs)(a:Fit zs ns)(g:h0<zs.length)(i:xZ ns (za zs h0) h0=false):Fit zs (ns++[(h0:Int)]):=by
 refine⟨λx h=>?_,(nD f a.c g).mpr i⟩;rcases AS.mp h with h|h
 . exact a.b x h
 . rw[Al.mp h];omega
def b5(c:1<=z)(g:f+d*(z-1)<ns.length):lW ns.reverse f d z h=lW ns (ns.length-1-(f+d*(z-1))) d z h:=by
 rw[BN,yj,yj];have e:=BR d (z-1);have a:∀k,k<z->ns.reverse[f+k*d]?=ns[ns.length-1-(f+d*(z-1))+(z-1-k)*d]?:=λk b=>by
  have i:(z-1-k)*d+k*d=(z-1)*d:=by rw[<-H9];congr 1;omega
  rw[List.getElem?_reverse ⋯]
  congr 1;omega
 constructor
 . intro H k b
   have:=a (z-1-k) ⋯
   rw[H _ ⋯,show z-1-(z-1-k)=k by omega]at this
   exact this.symm
 . intro H k b
   rw[a k b];exact H _ ⋯
def lT.rev(g:Sz zs)(i:lT zs ns):lT zs ns.reverse:=λh f d c j b a=>by
 rw[Cr]at b;have z:=(uS g c).2.1;rw[b5 ⋯ b]at a
 exact i h _ d c j ⋯ a
theorem Fit.rev(a:Sz zs)(h:Fit zs ns):Fit zs ns.reverse:=⟨λx f=>h.b x (HA.mp f),h.c.rev a⟩
theorem Fit.take(g:Fit zs ns)n:Fit zs (ns.take n):=by
 refine⟨λx i=>g.b x (Bq i),λh f d p o m a=>?_⟩;rw[Bu]at m;refine g.c h f d p o ⋯ ?_
 rw[yj]at a ⊢;intro k l;have j:k*d<=(za zs h-1)*d:=ES _ ⋯
 have e:=BR d (za zs h-1);have:=a k l
 rwa [BP ⋯]at this
def vg zs:Fit zs []:=⟨λx a=>(by cases a),λh f d _ _ b _=>absurd b (C8 _)⟩
end M
end
section
namespace F
open PySem M
noncomputable def yv:Fn:=⟨["sizes","hues","place","hue"],["sizes","hues"],false,(.e (.l (.b [2,3]) (.h (.e 1)) (.e (.j (.a (.k .j (.e 3) (.j .a false (.a (.e 0) .b)))) (.e (.d (.e 2)) .f) .f) .f)) (.e (.d (.h .h)) .f))⟩
noncomputable def yw:Fn:=⟨["sizes","hues","first","hue","step"],["sizes","hues"],false,(.e (.l (.b [2,3]) (.h (.e 1)) (.e (.j (.a (.k .j (.e 3) (.h (.c 0)))) (.e (.l (.a 4) (.g (.h (.c 1)) (.l false .a (.g "most_step" 0 (.a (.j .a false (.a (.e 1) .b)) (.a (.e 2) (.a (.u (.e 0) (.e 3)) .b)))) (.h (.c 1)))) (.e (.j (.a (.g "is_one_hue" 0 (.a (.e 1) (.a (.e 2) (.a (.e 4) (.a (.u (.e 0) (.e 3)) .b)))))) (.e (.d (.p (.a (.e 2) (.a (.e 4) .b)))) .f) .f) .f)) .f) .f) .f)) (.e (.d (.h .h)) .f))⟩
noncomputable def wY:Fn:=⟨["sizes","strip","place","row"],["sizes","strip"],false,(.e (.g (.g "need_sizes" 0 (.a (.e 0) .b))) (.e (.g (.g "need_strip" 0 (.a (.e 1) .b))) (.e (.f 2 (.g "first_hue_wrong" 0 (.a (.e 0) (.a (.e 1) .b)))) (.e (.j (.a (.k .e (.e 2) (.h .h))) (.e (.d (.p (.a (.h (.m "hue")) (.a (.e 2) .b)))) .f) .f) (.e (.f 3 (.g "first_row_wrong" 0 (.a (.e 0) (.a (.e 1) .b)))) (.e (.d (.H (.a (.k .m (.e 3) (.h .h))) (.h .h) (.p (.a (.h (.m "row")) (.a (.u (.e 3) (.h (.c 0))) (.a (.u (.e 3) (.h (.c 1))) .b)))))) .f))))))⟩
noncomputable def jv:Fn:=⟨["sizes","strip"],["sizes","strip"],false,(.e (.d (.k .m (.g "first_wrong" 0 (.a (.e 0) (.a (.e 1) .b))) (.h .h))) .f)⟩
noncomputable def v3:Fn:=⟨["sizes","strip"],["sizes","strip"],false,(.e (.j (.a (.k .d (.j .a false (.a (.e 1) .b)) (.E "MOST_PLACES"))) (.e (.d (.p .b)) .f) .f) (.e (.d (.j .d false (.a (.q false ["hue","sizes","strip"] [none,some 0,some 1] (.e 0) (.a 0) (.f (.j .a false (.a (.e 0) .b))) (.b (.a (.g "may_follow" 0 (.a (.e 1) (.a (.e 2) (.a (.e 0) .b))))) .a)) .b))) .f))⟩
noncomputable def vV:Fn:=⟨["sizes","strip"],["sizes","strip"],false,(.e (.g (.g "need_fit" 0 (.a (.e 0) (.a (.e 1) .b)))) (.e (.d (.g "leaders" 0 (.a (.e 0) (.a (.e 1) .b)))) .f))⟩
noncomputable def wZ:Fn:=⟨["sizes","strip"],["sizes","strip"],false,(.e (.g (.g "need_fit" 0 (.a (.e 0) (.a (.e 1) .b)))) (.e (.d (.g "followers" 0 (.a (.e 0) (.a (.e 1) .b)))) .f))⟩
noncomputable def tG:Fn:=⟨["thing"],["thing"],false,(.e (.d (.z (.j .i false (.a (.e 0) (.a (.O "tuple" "tuple") .b))) (.a (.k .c (.j .a false (.a (.e 0) .b)) (.E "MOST_PLACES")) (.a (.g "are_wholes" 0 (.a (.e 0) (.a (.u (.E "HUES") (.h (.c 0))) (.a (.u (.E "HUES") (.C (.h (.c 1)))) .b)))) .b)))) .f)⟩
noncomputable def rA:Fn:=⟨["sizes","strip"],["sizes","strip"],false,(.e (.d (.g "followers" 0 (.a (.e 0) (.a (.F false (.e 1) .b .b (.a (.C (.h (.c 1))))) .b)))) .f)⟩
noncomputable def vX:Fn:=⟨["sizes","strip","hue","end","others","step"],["sizes","strip","hue"],false,(.e (.f 3 (.j .a false (.a (.e 1) .b))) (.e (.f 4 (.l false .c (.u (.e 0) (.e 2)) (.h (.c 1)))) (.e (.l (.a 5) (.g (.h (.c 1)) (.l false .a (.l false .d (.e 3) (.e 4)) (.h (.c 1)))) (.e (.j (.a (.k .d (.J .b false (.F false (.e 1) (.a (.l false .c (.e 3) (.l false .b (.e 4) (.e 5)))) .b (.a (.e 5))) (.a (.e 2) .b)) (.e 4))) (.e (.d (.h (.e false))) .f) .f) .f)) (.e (.d (.h (.e true))) .f))))⟩
noncomputable def tK:Fn:=⟨["sizes","thing"],["sizes","thing"],false,(.e (.j (.b (.a (.g "fits" 0 (.a (.e 0) (.a (.e 1) .b))))) (.e (.n (.g "NoFit" 0 (.a (.h (.m "a strip that fits the sizes is due")) .b))) .f) .f) .f)⟩
noncomputable def vZ:Fn:=⟨["thing"],["thing"],false,(.e (.j (.b (.a (.g "is_strip" 0 (.a (.e 0) .b)))) (.e (.n (.g "NoStrip" 0 (.a (.h (.m "a strip is due")) .b))) .f) .f) .f)⟩
end F
end
section
namespace M
open PySem
structure Gl4(T:Tbl):Prop where
 mp:T.b "MOST_PLACES"=some (.c 40)
 ls:T.b "LEAST_SIZE"=some (.c 2)
 ms:T.b "MOST_SIZE"=some (.c 8)
 a:T.b "HUES"=some (.o [0,1,2,3])
section
variable {T:Tbl}{Φ:Calls}{s:Sto}
def oQ(g:Gl4 T)(c:ny Φ)(h:Sz zs):run T Φ F.vy [tpI zs] s=.e (.e true) s:=by have f:=c (zs.map .c) 2 8 s nF;rw[qZ h.2.2]at f;have l:=h.1;have i:=h.2.1;rw[post_eq,F.vy,yF];refine⟨rfl,?_⟩;show (zU Φ T.b [some (tpI zs)] _ s).post _;refine yB (gX (yt (zA (zB rfl) (zA gf zD)) fZ) ((XZ (j:=(zs.length:Nat)) (k:=4) zb (wH rfl) (yt (zA (gY g.a) zD) SU)).trans ?_) (x_call (zA (zB rfl) (zA (gY g.ls) (zA (gY g.ms) zD))) f)) (zw yg);rw[decide_eq_true (show (1:Int)<=(zs.length:Nat) by omega),decide_eq_true (show ((zs.length:Nat):Int)<=4 by omega)];rfl
def lR(Φ:Calls):Prop:=∀(z ns:List Int) (s:Sto),Sz z->Fit z ns->ns.length<=40->Φ "is_strip" 0 [tpI ns] s=.e (.e true) s
def jQ(g:Gl4 T)(c:ny Φ)(h:Sz zs)(j:Fit zs ns)(k:ns.length<=40):run T Φ F.tG [tpI ns] s=.e (.e true) s:=by
 have f:=c (ns.map .c) 0 3 s nF;rw[qZ (λx i=>by have:=j.b x i;have:=h.2.1;omega)]at f
 rw[post_eq,F.tG,yF];refine⟨rfl,?_⟩;show (zU Φ T.b [some (tpI ns)] _ s).post _;exact yB (gX (yt (zA (zB rfl) (zA gf zD)) fZ) (z8 (wH rfl) (gY g.mp) (by rw[le_int,decide_eq_true (show ((ns.length:Nat):Int)<=40 by omega)])) (x_call (zA (zB rfl) (zA (vv (gY g.a) zb rfl) (zA (vv (gY g.a) (Xa zb) rfl) zD))) f)) (zw yg)
def u7(Φ:Calls):Prop:=∀(z ns:List Int) (s:Sto),Sz z->Fit z ns->ns.length<=40->Φ "need_strip" 0 [tpI ns] s=.e .h s
def oT(c:lR Φ)(a:Sz zs)(g:Fit zs ns)(f:ns.length<=40):run T Φ F.vZ [tpI ns] s=.e .h s:=by rw[post_eq,F.vZ,yF];refine⟨rfl,?_⟩;show (zU Φ T.b [some (tpI ns)] _ s).post _;exact ym (sk (b:=true) (zi (x_call (zA (zB rfl) zD) (c zs ns s a g f)) zR)) (wU (zw uj))
def V1(Φ:Calls):Prop:=∀(z ns:List Int) (s:Sto),Fit z ns->Φ "first_hue_wrong" 0 [tpI z,tpI ns] s=.e .h s
def nJ{n:List Int}(h:x∈yZ 0 (n.map .c)):∃k i,n[k]?=some i/\x=.f [.c (k:Nat),.c i]:=by obtain⟨k,v,a,rfl⟩:=kZ h;rw[An]at a;obtain⟨j,b,rfl⟩:=AB.mp a;exact⟨k,j,b,by rw[BS]⟩
def Yj(m:Fit zs ns):run T Φ F.yv [tpI zs,tpI ns] s=.e .h s:=by
 rw[post_eq,F.yv,yF];refine⟨rfl,?_⟩;show (zU Φ T.b [some (tpI zs),some (tpI ns),none,none] _ s).post _;refine zV.mpr (wA (λr e a=>a=s/\(∃f o,e=[some (tpI zs),some (tpI ns),f,o])/\∀x∈r,x∈yZ 0 (ns.map .c)) (yZ 0 (ns.map .c)) (s1:=s) (fc (zB rfl)) ⟨rfl,⟨_,_,rfl⟩,λx g=>g⟩ ?_ ?_)
 . rintro x r e a ⟨rfl,⟨f,o,rfl⟩,j⟩
   obtain⟨k,i,l,rfl⟩:=nJ (j x (.head _));have n:=m.b i (AD l);exact⟨_,rfl,ym (zi (z8 (zB rfl) (wH rfl) (by rw[ge_int,decide_eq_false (show ¬((zs.length:Nat):Int)<=i by omega)])) zR) (wU ⟨rfl,⟨_,_,rfl⟩,λx g=>j x (.tail _ g)⟩)⟩
 . rintro e a ⟨rfl,⟨f,o,rfl⟩,_⟩
   exact yB zb (zw uj)
def V2(Φ:Calls):Prop:=∀(z ns:List Int) (s:Sto),Sz z->Fit z ns->ns.length<=40->Φ "first_row_wrong" 0 [tpI z,tpI ns] s=.e .h s
def Sa(i:Fit zs ns){f d h:Nat}(b:ns[f]?=some (h:Int))(g:h<zs.length)(l:0<d)(j:f+d*(za zs h-1)<ns.length):tX ns f d (za zs h)=false:=by
 cases ho:tX ns f d (za zs h) with
 |false=>rfl
 |true=>
  refine(i.c h f d g l j ?_).elim;rw[yj];intro k a;have:=of_decide_eq_true (AZ.mp ho k (Ah.mpr a));rw[this,b]
def bC(B:Ul Φ)(y:Fit zs ns)(E:ns.length<=40){f h K:Nat}(p:ns[f]?=some (h:Int))(v:h<zs.length)(z:zs[h]?=some ((za zs h:Nat):Int))(D:2<=za zs h)(C:za zs h<=8)(A:∀j,j<K->f+(j+1)*(za zs h-1)<ns.length)
 (t:zx Φ T.b [some (tpI zs),some (tpI ns),some (.c (f:Nat)),some (.c (h:Nat)),d] it s=.e ⟨yP ((1:Nat):Int) K,none⟩ s) (w:∀d,P (.a [some (tpI zs),some (tpI ns),some (.c (f:Nat)),some (.c (h:Nat)),d]) s) :
 (zU Φ T.b [some (tpI zs),some (tpI ns),some (.c (f:Nat)),some (.c (h:Nat)),d] (.e (.l (.a 4) it (.e (.j (.a (.g "is_one_hue" 0 (.a (.e 1) (.a (.e 2) (.a (.e 4) (.a (.u (.e 0) (.e 3)) .b)))))) b .f) .f)) .f) s).post P:=by
 refine zV.mpr (wA (λr e i=>i=s/\(∃d,e=[some (tpI zs),some (tpI ns),some (.c (f:Nat)),some (.c (h:Nat)),d])/\∀x∈r,x∈yP ((1:Nat):Int) K) _ (s1:=s) t ⟨rfl,⟨_,rfl⟩,λx k=>k⟩ ?_ ?_)
 . rintro x r e i ⟨rfl,⟨d,rfl⟩,m⟩
   obtain⟨j,q,rfl⟩:=fw (m x (.head _));have n:=A j q;rw[show ((1:Nat):Int)+(j:Int)=((j+1:Nat):Int) by omega]
   have o:=B ns f (j+1) (za zs h) i ⋯ ⋯ n (by unfold zP;omega)
   rw[Sa y p v ⋯ n]at o
   exact⟨_,rfl,ym (zi (x_call (zA (zB rfl) (zA (zB rfl) (zA (zB rfl) (zA (vv (zB rfl) (zB rfl) (pF z)) zD)))) o) zR) (wU ⟨rfl,⟨_,rfl⟩,λx k=>m x (.tail _ k)⟩)⟩
 . rintro e i ⟨rfl,⟨d,rfl⟩,_⟩
   exact wU (w _)
def Yk(B:V7 Φ)(A:Ul Φ)(d:Sz zs)(y:Fit zs ns)(u:ns.length<=40):run T Φ F.yw [tpI zs,tpI ns] s=.e .h s:=by
 rw[post_eq,F.yw,yF];refine⟨rfl,?_⟩;show (zU Φ T.b [some (tpI zs),some (tpI ns),none,none,none] _ s).post _;refine zV.mpr (wA (λr e a=>a=s/\(∃k g o,e=[some (tpI zs),some (tpI ns),k,g,o])/\∀x∈r,x∈yZ 0 (ns.map .c)) (yZ 0 (ns.map .c)) (s1:=s) (fc (zB rfl)) ⟨rfl,⟨_,_,_,rfl⟩,λx l=>l⟩ ?_ ?_)
 . rintro x r e a ⟨rfl,⟨k,g,o,rfl⟩,t⟩
   obtain⟨f,i,m,rfl⟩:=nJ (t x (.head _));have D:=y.b i (AD m);obtain⟨h,rfl⟩:∃h:Nat,i=h:=⟨i.toNat,⋯⟩
   have v:h<zs.length:=by omega
   obtain⟨q,p,z⟩:=uS d v;have n:=b9 m;have C:=B ns.length f (za zs h) a n p z;refine⟨_,rfl,eL (zi (z8 (zB rfl) zb (by rw[ge_int,decide_eq_true (show (0:Int)<=(h:Nat) by omega)])) zR) (bC A y u (K:=(ns.length-1-f)/(za zs h-1)) m v q p z (λj w=>?_) ((UN (i:=1) (j:=(ns.length-1-f)/(za zs h-1)+1) zb ((ye (x_call (zA (wH rfl) (zA (zB rfl) (zA (vv (zB rfl) (zB rfl) (pF q)) zD))) C) zb ee).trans rfl) (by decide) ?_).trans ?_) λo=>wU ⟨rfl,⟨_,_,_,rfl⟩,λx l=>t x (.tail _ l)⟩)⟩
   . rw[EA,EB ⋯]at w
     omega
   . have:=Nat.div_le_self (ns.length-1-f) (za zs h-1)
     omega
   . rw[Nat.add_sub_cancel]
 . rintro e a ⟨rfl,⟨k,g,o,rfl⟩,_⟩
   exact yB zb (zw uj)
def gi(Φ:Calls):Prop:=∀(z ns:List Int) (s:Sto),Sz z->Fit z ns->ns.length<=40->Φ "fits" 0 [tpI z,tpI ns] s=.e (.e true) s
def gh(Φ:Calls):Prop:=∀(z ns:List Int) (s:Sto),Sz z->Fit z ns->ns.length<=40->Φ "first_wrong" 0 [tpI z,tpI ns] s=.e .h s
def xt(Φ:Calls):Prop:=∀(z ns:List Int) (s:Sto),Sz z->Fit z ns->ns.length<=40->Φ "need_fit" 0 [tpI z,tpI ns] s=.e .h s
def gB(k:u6 Φ)(j:u7 Φ)(i:V1 Φ)(g:V2 Φ)(a:Sz zs)(c:Fit zs ns)(f:ns.length<=40):run T Φ F.wY [tpI zs,tpI ns] s=.e .h s:=by rw[post_eq,F.wY,yF];refine⟨rfl,?_⟩;show (zU Φ T.b [some (tpI zs),some (tpI ns),none,none] _ s).post _;exact xp (x_call (zA (zB rfl) zD) (k zs s a)) (xp (x_call (zA (zB rfl) zD) (j zs ns s a c f)) (yd (x_call (zA (zB rfl) (zA (zB rfl) zD)) (i zs ns s c)) (ym (zi (z8 (zB rfl) zb rfl) zR) (yd (x_call (zA (zB rfl) (zA (zB rfl) zD)) (g zs ns s a c f)) (yB (R3 (zi (z8 (zB rfl) zb rfl) zR) zb) (zw uj))))))
def Yl(c:gh Φ)(h:Sz zs)(f:Fit zs ns)(a:ns.length<=40):run T Φ F.jv [tpI zs,tpI ns] s=.e (.e true) s:=by rw[post_eq,F.jv,yF];refine⟨rfl,?_⟩;show (zU Φ T.b [some (tpI zs),some (tpI ns)] _ s).post _;exact yB (z8 (x_call (zA (zB rfl) (zA (zB rfl) zD)) (c zs ns s h f a)) zb rfl) (zw yg)
def jT(c:gi Φ)(a:Sz zs)(g:Fit zs ns)(f:ns.length<=40):run T Φ F.tK [tpI zs,tpI ns] s=.e .h s:=by rw[post_eq,F.tK,yF];refine⟨rfl,?_⟩;show (zU Φ T.b [some (tpI zs),some (tpI ns)] _ s).post _;exact ym (sk (b:=true) (zi (x_call (zA (zB rfl) (zA (zB rfl) zD)) (c zs ns s a g f)) zR)) (wU (zw uj))
end
def Xu{n f d s:Nat}(b:0<d)(a:1<=s)(h:f+d*s=n):L2.yI n (some (f:Int)) none (d:Int)=((f:Int),s):=by
 have i:d*s=d*(s-1)+d:=by rw[<-Nat.mul_succ];congr 1;omega
 have e:=fE (n:=n) (f:=f) b a ⋯
 have c:Bg (some (f:Int)) none (d:Int) (n:Int)=Bg (some (f:Int)) (some ((f:Int)+(d:Int)*(s:Int))) (d:Int) (n:Int):=by
  have g:(f:Int)+(d:Int)*(s:Int)=(n:Int):=by rw[<-h,Int.natCast_add,Gd]
  rw[g];unfold Bg;simp only[if_neg (show ¬(d:Int)<0 by omega),if_neg (show ¬(f:Int)<0 by omega),if_neg (show ¬(n:Int)<0 by omega)]
  refine E7 rfl ?_;show (n:Int)=min (n:Int) (n:Int);omega
 unfold L2.yI at e ⊢;rw[c];exact e
noncomputable def tB(n:List Int)(z:Nat)(h:Int)(j:Nat):Bool:=(Ag (z-1)).all λk=>decide (n[n.length-(k+1)*(j+1)]?=some h)
def dE(m:2<=z)(o:(z-1)*(j+1)<=ns.length):decide ((((Ag (z-1)).map λk=>ns.getD (ns.length-(z-1)*(j+1)+k*(j+1)) 0).count h:Int)=((z-1:Nat):Int))=tB ns z h j:=by
 have g:((Ag (z-1)).map λk=>ns.getD (ns.length-(z-1)*(j+1)+k*(j+1)) 0).length=z-1:=by rw[Ac,AQ]
 have b:∀k,k<z-1->ns.length-(z-1)*(j+1)+k*(j+1)=ns.length-((z-2-k)+1)*(j+1)/\ns.length-((z-2-k)+1)*(j+1)<ns.length:=λk a=>by
  have c:((z-2-k)+1)*(j+1)+k*(j+1)=(z-1)*(j+1):=by rw[<-H9];congr 1;omega
  have n:1*1<=((z-2-k)+1)*(j+1):=Fh ⋯ ⋯
  omega
 rw[BN,decide_eq_true_iff];unfold tB;rw[AZ];constructor
 . intro e k a
   have a:=Ah.mp a;have l:=EN.mp (by rw[g];exact Int.ofNat.inj e)
   obtain⟨f,c⟩:=b (z-2-k) ⋯
   rw[show z-2-(z-2-k)=k by omega]at f c
   have:=l _ (AE.mpr ⟨z-2-k,Ah.mpr ⋯,rfl⟩)
   rw[f,Aa,dS c]at this;rw[decide_eq_true_iff,dS c];exact congrArg some this.symm
 . intro H
   have:((Ag (z-1)).map λk=>ns.getD (ns.length-(z-1)*(j+1)+k*(j+1)) 0).count h=z-1:=by
    rw[EN.mpr,g];intro x i;obtain⟨k,a,rfl⟩:=AE.mp i;have a:=Ah.mp a;obtain⟨f,c⟩:=b k a;have:=of_decide_eq_true (H (z-2-k) (Ah.mpr ⋯))
    rw[f,Aa,this];rfl
   rw[this]
def jB{ns:List Int}(a:ns.length<41):L2.zl ns (L2.yI ns.length none none (-1)).1 (-1) (L2.yI ns.length none none (-1)).2=ns.reverse:=by
 have b:∀n:Nat,n<41->L2.yI n none none (-1)=((n:Int)-1,n):=by decide +kernel
 rw[b _ a];unfold L2.zl;dsimp only;rw[rF (g:=λk=>ns.getD (ns.length-1-k) 0)]
 . refine Ha λi=>?_
   by_cases hi:i<ns.length
   . rw[An,CJ hi,List.getElem?_reverse hi,Option.map_some,Aa,dS ⋯];rfl
   . rw[CV (by simp;omega),CV (by simp;omega)]
 . intro k h
   have h:=Ah.mp h;have:((ns.length:Int)-1+(k:Int)*-1).toNat=ns.length-1-k:=by omega
   rw[this,Aa,dS ⋯];rfl
def vD(z n:List Int):List Nat:=if n.length=40 then [] else (Ag z.length).filter λh=>!xZ n (za z h) h
def Rl:yT .b (tpI st) [.c h] s=.e (.c (st.count h)) s:=by
 have e:∀l:List Int,(l.map Val.c).countP (λz=>eqF z (.c h))=l.count h:=by
  intro l;induction l with
  |nil=>rfl
  |cons a l g=>rw[AG,EH,g,List.count_cons];rfl
 have f:(st.map Val.c).all flat=true:=AZ.mpr λv j=>by obtain⟨i,_,rfl⟩:=AE.mp j;rfl
 show (if (flat (.c h)&&(st.map Val.c).all flat)=true then Out.e (Val.c ((st.map Val.c).countP λz=>eqF z (.c h):Nat)) s else .d)=_
 rw[f,e];rfl
section
variable {T:Tbl}{Φ:Calls}{s:Sto}
def Uk(Φ:Calls):Prop:=∀(z ns:List Int) (h:Nat) (s:Sto),Sz z->ns.length<=40->h<z.length->Φ "may_follow" 0 [tpI z,tpI ns,.c h] s=.e (.e !(xZ ns (za z h) h)) s
def Vb(P:Sz zs)(V:ns.length<=40)(Z:h<zs.length):run T Φ F.vX [tpI zs,tpI ns,.c h] s=.e (.e !(xZ ns (za zs h) h)) s:=by
 obtain⟨I,H,Y⟩:=uS P Z;generalize hzz:za zs h=z at *;have hK:ns.length/(z-1)<=40:=Au (Nat.div_le_self _ _) V;have E:∀j,j<ns.length/(z-1)->(z-1)*(j+1)<=ns.length:=λj m=>by rw[EA,EB ⋯,BR]at m;exact m
 have M:xZ ns z h=(Ag (ns.length/(z-1))).any (tB ns z h):=rfl;have A:binOp false .d (.c (ns.length:Nat)) (.c ((z-1:Nat):Int)) s=.e (.c (ns.length/(z-1):Nat)) s:=by rw[bdiv ⋯,<-Hz]
 generalize hKK:ns.length/(z-1)=K at *;rw[post_eq,F.vX,yF];refine⟨rfl,?_⟩;show (zU Φ T.b [some (tpI zs),some (tpI ns),some (.c h),none,none,none] _ s).post _;refine yd (wH rfl) (yd (ye (vv (zB rfl) (zB rfl) (pF I)) zb aB) ?_);rw[show ((z:Int)-1)=((z-1:Nat):Int) by omega]
 show (zU Φ T.b [some (tpI zs),some (tpI ns),some (.c h),some (.c ns.length),some (.c ((z-1:Nat):Int)),none] _ s).post _;refine zV.mpr (wA (λr e g=>g=s/\(∃v,e=[some (tpI zs),some (tpI ns),some (.c h),some (.c ns.length),some (.c ((z-1:Nat):Int)),v])/\∃t:List Nat,r=t.map (λ(j:Nat)=>Val.c (1+(j:Int)))/\(∀j∈t,j<K)/\xZ ns z h=t.any (tB ns z h)) (yP 1 K) (s1:=s) (UN (i:=1) (j:=K+1) zb (ye (ye (zB rfl) (zB rfl) A) zb ee) ⋯ ⋯) ⟨rfl,⟨_,rfl⟩,Ag K,rfl,λj m=>Ah.mp m,M⟩ ?_ ?_)
 . rintro x r e g ⟨rfl,⟨v,rfl⟩,t,o,D,n⟩
   cases t with
   |nil=>cases o
   |cons j t=>
    rw[AG]at o;injection o with hx o
    subst hx;refine⟨_,rfl,?_⟩;have m:=E j (D j (.head _));have q:=dE (h:=(h:Int)) H m;obtain⟨d,C⟩:∃d,d=j+1:=⟨_,rfl⟩;have O:(1+(j:Int))=(d:Int):=by omega
    rw[<-C]at m q;have W:0<d:=by omega
    obtain⟨w,Q⟩:∃w,w=z-1:=⟨_,rfl⟩;have G:1<=w:=by omega
    have w8:w<=8:=by omega
    rw[<-Q]at m q ⊢;have N:binOp false .b (.c (w:Int)) (.c (d:Int)) g=.e (.c ((w*d:Nat):Int)) g:=by rw[UA ⋯,Gd]
    obtain⟨f,u⟩:∃f,f=ns.length-w*d:=⟨_,rfl⟩;rw[<-u]at q;have L:binOp false .c (.c (ns.length:Nat)) (.c ((w*d:Nat):Int)) g=.e (.c (f:Int)) g:=by rw[aB,show ((ns.length:Nat):Int)-((w*d:Nat):Int)=(f:Int) by omega]
    have hm:d*w=d*(w-1)+d:=by rw[<-Nat.mul_succ,Nat.succ_eq_add_one,Nat.sub_add_cancel G]
    have S:=BR d w;have y:wu false (tpI ns) (some (f:Int)) none (some (d:Int)) g=.e (tpI ((Ag w).map λk=>ns.getD (f+k*d) 0)) g:=by
     have U:L2.yI ns.length (some (f:Int)) none (d:Int)=((f:Int),w):=Xu W G ⋯
     have X:w<=zP:=by unfold zP;omega
     have B:(d:Int)≠0:=by omega
     simp only[wu,Ac,U];rw[if_pos ⟨B,X⟩];simp only[YK];rw[jD ⋯]
    generalize (Ag w).map (λk=>ns.getD (f+k*d) 0)=xs at *;rw[O];show (zU Φ T.b [some (tpI zs),some (tpI ns),some (.c h),some (.c ns.length),some (.c (w:Int)),some (.c (d:Int))] _ g).post _;rw[DZ,<-q]at n;have p:evT Φ T.b [some (tpI zs),some (tpI ns),some (.c h),some (.c ns.length),some (.c (w:Int)),some (.c (d:Int))] (.a (.k .d (.J .b false (.F false (.e 1) (.a (.l false .c (.e 3) (.l false .b (.e 4) (.e 5)))) .b (.a (.e 5))) (.a (.e 2) .b)) (.e 4))) g=.e (decide ((xs.count (h:Int):Int)=(w:Int))) g:=zi (z8 (bnd (gc (zB rfl) (u4 (ye (zB rfl) (ye (zB rfl) (zB rfl) N) L)) pU (u4 (zB rfl)) y) (bnd (zA (zB rfl) zD) Rl)) (zB rfl) eq_int) zR;by_cases hq:(xs.count (h:Int):Int)=(w:Int)
    . rw[decide_eq_true hq]at p n
      rw[Bool.true_or]at n;refine eL p (yB zb ?_);rw[n];exact zw yg
    . rw[decide_eq_false hq]at p n
      rw[Bool.false_or]at n;exact ym p (wU ⟨rfl,⟨_,rfl⟩,t,o,λj m=>D j (.tail _ m),n⟩)
 . rintro e g ⟨rfl,⟨v,rfl⟩,t,o,D,n⟩
   have R:t=[]:=by cases t with|nil=>rfl|cons _ _=>cases o
   subst R;rw[n];exact yB zb (zw yg)
def lQ(Φ:Calls):Prop:=∀(z ns:List Int) (s:Sto),Sz z->ns.length<=40->Φ "followers" 0 [tpI z,tpI ns] s=.e (yE (vD z ns)) s
def Yn(g:Gl4 T)(c:Uk Φ)(a:Sz zs)(j:ns.length<=40):run T Φ F.v3 [tpI zs,tpI ns] s=.e (yE (vD zs ns)) s:=by
 have p:zs.length<=4:=a.2.1;have n:(yE (vD zs ns)).noRef=true:=by
  show zk ((vD zs ns).map λ(k:Nat)=>Val.c k)=true;have e:(vD zs ns).map (λ(k:Nat)=>Val.c k)=((vD zs ns).map λ(k:Nat)=>(k:Int)).map .c:=by rw[A7];rfl
  rw[e];exact yA _
 rw[post_eq,F.v3,yF];refine⟨rfl,?_⟩;show (zU Φ T.b [some (tpI zs),some (tpI ns)] _ s).post _;have t:=zi (Φ:=Φ) (G:=T.b) (env:=[some (tpI zs),some (tpI ns)]) (s:=s) (z8 (op:=.d) (wH (i:=1) (m:=false) rfl) (gY g.mp) eq_int) zR;by_cases hc:ns.length=40
 . rw[decide_eq_true (show (ns.length:Int)=40 by omega)]at t
   have e:vD zs ns=[]:=if_pos hc;rw[e]at n ⊢;exact eL t (yB (uc zD (AV _)) (zw n))
 . rw[decide_eq_false (show ¬(ns.length:Int)=40 by omega)]at t
   have e:vD zs ns=(Ag zs.length).filter λh=>!xZ ns (za zs h) h:=if_neg hc;refine ym t (yB (yt (zA ?_ zD) (show blt .d false [.g ((vD zs ns).map λ(k:Nat)=>Val.c k)] s=.e (yE (vD zs ns)) s from rfl)) (zw n));rw[e,<-fU (λh=>!xZ ns (za zs h) h) (λ(h:Nat)=>Val.c h)];refine ur (xs:=Ag zs.length) (f:=λ(h:Nat)=>Val.c h) (λe=>∃o,e=[o,some (tpI zs),some (tpI ns)]) ((ZF (wH rfl) (by unfold zP;omega)).trans ?_) ⟨none,rfl⟩ ?_
   . unfold yP
     congr 2;exact BG λk _=>by rw[Int.zero_add]
   . rintro h l e ⟨o,rfl⟩
     refine⟨_,rfl,⟨_,rfl⟩,_,tu (zi (x_call (zA (zB rfl) (zA (zB rfl) (zA (zB rfl) zD))) (c zs ns h s a j (Ah.mp l))) zR),?_⟩;cases !xZ ns (za zs h) h with
     |true=>exact⟨_,zB rfl,rfl⟩
     |false=>rfl
def gj(Φ:Calls):Prop:=∀(z ns:List Int) (s:Sto),Sz z->ns.length<=40->Φ "leaders" 0 [tpI z,tpI ns] s=.e (yE (vD z ns.reverse)) s
def Y4(f:ns.length<=40):wu false (tpI ns) none none (some (-1)) s=.e (tpI ns.reverse) s:=by
 have b:∀n:Nat,n<41->(L2.yI n none none (-1)).2<=zP:=by
  have:∀n:Nat,n<41->(L2.yI n none none (-1)).2<=100:=by decide +kernel
  exact λn h=>Au (this n h) (by unfold zP;omega)
 have c:(-1:Int)≠0:=by omega
 have a:=jB (ns:=ns) ⋯
 simp only[wu,Ac];rw[if_pos ⟨c,b _ ⋯⟩]
 simp only[YK];rw[a]
def Yq(c:lQ Φ)(f:Sz zs)(h:ns.length<=40):run T Φ F.rA [tpI zs,tpI ns] s=.e (yE (vD zs ns.reverse)) s:=by
 rw[post_eq];have a:=c zs ns.reverse s f (by rw[Cr];exact h)
 have b:=Y4 (s:=s) h;simp only[tpI]at a b;simp[F.rA,EVl,ze,zL,b];rw[FQ]at a;rw[a];simp[EVl,ze,zL,yE,uQ]
def nt(Φ:Calls):Prop:=∀(z ns:List Int) (s:Sto),Sz z->Fit z ns->ns.length<=40->Φ "hues_behind" 0 [tpI z,tpI ns] s=.e (yE (vD z ns)) s
def jq(Φ:Calls):Prop:=∀(z ns:List Int) (s:Sto),Sz z->Fit z ns->ns.length<=40->Φ "hues_ahead" 0 [tpI z,tpI ns] s=.e (yE (vD z ns.reverse)) s
def gA(f:xt Φ)(c:lQ Φ)(h:Sz zs)(b:Fit zs ns)(a:ns.length<=40):run T Φ F.wZ [tpI zs,tpI ns] s=.e (yE (vD zs ns)) s:=by rw[post_eq];simp[F.wZ,EVl,ze,zL,f zs ns s h b a,c zs ns s h a,yE,uQ]
def bD(f:xt Φ)(c:gj Φ)(h:Sz zs)(b:Fit zs ns)(a:ns.length<=40):run T Φ F.vV [tpI zs,tpI ns] s=.e (yE (vD zs ns.reverse)) s:=by rw[post_eq];simp[F.vV,EVl,ze,zL,f zs ns s h b a,c zs ns s h a,yE,uQ]
end
end M
end
section
namespace F12
open PySem M
noncomputable def vR:Fn:=⟨["_law_pen_here","_law_some"],["_law_pen_here"],false,(.e (.f 1 (.w false (.a (.p (.a (.h (.c 3)) (.a (.h (.c 3)) .b))) (.a (.p (.a (.h (.c 3)) (.a (.h (.c 4)) .b))) (.a (.p (.a (.h (.c 4)) (.a (.h (.c 3)) .b))) (.a (.p (.a (.h (.c 2)) (.a (.h (.c 2)) (.a (.h (.c 3)) .b)))) (.a (.p (.a (.h (.c 2)) (.a (.h (.c 3)) (.a (.h (.c 2)) .b)))) (.a (.p (.a (.h (.c 3)) (.a (.h (.c 2)) (.a (.h (.c 2)) .b)))) (.a (.p (.a (.h (.c 2)) (.a (.h (.c 6)) .b))) (.a (.p (.a (.h (.c 5)) (.a (.h (.c 2)) .b))) (.a (.p (.a (.h (.c 2)) (.a (.h (.c 4)) .b))) (.a (.p (.a (.h (.c 3)) (.a (.h (.c 2)) .b))) (.a (.p (.a (.h (.c 2)) (.a (.h (.c 2)) .b))) (.a (.p (.a (.h (.c 2)) (.a (.h (.c 2)) (.a (.h (.c 2)) .b)))) .b)))))))))))))) (.e (.d (.u (.l false .a (.e 1) (.w false (.a (.p (.a (.h (.c 2)) .b)) (.a (.p (.a (.h (.c 3)) .b)) (.a (.p (.a (.h (.c 5)) .b)) (.a (.p (.a (.h (.c 8)) .b)) .b)))))) (.g "_law_draw" 0 (.a (.e 0) (.a (.h (.c 16)) .b))))) .f))⟩
noncomputable def vT:Fn:=⟨["sizes","length","strips","place"],["sizes","length"],false,(.e (.g (.g "need_small_sizes" 0 (.a (.e 0) .b))) (.e (.g (.g "need_length" 0 (.a (.e 1) .b))) (.e (.f 2 (.w false (.a (.p .b) .b))) (.e (.l (.a 3) (.f (.e 1)) (.e (.f 2 (.g "grown" 0 (.a (.e 0) (.a (.e 2) .b)))) .f)) (.e (.d (.e 2)) .f)))))⟩
noncomputable def tF:Fn:=⟨["sizes"],["sizes"],false,(.e (.d (.l false .c (.j .a false (.a (.g "tally" 0 (.a (.e 0) .b)) .b)) (.h (.c 1)))) .f)⟩
noncomputable def nz:Fn:=⟨["sizes","strips"],["sizes","strips"],false,(.e (.d (.y false ["strip","hue","sizes"] [none,none,some 0] (.l false .a (.e 0) (.p (.a (.e 1) .b))) (.a 0) (.d (.e 1)) .a (.a 1) (.f (.j .a false (.a (.e 2) .b))) (.b (.a (.g "may_follow" 0 (.a (.e 2) (.a (.e 0) (.a (.e 1) .b))))) .a))) .f)⟩
noncomputable def tJ:Fn:=⟨["sizes","strip"],["sizes","strip"],false,(.e (.d (.l false .c (.j .a false (.a (.g "led_on" 0 (.a (.e 0) (.a (.e 1) .b))) .b)) (.j .a false (.a (.e 1) .b)))) .f)⟩
noncomputable def qU:Fn:=⟨["sizes","strip","strips","longer"],["sizes","strip"],false,(.e (.g (.g "need_small_sizes" 0 (.a (.e 0) .b))) (.e (.g (.g "need_fit" 0 (.a (.e 0) (.a (.e 1) .b)))) (.e (.f 2 (.w false (.a (.e 1) .b))) (.e (.f 3 (.g "grown" 0 (.a (.e 0) (.a (.e 2) .b)))) (.e (.m (.a (.e 3)) (.e (.f 2 (.e 3)) (.e (.f 3 (.g "grown" 0 (.a (.e 0) (.a (.e 2) .b)))) .f))) (.e (.d (.u (.e 2) (.h (.c 0)))) .f))))))⟩
noncomputable def yo:Fn:=⟨["thing","product"],["thing"],false,(.e (.g (.g "need_sizes" 0 (.a (.e 0) .b))) (.e (.f 1 (.g "product_of" 0 (.a (.e 0) .b))) (.e (.j (.a (.k .k (.e 1) (.E "MOST_PRODUCT"))) (.e (.n (.h .h)) .f) .f) .f)))⟩
noncomputable def vd:Fn:=⟨["numbers","product","number"],["numbers"],false,(.e (.f 1 (.h (.c 1))) (.e (.l (.a 2) (.d (.e 0)) (.e (.w 1 .b (.e 2)) .f)) (.e (.d (.e 1)) .f)))⟩
noncomputable def wb:Fn:=⟨["sizes","length"],["sizes","length"],false,(.e (.d (.j .a false (.a (.g "all_strips" 0 (.a (.e 0) (.a (.e 1) .b))) .b))) .f)⟩
noncomputable def n5:Fn:=⟨["sizes","counts","strips"],["sizes"],false,(.e (.g (.g "need_small_sizes" 0 (.a (.e 0) .b))) (.e (.f 1 (.w true .b)) (.e (.f 2 (.w false (.a (.p .b) .b))) (.e (.m (.a (.e 2)) (.e (.g (.J .a false (.e 1) (.a (.j .a false (.a (.e 2) .b)) .b))) (.e (.f 2 (.g "grown" 0 (.a (.e 0) (.a (.e 2) .b)))) .f))) (.e (.d (.e 1)) .f)))))⟩
end F12
end
section
namespace M
open L2
def okH(z n:List Int):List Nat:=(Ag z.length).filter λh=>!xZ n (za z h) h
def yK(z:List Int)(L:List (List Int)):List (List Int):=L.flatMap λn=>(okH z n).map λ(h:Nat)=>n++[(h:Int)]
def zN(z:List Int)(L:List (List Int)):Nat->List (List Int)
 |0=>L
 |n+1=>yK z (zN z L n)
def sR:y∈yK zs L↔∃x∈L,∃h:Nat,h<zs.length/\xZ x (za zs h) h=false/\y=x++[(h:Int)]:=by
 unfold yK okH;rw[B6];constructor
 . rintro ⟨x,a,c⟩
   obtain⟨h,b,rfl⟩:=AE.mp c;rw[BM,Ah,BE]at b;exact⟨x,a,h,b.1,b.2,rfl⟩
 . rintro ⟨x,a,h,g,f,rfl⟩
   refine⟨x,a,AE.mpr ⟨h,?_,rfl⟩⟩;rw[BM,Ah,BE];exact⟨g,f⟩
theorem uL(h:∀x∈L,x.length=k):∀n,∀x∈zN zs L n,x.length=k+n
 |0,x,hx=>h x hx
 |n+1,x,hx=>by obtain⟨y,d,a,_,_,rfl⟩:=sR.mp hx;rw[Aw,uL h n y d];rfl
theorem uK(b:Sz zs)(h:∀x∈L,Fit zs x):∀n,∀x∈zN zs L n,Fit zs x
 |0,x,hx=>h x hx
 |n+1,x,hx=>by obtain⟨y,d,a,u,e,rfl⟩:=sR.mp hx;exact(uK b h n y d).snoc b u e
def uu(L:List (List Int)):Prop:=L.Pairwise λa b=>r8 a b=true
theorem fk:∀a:List Int,r8 a a=false
 |[]=>rfl
 |x::a=>by unfold r8;rw[if_pos rfl];exact fk a
theorem fj:∀{a b x y},r8 a b=true->r8 (a++x) (b++y)=true
 |[],[],_,_,h=>by cases h
 |[],_::_,_,_,h=>by cases h
 |_::_,[],_,_,h=>by cases h
 |u::a,v::b,x,y,h=>by
  rw[Dn,Dn];unfold r8 at h ⊢;by_cases e:u=v
  . rw[if_pos e]at h ⊢;exact fj h
  . rw[if_neg e]at h ⊢;exact h
theorem kX:∀{a} {x y},x<y->r8 (a++[x]) (a++[y])=true
 |[],x,y,h=>by
  show r8 [x] [y]=true;unfold r8;rw[if_neg ⋯];exact decide_eq_true h
 |u::a,x,y,h=>by rw[Dn,Dn];unfold r8;rw[if_pos rfl];exact kX h
def cz(h:uu L):uu (yK zs L):=by
 unfold uu yK;rw[F0];refine⟨λa _=>?_,h.imp λ{a b} hab x hx y hy=>?_⟩
 . rw[CF]
   exact(FC.filter _).imp λ{i j} hij=>kX ⋯
 . obtain⟨i,_,rfl⟩:=AE.mp hx
   obtain⟨j,_,rfl⟩:=AE.mp hy;exact fj hab
theorem rQ(h:uu L):∀n,uu (zN zs L n)
 |0=>h
 |n+1=>cz (rQ h n)
def a0(h:L.Sublist L'):(yK zs L).Sublist (yK zs L'):=by
 unfold yK;induction h with
 |slnil=>exact .slnil
 |cons a _ i=>rw[Cc];exact i.trans (List.sublist_append_right _ _)
 |cons_cons a _ i=>rw[Cc,Cc];exact i.append_left _
theorem kU(h:L.Sublist L'):∀n,(zN zs L n).Sublist (zN zs L' n)
 |0=>h
 |n+1=>a0 (kU h n)
theorem uJ zs L m:∀n,zN zs (zN zs L m) n=zN zs L (m+n)
 |0=>rfl
 |n+1=>congrArg (yK zs) (uJ zs L m n)
theorem mP(a:Sz zs):∀n {ns},ns.length=n->Fit zs ns->ns∈zN zs [[]] n
 |0,ns,hl,_=>by rw[Gg hl];exact .head _
 |n+1,ns,hl,hf=>by
  have d:ns≠[]:=λe=>by rw[e]at hl;cases hl
  have e:=List.dropLast_concat_getLast d;have f:(ns.take n)=ns.dropLast:=by rw[List.dropLast_eq_take,hl];rfl
  have g:=mP a n (ns:=ns.dropLast) (by rw[List.length_dropLast,hl];rfl) (by rw[<-f];exact hf.take n)
  have i:=hf.b _ (List.getLast_mem d);obtain⟨h,k⟩:∃h:Nat,ns.getLast d=h:=⟨(ns.getLast d).toNat,⋯⟩
  rw[k]at e i;refine sR.mpr ⟨_,g,h,⋯,?_,e.symm⟩
  have j:lT zs ns.dropLast:=by rw[<-f];exact(hf.take n).c
  rw[<-nD a j ⋯,e]
  exact hf.c
def mQ(h:Sz zs)(a:Fit zs ns)n:(zN zs [ns] n).Sublist (zN zs [[]] (ns.length+n)):=by rw[<-uJ];exact kU (List.singleton_sublist.mpr (mP h _ rfl a)) n
def Xx(z:List Int):Nat->List (List Int)->Bool
 |0,L=>L.isEmpty
 |n+1,L=>decide (L.length<=100)&&Xx z n (yK z L)
theorem fJ:∀{n} {L},Xx zs n L=true->zN zs L n=[]/\∀m,m<n->(zN zs L m).length<=100
 |0,L,h=>⟨A9.mp h,λm d=>absurd d (C8 _)⟩
 |n+1,L,h=>by
  unfold Xx at h;rw[ub]at h;have ⟨u,h2⟩:=fJ h.2;have e:∀m,zN zs (yK zs L) m=zN zs L (m+1):=λm=>by have:=uJ zs L 1 m;rw[show zN zs L 1=yK zs L from rfl,Hm 1 m]at this;exact this
  rw[e]at u;refine⟨u,λm d=>?_⟩;cases m with
  |zero=>exact of_decide_eq_true h.1
  |succ m=>rw[<-e];exact h2 m ⋯
noncomputable def uV:List (List Int):=[3,3]::[3,4]::[4,3]::[2,2,3]::[2,3,2]::[3,2,2]::[2,6]::[5,2]::[2,4]::[3,2]::[2,2]::[2,2,2]::[2]::[3]::[5]::[8]::[]
def gH:(uV.all λd=>Xx d 18 [[]]&&decide (d.foldl (·*·) 1<=12)&&(decide (1<=d.length)&&decide (d.length<=4)&&d.all λx=>decide (2<=x)&&decide (x<=8)))=true:=by decide +kernel
def vG(h:zN zs L n=[]):∀m,zN zs L (n+m)=[]:=λm=>by
 rw[<-uJ,h];induction m with
 |zero=>rfl
 |succ m i=>show yK zs (zN zs [] m)=[];rw[i];rfl
structure zK(zs:List Int):Prop where
 a:Sz zs
 d:zs.foldl (·*·) 1<=12
 c:∀m,18<=m->zN zs [[]] m=[]
 b:∀m,(zN zs [[]] m).length<=100
def Y7(h:zs∈uV):zK zs:=by
 have:=AZ.mp gH zs h;simp only[ub,decide_eq_true_eq,AZ]at this;obtain⟨⟨j,i⟩,⟨g,f⟩,c⟩:=this;have ⟨l,k⟩:=fJ j;have d:∀m,18<=m->zN zs [[]] m=[]:=λm a=>by
  have:=vG l (m-18)
  rwa [show 18+(m-18)=m by omega]at this
 refine⟨⟨g,f,λx b=>c x b⟩,i,d,λm=>?_⟩;by_cases a:m<18
 . exact k m a
 . rw[d m ⋯];simp
end M
end
section
namespace M
open PySem
abbrev tps(L:List (List Int)):List Val:=L.map tpI
noncomputable def unI:Val->List Int
 |.f vs=>vs.map λv=>match v with|.c i=>i|_=>0
 |_=>[]
def XT ns:unI (tpI ns)=ns:=by show (ns.map Val.c).map _=ns;rw[A7];exact List.map_id' ns
theorem yc:∀L:List (List Int),zk (tps L)=true
 |[]=>rfl
 |ns::L=>by show (Val.noRef (tpI ns)&&zk (tps L))=true;rw[yc L,IG];exact yA ns
theorem pC:∀L:List (List Int),ux (tps L)=true
 |[]=>rfl
 |ns::L=>by show (Val.isD (tpI ns)&&ux (tps L))=true;rw[pC L,IG];exact vE ns
def Xh(h:a.length+b.length<=zP):binOp false .a (.g a) (.g b) s=.e (.g (a++b)) s:=by simp only[binOp,z0];rw[if_pos h];rfl
def dJ{G:Nat->Val}{n:Nat}(g:∀k<n,F (.c k)=if f k then [G k] else []):(yP 0 n).flatMap F=((Ag n).filter f).map G:=by
 unfold yP;rw[List.flatMap_map];have:∀l:List Nat,(∀k∈l,k<n)->l.flatMap (λ(k:Nat)=>F (.c (0+(k:Int))))=(l.filter f).map G:=λl=>by
  induction l with
  |nil=>intro _;rfl
  |cons k l i=>
   intro h;rw[Cc,i λj b=>h j (.tail _ b),show (0:Int)+(k:Int)=(k:Int) by omega,g k (h k (.head _)),List.filter_cons]
   cases f k<;>rfl
 exact this _ λk a=>Ah.mp a
def bB(z n:List Int):Val->List Val
 |.c a=>if !xZ n (za z a.toNat) a then [tpI (n++[a])] else []
 |_=>[]
def VZ zs ns:(yP 0 zs.length).flatMap (bB zs ns)=tps ((okH zs ns).map λ(h:Nat)=>ns++[(h:Int)]):=by
 rw[dJ (f:=λh=>!xZ ns (za zs h) h) (G:=λh=>tpI (ns++[(h:Int)])) (λk _=>by simp[bB])]
 show _=Gy tpI (Gy _ (List.filter _ _));rw[A7];rfl
section
variable {T:Tbl}{Φ:Calls}{s:Sto}
def V8(Φ:Calls):Prop:=∀(z:List Int) (s:Sto),Sz z->Φ "product_of" 0 [tpI z] s=.e (.c (z.foldl (·*·) 1)) s
def Yu(j:Sz zs):run T Φ F12.vd [tpI zs] s=.e (.c (zs.foldl (·*·) 1)) s:=by
 rw[post_eq];simp[F12.vd,EVl,ze,zL];refine wA (λr e f=>f=s/\∃o a t,e=[some (tpI zs),some (.c a),o]/\r=t.map Val.c/\(∀x∈t,2<=x/\x<=8)/\t.foldl (·*·) a=zs.foldl (·*·) 1) (zs.map .c) (s1:=s) ?_ ⟨rfl,_,_,zs,rfl,rfl,j.2.2,rfl⟩ ?_ ?_
 . rw[post_eq]
   simp[EVl,ze,zL]
 . rintro x r e f ⟨rfl,o,a,t,rfl,h,i,g⟩
   cases t with
   |nil=>cases h
   |cons y t=>
    rw[AG]at h;injection h with h1 h2
    subst h1;have m:=i y (.head _);refine⟨_,rfl,?_⟩;rw[zV];show (Out.bind (binOp false .b (.c a) (.c y) f) _).post _;rw[g9 ⋯,zJ]
    simp only[EVl,ze,zL];exact⟨trivial,_,_,t,rfl,h2,λx k=>i x (.tail _ k),g⟩
 . rintro e f ⟨rfl,o,a,t,rfl,h,i,g⟩
   have l:t=[]:=by cases t with|nil=>rfl|cons _ _=>cases h
   subst l;simp[EVl,ze,zL];exact g
def xu(Φ:Calls):Prop:=∀(z:List Int) (s:Sto),zK z->Φ "need_small_sizes" 0 [tpI z] s=.e .h s
def oS(g:T.b "MOST_PRODUCT"=some (.c 12))(k:u6 Φ)(j:V8 Φ)(f:zK zs):run T Φ F12.yo [tpI zs] s=.e .h s:=by
 rw[post_eq];have i:¬(12<zs.foldl (·*·) 1):=by have:=f.d;omega
 simp[F12.yo,EVl,ze,zL,k zs s f.a,j zs s f.a,g,gt_int,i]
def vQ(Φ:Calls):Prop:=∀(z:List Int) (L:List (List Int)) (s:Sto),Sz z->(∀x∈L,x.length<=40)->(yK z L).length<=zP->Φ "grown" 0 [tpI z,.g (tps L)] s=.e (.g (tps (yK z L))) s
def gE(c:Uk Φ)(m:Sz zs)(v:∀x∈L,x.length<=40)(r:(yK zs L).length<=zP):run T Φ F12.nz [tpI zs,.g (tps L)] s=.e (.g (tps (yK zs L))) s:=by
 rw[post_eq,F12.nz,yF];refine⟨rfl,?_⟩;have h:(L.flatMap λn=>(Ag zs.length).flatMap λ(k:Nat)=>bB zs n (.c (0+(k:Int))))=tps (yK zs L):=by unfold yK tps;rw[HB];congr 1;funext n;refine E8 ?_ (VZ zs n);unfold yP;rw[List.flatMap_map]
 have o:=jn (Φ:=Φ) (G:=T.b) (env:=[some (tpI zs),some (.g (tps L))]) (s:=s) (xs:=L) (f:=tpI) (ys:=λ_=>Ag zs.length) (f2:=λ_ k=>.c (0+(k:Int))) (g:=λn k=>bB zs n (.c (0+(k:Int)))) (λe=>∃a b,e=[a,b,some (tpI zs)]) (λx e=>∃b,e=[some (tpI x),b,some (tpI zs)]) (N:=["strip","hue","sizes"]) (fr:=[none,none,some 0]) (t:=.a 0) (t2:=.a 1) (elt:=.l false .a (.e 0) (.p (.a (.e 1) .b))) (it:=.d (.e 1)) (it2:=.f (.j .a false (.a (.e 2) .b))) (ifs2:=.b (.a (.g "may_follow" 0 (.a (.e 2) (.a (.e 0) (.a (.e 1) .b))))) .a) (yV (zB rfl) rfl) ⟨_,_,rfl⟩ (by
  rintro n i e ⟨a,b,rfl⟩;exact⟨_,rfl,ZF (wH rfl) (by have:=m.2.1;unfold zP;omega),_,rfl⟩) (by
  rintro n e ⟨b,rfl⟩;exact⟨_,_,rfl⟩) (by
  rintro n i k hk e ⟨b,rfl⟩;have q:=v n i;have hk:=Ah.mp hk;rw[Int.zero_add];refine⟨_,rfl,⟨_,rfl⟩,_,tu (zi (x_call (zA (zB rfl) (zA (zB rfl) (zA (zB rfl) zD))) (c zs n k s m q hk)) zR),?_⟩;cases he:xZ n (za zs k) k with
  |true=>simp[bB,he]
  |false=>exact⟨_,ye (zB rfl) (uc (zA (zB rfl) zD) (FO (AV _))) (n9 (by rw[Ac];unfold zP;simp;omega)),by simp[bB,he]⟩) (by rw[h];show (Gy tpI _).length<=_;rw[Ac];exact r)
 rw[h]at o;exact yB o (zw (by rw[tW];exact yc _))
theorem nP:∀{L} {zs},pairsOf (tps L)=some zs->L=zs.map λz=>[z.1,z.2]
 |[],zs,h=>by cases h;rfl
 |ns::L,zs,h=>by
  match ns,h with
  |[a,b],h=>
   have d:(pairsOf (tps L)).map ((a,b)::·)=some zs:=h
   rw[AB]at d;obtain⟨c,f,rfl⟩:=d;rw[nP f];rfl
  |[],h=>cases (show none=some zs from h)
  |[_],h=>cases (show none=some zs from h)
  |_::_::_::_,h=>cases (show none=some zs from h)
theorem xm:∀d:List Int,intsOf (d.map .c)=some d
 |[]=>rfl
 |n::d=>by show (intsOf (d.map .c)).map _=_;rw[xm d];rfl
theorem oC:∀L:List (List Int),yH (tps L)=some L
 |[]=>rfl
 |ns::L=>by
  show (match intsOf (ns.map .c),yH (tps L) with|some z,some zs=>some (z::zs)|_,_=>none)=_
  rw[xm,oC L]
def jW(E:List (List Int)):List (List Int):=match pairsOf (tps E) with
 |some a=>if a.Nodup/\∀z∈a,0<=z.2/\z.2<1000 then (sj a).map (λz=>[z.1,z.2]) else L2.zm E
 |none=>L2.zm E
def pz E:(jW E).Perm E:=by
 unfold jW;cases hp:pairsOf (tps E) with
 |none=>exact L2.zS E
 |some a=>
  dsimp only;by_cases hc:a.Nodup/\∀z∈a,0<=z.2/\z.2<1000
  . rw[if_pos hc]
    have e:=nP hp;exact((xQ a).map _).trans (.of_eq e.symm)
  . rw[if_neg hc];exact L2.zS E
def gI(c:z0 s x=some (tps E))(f:E.Nodup)(g:E.length<2\/∀z∈E,z≠[]):blt .b m [x] s=newList m (tps (jW E)) s:=by
 have h:rR m (tps E) s=newList m (tps (L2.zm E)) s:=by unfold rR;rw[oC];dsimp only;rw[if_pos ⟨f,g⟩];rfl
 simp only[blt,c];unfold jW;cases hp:pairsOf (tps E) with
 |none=>exact h
 |some a=>
  dsimp only;by_cases hc:a.Nodup/\∀z∈a,0<=z.2/\z.2<1000
  . rw[if_pos hc,if_pos hc]
    show newList m ((sj a).map prV) s=newList m (tps ((sj a).map λz=>[z.1,z.2])) s;rw[tps,A7];rfl
  . rw[if_neg hc,if_neg hc];exact h
def pf(h:uu L):L.Nodup:=h.imp λ{a b} hab e=>by rw[e,fk]at hab;cases hab
end
structure Far(zs:List Int)(N:Nat):Prop where
 a:zN zs [[]] N=[]
 d:∀m,m<N->zN zs [[]] m≠[]
 c:N<=18
 b:0<N
def TL(h:zK zs):∃N,Far zs N:=by
 have k:∀n,zN zs [[]] n=[]->∃N,N<=n/\zN zs [[]] N=[]/\∀m,m<N->zN zs [[]] m≠[]:=λn=>by
  induction n with
  |zero=>intro e;cases e
  |succ n i=>
   intro e;by_cases hn:zN zs [[]] n=[]
   . obtain⟨N,f,a,b⟩:=i hn
     exact⟨N,⋯,a,b⟩
   . refine⟨n+1,Ad _,e,λm j g=>?_⟩
     have:=vG g (n-m);rw[show m+(n-m)=n by omega]at this
     exact hn this
 obtain⟨N,f,a,b⟩:=k 18 (h.c 18 ⋯)
 refine⟨N,a,b,f,?_⟩;cases N with
 |zero=>cases a
 |succ N=>omega
def uh(h:zK zs)n:∀x∈zN zs [[]] n,x.length=n/\n<18:=λx a=>by
 have:=uL (k:=0) (L:=[[]]) (zs:=zs) (λx a=>by rw[Al.mp a];rfl) n x a
 refine⟨⋯,?_⟩
 by_cases hn:n<18
 . exact hn
 . rw[h.c n ⋯]at a;cases a
def vH(h:zK zs)n:∀x∈zN zs [[]] n,x.length<=40:=λx a=>by have:=uh h n x a;omega
def qr(h:zK zs)n:(zN zs [[]] n).length<=zP:=Au (h.b n) (by unfold zP;omega)
def sD(z:List Int)(N:Nat):List Int:=(Ag N).map λm=>((zN z [[]] m).length:Int)
def fB zs N:(sD zs N).length=N:=by simp[sD]
def aI zs N:sD zs (N+1)=sD zs N++[((zN zs [[]] N).length:Int)]:=by unfold sD;rw[HX,Dc];rfl
section
variable {T:Tbl}{Φ:Calls}{s:Sto}
def VE(c:vQ Φ)(l:zK zs)(i:Far zs N)(t:R (.a [some (tpI zs),some (.j s.length),some (.g [])]) (s++[.c ((sD zs N).map .c)])) :
 (exS Φ G [some (tpI zs),some (.j s.length),some (.g [.f []])] (.m (.a (.e 2)) (.e (.g (.J .a false (.e 1) (.a (.j .a false (.a (.e 2) .b)) .b))) (.e (.f 2 (.g "grown" 0 (.a (.e 0) (.a (.e 2) .b)))) .f))) (s++[.c []])).post R:=by
 refine m6 N (λk e p=>∃m,m+k=N/\e=[some (tpI zs),some (.j s.length),some (.g (tps (zN zs [[]] m)))]/\p=s++[.c ((sD zs m).map .c)]) (by have:=i.c;unfold qW;omega) ⟨0,⋯,rfl,rfl⟩ ?_
 rintro k e p ⟨m,v,rfl,rfl⟩;simp only[f9,wB];refine⟨_,rfl,_,lN,?_⟩;cases k with
 |zero=>
  have:m=N:=by omega
  subst this;rw[i.a];exact t
 |succ k=>
  have n:=i.d m ⋯
  have q:(!(tps (zN zs [[]] m)).isEmpty)=true:=by
   cases hL:zN zs [[]] m with
   |nil=>exact absurd hL n
   |cons _ _=>rfl
  rw[q,if_pos rfl];have o:yT .a (.j s.length) [.c ((zN zs [[]] m).length:Int)] (s++[.c ((sD zs m).map .c)])=.e .h (s++[.c ((sD zs (m+1)).map .c)]):=by rw[Xl (by rw[Ac,fB];have:=i.c;unfold zP;omega),aI,Dc];rfl
  have r:=c zs (zN zs [[]] m) (s++[.c ((sD zs (m+1)).map .c)]) l.a (vH l m) (qr l (m+1));simp only[EVl,ze,zL];refine⟨_,rfl,_,rfl,?_⟩;rw[kQ,Ac];simp only[zC];show (yT .a (.j s.length) [.c ((zN zs [[]] m).length:Int)] (s++[.c ((sD zs m).map .c)])).post _;rw[o];simp only[zC];refine⟨_,rfl,_,rfl,?_⟩;rw[r];simp only[zC];exact⟨k,⋯,m+1,⋯,rfl,rfl⟩
def gm(Φ:Calls):Prop:=∀(z:List Int) (N:Nat) (s:Sto),zK z->Far z N->Φ "tally" 0 [tpI z] s=.e (.g ((sD z N).map .c)) s
def gF(b:xu Φ)(c:vQ Φ)(h:zK zs)(a:Far zs N):run T Φ F12.n5 [tpI zs] s=.e (.g ((sD zs N).map .c)) s:=by
 rw[post_eq];simp[F12.n5,EVl,ze,zL,b zs s h,M.newList,zP];refine VE c h a ?_;simp only[EVl,ze,zL];refine⟨_,rfl,?_⟩;rw[iQ (vs:=(sD zs N).map .c) (Ad _) (by simp) (yA _)]
 exact zC.mpr ⟨rfl,rfl⟩
def og(Φ:Calls):Prop:=∀(z:List Int) (N:Nat) (s:Sto),zK z->Far z N->Φ "farthest" 0 [tpI z] s=.e (.c ((N:Int)-1)) s
def lE(c:gm Φ)(h:zK zs)(a:Far zs N):run T Φ F12.tF [tpI zs] s=.e (.c ((N:Int)-1)) s:=by rw[post_eq];simp[F12.tF,EVl,ze,zL,c zs N s h a,kQ,aB,fB]
def oa(Φ:Calls):Prop:=∀(z:List Int) (n:Nat) (s:Sto),zK z->n<=40->Φ "all_strips" 0 [tpI z,.c n] s=.e (.g (tps (zN z [[]] n))) s
def Yf(q:xu Φ)(p:rW Φ)(c:vQ Φ){n:Nat}(h:zK zs)(t:n<=40):run T Φ F12.vT [tpI zs,.c n] s=.e (.g (tps (zN zs [[]] n))) s:=by
 rw[post_eq,F12.vT,yF];refine⟨rfl,?_⟩;show (zU Φ T.b [some (tpI zs),some (.c n),none,none] _ s).post _;refine xp (x_call (zA (zB rfl) zD) (q zs s h)) (xp (x_call (zA (zB rfl) zD) (p n s ⋯ ⋯)) (yd (v:=.g (tps (zN zs [[]] 0))) rfl (zV.mpr (wA (λr e f=>f=s/\∃m o,m<=n/\r=yP m (n-m)/\e=[some (tpI zs),some (.c n),some (.g (tps (zN zs [[]] m))),o]) (yP 0 n) (s1:=s) (ZF (zB rfl) (by unfold zP;omega)) ⟨rfl,0,_,⋯,rfl,rfl⟩ ?_ ?_))))
 . rintro x r e f ⟨rfl,m,o,l,j,rfl⟩
   obtain⟨k,y,rfl,i⟩:=bA j;exact⟨_,rfl,yd (x_call (zA (zB rfl) (zA (zB rfl) zD)) (c zs (zN zs [[]] m) f h.a (vH h m) (qr h (m+1)))) (wU ⟨rfl,m+1,_,⋯,by rw[i];congr 1;omega,rfl⟩)⟩
 . rintro e f ⟨rfl,m,o,l,j,rfl⟩
   have:=VY j;obtain rfl:m=n:=by omega
   exact yB (zB rfl) (zw (yc _))
def V6(Φ:Calls):Prop:=∀(z:List Int) (n:Nat) (s:Sto),zK z->n<=40->Φ "strips_many" 0 [tpI z,.c n] s=.e (.c (zN z [[]] n).length) s
def Ys(c:oa Φ){n:Nat}(h:zK zs)(a:n<=40):run T Φ F12.wb [tpI zs,.c n] s=.e (.c (zN zs [[]] n).length) s:=by rw[post_eq];simp[F12.wb,EVl,ze,zL,c zs n s h a,kQ]
def bt(Φ:Calls):Prop:=∀(p:Nat) (s:Sto),t4 s p->(Φ "_law_small" 0 [.j p] s).post λv a=>∃z,v=tpI z/\zK z/\uz s p a
def bJ(i:bj Φ)(c:t4 s p):(run T Φ F12.vR [.j p] s).post λv e=>∃d,v=tpI d/\zK d/\uz s p e:=by
 obtain⟨_,a,f,r,rfl,k,t⟩:=i p 16 s c ⋯ ⋯
 have h:r<uV.length:=by show r<16;omega
 rw[F12.vR,yF];refine⟨rfl,?_⟩;show (zU Φ T.b [some (.j p),none] _ s).post _;refine yd (v:=.g ((uV.take 12).map tpI)) rfl (yB (vv (x:=.g (uV.map tpI)) rfl (x_call (zA (zB rfl) (zA zb zD)) f) (iL (v:=tpI uV[r]) (by rw[An,dS h];rfl))) ?_)
 show (zh false s (tpI uV[r]) a).post _;rw[pI (v:=tpI uV[r]) t (yA _)];exact zC.mpr ⟨_,rfl,Y7 (Bv h),t⟩
noncomputable def tD(n:List Int):PyData:=.tuple (n.map EO)
theorem aQ:∀L:List (List Int),ds (tps L)=L.map tD
 |[]=>rfl
 |ns::L=>by show (tpI ns).d::ds (tps L)=tD ns::L.map tD;rw[aQ L];show PyData.tuple (ds (ns.map .c))::_=_;rw[qD];rfl
end
structure n6(zs x:List Int)(N:Nat):Prop where
 b:zN zs [x] N=[]
 on:∀m,m<N->zN zs [x] m≠[]
 le:N<=18
 a:0<N
def X8(h:zK zs)(j:Fit zs x):∃N,n6 zs x N:=by
 have k:∀n,zN zs [x] n=[]->∃N,N<=n/\zN zs [x] N=[]/\∀m,m<N->zN zs [x] m≠[]:=λn=>by
  induction n with
  |zero=>intro e;cases e
  |succ n i=>
   intro e;by_cases hn:zN zs [x] n=[]
   . obtain⟨N,g,b,f⟩:=i hn
     exact⟨N,⋯,b,f⟩
   . refine⟨n+1,Ad _,e,λm o l=>?_⟩
     have:=vG l (n-m);rw[show m+(n-m)=n by omega]at this
     exact hn this
 have d:zN zs [x] 18=[]:=by
  have:=mQ h.a j 18;rw[h.c _ ⋯]at this
  exact List.sublist_nil.mp this
 obtain⟨N,g,b,f⟩:=k 18 d;refine⟨N,b,f,g,?_⟩;cases N with
 |zero=>cases b
 |succ N=>omega
def NP(h:zK zs)(c:Fit zs x)n:(zN zs [x] n).length<=100:=Au (mQ h.a c n).length_le (h.b _)
def OU(h:zK zs)(a:Fit zs x)n:(zN zs [x] n).length<=zP:=Au (NP h a n) (by unfold zP;omega)
def OT n:∀y∈zN zs [x] n,y.length=x.length+n:=uL (λy h=>by rw[Al.mp h]) n
def xle(h:zK zs)(c:Fit zs x)n:∀y∈zN zs [x] n,y.length<=40:=λy b=>by have f:=(mQ h.a c n).subset b;exact vH h _ y f
def NQ(h:zK zs)(c:Fit zs x)n:∀y∈zN zs [x] n,Fit zs y:=uK h.a (λy b=>by rw[Al.mp b];exact c) n
def WI(h:L.head?=some y):vt (.g (tps L)) (.c 0) s=.e (tpI y) s:=by
 cases L with
 |nil=>cases h
 |cons z L=>cases h;exact iL (k:=0) rfl
section
variable {T:Tbl}{Φ:Calls}{s:Sto}
def jr(Φ:Calls):Prop:=∀(z x y:List Int) (N:Nat) (s:Sto),zK z->Fit z x->x.length<=40->n6 z x N->(zN z [x] (N-1)).head?=some y->Φ "led_on" 0 [tpI z,tpI x] s=.e (tpI y) s
def bH(z:xu Φ)(t:xt Φ)(c:vQ Φ)(h:zK zs)(i:Fit zs x)(q:x.length<=40)(f:n6 zs x N)(n:(zN zs [x] (N-1)).head?=some y):run T Φ F12.qU [tpI zs,tpI x] s=.e (tpI y) s:=by
 have l:∀m s,Φ "grown" 0 [tpI zs,.g (tps (zN zs [x] m))] s=.e (.g (tps (zN zs [x] (m+1)))) s:=λm s=>c zs (zN zs [x] m) s h.a (xle h i m) (OU h i (m+1));have r:.g [tpI x]=Val.g (tps (zN zs [x] 0)):=rfl;rw[post_eq,F12.qU,yF];refine⟨rfl,?_⟩;rw[zV,pY,pX,wj,wB];refine⟨_,rfl,?_⟩;rw[rg,z zs s h,zC,wW,zV,pY,pX,wj,wB];refine⟨_,rfl,?_⟩;rw[wj,wB];refine⟨_,rfl,?_⟩;rw[rg,t zs x s h.a i q,zC,wW,zV,nO,UT,wj,wB];refine⟨_,rfl,?_⟩;rw[rg,if_pos (by simp[zP])]
 simp only[M.newList,As,if_false,zC,wW];rw[zV,nO,pX,wj,wB];refine⟨_,rfl,?_⟩;rw[wj,wB];refine⟨_,rfl,?_⟩;rw[rg,r,l,zC,wW,zV];have d:=f.a;refine m6 (N-1) (λk e j=>j=s/\∃m,m+1+k=N/\e=[some (tpI zs),some (tpI x),some (.g (tps (zN zs [x] m))),some (.g (tps (zN zs [x] (m+1))))]) (by have:=f.le;unfold qW;omega) ⟨rfl,0,⋯,rfl⟩ ?_
 rintro k e j ⟨rfl,m,u,rfl⟩;rw[f9,wB];refine⟨_,rfl,_,lN,?_⟩;cases k with
 |zero=>
  have p:m+1=N:=by omega
  rw[show m=N-1 by omega]
  rw[show N-1+1=N by omega,f.b,if_neg (by simp),wW,zV,Z5,PR,wB]
  refine⟨_,rfl,?_⟩;rw[US,WI n,zC,eQ,aq,zq (v:=tpI y) (yA _)];exact zC.mpr ⟨rfl,rfl⟩
 |succ k=>
  have o:(!(tps (zN zs [x] (m+1))).isEmpty)=true:=by
   cases hL:zN zs [x] (m+1) with
   |nil=>exact absurd hL (f.on (m+1) ⋯)
   |cons _ _=>rfl
  rw[if_pos o,zV,nO,wB];refine⟨_,rfl,?_⟩;rw[wW,zV,nO,pX,wj,wB];refine⟨_,rfl,?_⟩;rw[wj,wB];refine⟨_,rfl,?_⟩;rw[rg,l,zC,wW,m5,eN];exact⟨k,⋯,rfl,m+1,⋯,rfl⟩
def bq(Φ:Calls):Prop:=∀(z x y:List Int) (N:Nat) (s:Sto),zK z->Fit z x->x.length<=40->n6 z x N->(zN z [x] (N-1)).head?=some y->Φ "led_more" 0 [tpI z,tpI x] s=.e (.c ((y.length:Int)-x.length)) s
def jR(c:jr Φ)(h:zK zs)(f:Fit zs x)(b:x.length<=40)(g:n6 zs x N)(a:(zN zs [x] (N-1)).head?=some y):run T Φ F12.tJ [tpI zs,tpI x] s=.e (.c ((y.length:Int)-x.length)) s:=by rw[post_eq];simp[F12.tJ,EVl,ze,zL,c zs x y N s h f b g a,UQ,aB]
end
def fD:uv (xs.map f) lo hi=(uv xs lo hi).map f:=by unfold uv;rw[Ac,List.map_take,List.map_drop]
def RW:wu m (tpI ns) lo hi none s=.e (tpI (uv ns lo hi)) s:=by show Out.e (Val.f (uv (ns.map .c) lo hi)) s=_;rw[fD]
def xW(z x:List Int):Bool:=(okH z x).isEmpty
def oE(z:List Int)(m:Nat):List (List Int):=(Ag m).flatMap λj=>zN z [[]] j
def w6(z:List Int)(m:Nat):List (List Int):=(Ag m).flatMap λj=>(zN z [[]] j).filter (xW z)
def all_succ zs m:oE zs (m+1)=oE zs m++zN zs [[]] m:=by unfold oE;rw[HX,List.flatMap_append,Eh]
def nC zs m:w6 zs (m+1)=w6 zs m++(zN zs [[]] m).filter (xW zs):=by unfold w6;rw[HX,List.flatMap_append,Eh]
theorem uD zs:∀m,(oE zs m).filter (xW zs)=w6 zs m
 |0=>rfl
 |m+1=>by rw[all_succ,nC,List.filter_append,uD zs m]
theorem gu(h:zK zs):∀m,(oE zs m).length<=m*100
 |0=>Ad _
 |m+1=>by rw[all_succ,Aw,Nat.succ_mul];exact Ii (gu h m) (h.b m)
def ae(h:zK zs)m:(w6 zs m).length<=m*100:=by rw[<-uD];exact Au (EC _ _) (gu h m)
def Xj(h:zK zs)(b:x∈oE zs m):x.length<18/\∃j<m,x∈zN zs [[]] j:=by obtain⟨j,c,a⟩:=B6.mp b;have:=uh h j x a;exact⟨⋯,j,Ah.mp c,a⟩
def kF(h:x∈w6 zs m):x∈oE zs m/\xW zs x=true:=by rw[<-uD]at h;exact BM.mp h
def eZ(h:zK zs)m:(oE zs m).Nodup:=by unfold oE;rw[Cm,F0];refine⟨λj _=>pf (rQ (Di _ _) j),FC.imp λ{a b} hab x hx y hy e=>?_⟩;have c:=(uh h a x hx).1;have f:=(uh h b y hy).1;rw[e]at c;omega
def iF(h:zK zs)m:(w6 zs m).Nodup:=by rw[<-uD];exact(eZ h m).filter _
def XE(h:Sz zs):xW zs []=false:=by
 have a:=h.1;have:0∈okH zs []:=BM.mpr ⟨Ah.mpr a,by
  have:xZ [] (za zs 0) ((0:Nat):Int)=false:=by unfold xZ;rw[Cf,Nat.zero_div];rfl
  rw[this];rfl⟩
 unfold xW;cases e:okH zs [] with
 |nil=>rw[e]at this;cases this
 |cons _ _=>rfl
def X3(h:Sz zs):∀z∈w6 zs m,z≠[]:=λz a e=>by have:=(kF a).2;rw[e,XE h]at this;cases this
def kI(h:x.length<40):((vD zs x).map λ(k:Nat)=>Val.c k).isEmpty=xW zs x:=by
 unfold vD xW;rw[if_neg ⋯]
 unfold okH;generalize List.filter (λ(h:Nat)=>!xZ x (za zs h) h) (Ag zs.length)=l;cases l<;>rfl
theorem kM:∀{n} {x},x∈zN zs [[]] n->∀i∈x,0<=i/\i<zs.length
 |0,x,d,i,hi=>by rw[Al.mp d]at hi;cases hi
 |n+1,x,d,i,hi=>by
  obtain⟨y,e,d⟩:=B6.mp d;obtain⟨k,h,rfl⟩:=AE.mp d;rcases AS.mp hi with hi|hi
  . exact kM e i hi
  . rw[Al.mp hi]
    have:=Ah.mp (BM.mp h).1;omega
section
variable {T:Tbl}{Φ:Calls}{G:Str->Option Val}{env:Env}{s:Sto}
theorem fT:∀L:List (List Int),(tps L).flatMap (λv=>if f (unI v) then [v] else [])=tps (L.filter f)
 |[]=>rfl
 |x::L=>by
  show (if f (unI (tpI x)) then [tpI x] else [])++(tps L).flatMap _=_
  rw[fT L,XT,List.filter_cons];cases f x<;>rfl
def S2{f:List Int->Bool}(g:zx Φ G env it s=.e ⟨tps L,none⟩ s)(j:zL fr env=none::e0)(h:∀x∈L,yM Φ G (some (tpI x)::e0) ifs s=.e (f x) s)(i:(newList m (tps (L.filter f)) s).post P):(evE Φ G env (.q m N fr (.e 0) (.a 0) it ifs) s).post P:=by
 refine VC (λe=>∃o,e=o::e0) (λv=>if f (unI v) then [v] else []) (tps L) (s1:=s) g ⟨none,j⟩ ?_ (by rw[fT];exact i)
 rintro v c e ⟨o,rfl⟩;obtain⟨x,b,rfl⟩:=AE.mp c;refine⟨_,rfl,⟨_,rfl⟩,?_⟩;show (yM Φ G (some (tpI x)::e0) ifs s).post _;rw[h x b,XT];refine zC.mpr ⟨rfl,?_⟩;cases f x with
 |true=>
  rw[if_pos rfl,if_pos rfl];exact wB.mpr ⟨_,rfl,rfl,rfl⟩
 |false=>rw[if_neg Aj,if_neg Aj]
def lP{f:List Int->Bool}(b:zx Φ G env it s=.e ⟨tps L,none⟩ s)(c:zL fr env=none::e0)(h:∀x∈L,yM Φ G (some (tpI x)::e0) ifs s=.e (f x) s):evE Φ G env (.q false N fr (.e 0) (.a 0) it ifs) s=.e (.g (tps (L.filter f))) s:=post_eq.mpr (S2 b c h (zC.mpr ⟨rfl,rfl⟩))
def X7(h:vs.length+ws.length<=zP):yT .c (.j s.length) [.g ws] (s++[.c vs])=.e .h (s++[.c (vs++ws)]):=by
 have e:(s++[Cel.c vs])[s.length]?=some (.c vs):=by simp
 simp only[yT,e,z0];rw[if_pos h];unfold upd;rw[List.set_append_right _ _ (Ad _),Eu];rfl
def Y1(h:evE Φ G env e s=.e v s1)(k:(zU Φ G env cs s1).post P):(zU Φ G env (.e (.g e) cs) s).post P:=zV.mpr (pY.mpr (by rw[h];exact zC.mpr k))
def R4(b:evE Φ G env o s=.e x s1)(a:yf Φ G env es s1=.e vs s2)(h:yT f x vs s2=r):evE Φ G env (.J f m o es) s=r:=bnd b (bnd a h)
def S0(c:vQ Φ)(z:lQ Φ)(h:zK zs)(l:Far zs N)(y:(zU Φ G [some (tpI zs),some (.j s.length),some (.g [])] cs (s++[.c (tps (w6 zs N))])).post P) :
 (zU Φ G [some (tpI zs),some (.j s.length),some (.g [.f []])] (.e (.m (.a (.e 2)) (.e (.g (.J .c false (.e 1) (.a (.q false N1 [none,some 0] (.e 0) (.a 0) (.d (.e 2)) (.b (.b (.a (.g "followers" 0 (.a (.e 1) (.a (.e 0) .b))))) .a)) .b))) (.e (.f 2 (.g "grown" 0 (.a (.e 0) (.a (.e 2) .b)))) .f))) cs) (s++[.c []])).post P:=by
 refine zV.mpr (m6 N (λk e o=>∃m,m+k=N/\e=[some (tpI zs),some (.j s.length),some (.g (tps (zN zs [[]] m)))]/\o=s++[.c (tps (w6 zs m))]) (by have:=l.c;unfold qW;omega) ⟨0,⋯,rfl,rfl⟩ ?_)
 rintro k e o ⟨m,B,rfl,rfl⟩;rw[zi (zB rfl) lN];refine zC.mpr ?_;cases k with
 |zero=>
  have:m=N:=by omega
  subst this;rw[l.a];exact y
 |succ k=>
  have n:=l.d m ⋯
  have t:(!(tps (zN zs [[]] m)).isEmpty)=true:=by
   cases hL:zN zs [[]] m with
   |nil=>exact absurd hL n
   |cons _ _=>rfl
  rw[t,if_pos rfl];have v:m<=18:=by have:=l.c;omega
  have A:=ae h m;have w:=h.b m;have u:=EC (xW zs) (zN zs [[]] m);refine Y1 (R4 (zB rfl) (zA (lP (f:=xW zs) (e0:=[some (tpI zs)]) (yV (zB rfl) rfl) rfl (λx r=>tu ?_)) zD) (X7 (by rw[Ac,Ac];unfold zP;omega))) ?_
  . have p:=(uh h m x r).1
    have:=sk (zi (x_call (zA (zB (env:=[some (tpI x),some (tpI zs)]) (G:=G) (i:=1) rfl) (zA (zB (i:=0) rfl) zD)) (z zs x (s++[.c (tps (w6 zs m))]) h.a ⋯)) gO)
    rw[kI ⋯,Bool.not_not]at this
    exact this
  rw[<-Dc,<-nC];refine yd (x_call (zA (zB rfl) (zA (zB rfl) zD)) (c zs (zN zs [[]] m) _ h.a (vH h m) (qr h (m+1)))) (wU ?_);exact⟨k,⋯,m+1,⋯,rfl,rfl⟩
abbrev uw(z:List Int)(N:Nat):List (List Int):=jW (w6 z N)
def vo(z x:List Int):Bool:=xW z x.reverse
def nu(Φ:Calls):Prop:=∀(z:List Int) (N:Nat) (s:Sto),zK z->Far z N->Φ "ends" 0 [tpI z] s=.e (.g (tps (uw z N))) s
def br(Φ:Calls):Prop:=∀(z:List Int) (N:Nat) (s:Sto),zK z->Far z N->Φ "shut_ends" 0 [tpI z] s=.e (.g (tps ((uw z N).filter (vo z)))) s
def ab(h:zK zs)(b:x∈uw zs N):x.length<18/\∀i∈x,0<=i/\i<4:=by have b:=(kF ((pz _).mem_iff.mp b)).1;obtain⟨g,j,_,c⟩:=Xj h b;refine⟨g,λi f=>?_⟩;have:=kM c i f;have:=h.a.2.1;omega
def SW(f:gj Φ)(h:zK zs):∀x∈uw zs N,yM Φ G (some (tpI x)::some (tpI zs)::e1) (.b (.b (.a (.g "leaders" 0 (.a (.e 1) (.a (.e 0) .b))))) .a) s=.e (vo zs x) s:=λx c=>tu (by
 have j:=(ab h c).1;have:=sk (zi (x_call (zA (zB (env:=some (tpI x)::some (tpI zs)::e1) (G:=G) (i:=1) rfl) (zA (zB (i:=0) rfl) zD)) (f zs x s h.a ⋯)) gO)
 rw[kI (by rw[Cr];omega),Bool.not_not]at this
 exact this)
end
def bO(h:zK zs)(c:z0 s x=some (tps (w6 zs N))):blt .b m [x] s=newList m (tps (uw zs N)) s:=gI c (iF h N) (.inr (X3 h.a))
def Zm:z0 (s++[.c vs]) (.j s.length)=some vs:=by simp[z0]
def kB s(h:v.isD=true):yh s v=v:=by
 cases v with
 |j i=>rw[Val.isD]at h;cases h
 |_=>rfl
def Xw s(h:v.isD=true):zy s v=v:=by
 cases v with
 |f vs=>
  rw[Val.isD]at h;show Val.f (vs.map (yh s))=_;rw[BG (f:=yh s) (g:=id) λw a=>kB s (vF h a),List.map_id]
 |_=>exact kB s h
def ne_self(h:v.isD=true)(c:v.d.depth<=60)(f:∀x,v≠.m x)(a:zy s v=v):zO .b v v s=.e (.e false) s:=by
 have e:qm v v=some true:=by unfold qm;rw[h,decide_eq_true c,SeqAt.eqv_refl _ (zj h)];rfl
 cases v with
 |m x=>exact absurd rfl (f x)
 |_=>simp only[zO,a,e];rfl
theorem qj:∀e:List Int,CH (ds (e.map Val.c))=0
 |[]=>by rw[Er,ds,CH]
 |n::e=>by rw[AG,ds,CH,qj e,Val.d,Dw];rfl
def Ro ns:(tpI ns).isD=true/\(tpI ns).d.depth<=1:=by
 refine⟨by rw[Val.isD];exact vE ns,?_⟩
 rw[show (tpI ns).d=.tuple (ds (ns.map .c)) by rw[Val.d],Dw,qj]
 exact Ad _
def Q3:zO .b (tpI ns) (tpI ns) s=.e (.e false) s:=ne_self (Ro ns).1 (by have:=(Ro ns).2;omega) nofun (Xw s (Ro ns).1)
noncomputable def cX(z:List Int)(o:List Nat):List Int:=(Ag z.length).map λh=>z.getD (o.idxOf h) 0
noncomputable def apO(o:List Nat)(i:Int):Int:=((o.getD i.toNat 0:Nat):Int)
def W9 zs os:(cX zs os).length=zs.length:=by unfold cX;rw[Ac,AQ]
def Ws{o:List Nat}(h:o.Nodup):o.map (λx=>o.idxOf x)=Ag o.length:=by
 apply DV
 . simp
 . intro i b a
   rw[HC,h.idxOf_getElem,GO]
def range_getD(z:List Int):(Ag z.length).map (λh=>z.getD h 0)=z:=by
 apply DV
 . simp
 . intro i b a
   rw[HC,GO,Aa,dS a];rfl
structure Od(k:Nat)(os:List Nat):Prop where
 nd:os.Nodup
 b:os.length=k
 lt:∀x∈os,x<k
 ix:∀h,h<k->os.idxOf h<k/\os[os.idxOf h]?=some h
 c:∀(a h:Nat),os[a]?=some h->os.idxOf h=a
def nN{os}(p:os.Perm (Ag k)):Od k os:=by
 have n:os.Nodup:=p.nodup_iff.mpr B5;have g:os.length=k:=by rw[p.length_eq,AQ]
 refine⟨n,g,λx c=>Ah.mp (p.mem_iff.mp c),λh i=>?_,λa h e=>?_⟩
 . have f:h∈os:=p.mem_iff.mpr (Ah.mpr i)
   have b:=List.idxOf_lt_length_iff.mpr f;exact⟨⋯,by rw[dS b,D9]⟩
 . obtain⟨b,rfl⟩:=Ar.mp e
   exact n.idxOf_getElem a b
def Fit.TK{os}(o:Fit zs ns)(p:os.Perm (Ag zs.length)):Fit (cX zs os) (ns.map (apO os)):=by
 have O:=nN p;have q:=W9 zs os;have g:∀i∈ns,∃a:Nat,i=(a:Int)/\a<zs.length/\∃h,os[a]?=some h/\h<zs.length/\apO os i=(h:Int):=λi l=>by
  have:=o.b i l;obtain⟨a,rfl⟩:∃a:Nat,i=a:=⟨i.toNat,⋯⟩
  have j:a<os.length:=by rw[O.b];omega
  refine⟨a,rfl,⋯,os[a],dS j,O.lt _ (Bv j),?_⟩
  unfold apO;rw[Bx,Aa,dS j];rfl
 refine⟨λx z=>?_,λh f d m A t s=>?_⟩
 . obtain⟨i,l,rfl⟩:=AE.mp z
   obtain⟨a,rfl,j,h,_,E,e⟩:=g i l;rw[e,q];omega
 . rw[q]at m
   obtain⟨y,D⟩:=O.ix h m;have n:za (cX zs os) h=za zs (os.idxOf h):=by unfold za cX;rw[Aa,An,CJ m];rfl
   rw[n,Ac]at t;rw[n]at s;refine o.c (os.idxOf h) f d y A t (yj.mpr λk u=>?_);have:=yj.mp s k u;rw[An]at this;obtain⟨i,r,w⟩:=AB.mp this;obtain⟨a,rfl,j,v,C,_,B⟩:=g i (AD r);rw[B]at w;obtain rfl:v=h:=by omega
   rw[r,O.c a v C]
end M
end
section
namespace F14
open PySem M
noncomputable def tE:Fn:=⟨["strip"],["strip"],false,(.e (.g (.g "need_strip" 0 (.a (.e 0) .b))) (.e (.d (.F false (.e 0) .b .b (.a (.C (.h (.c 1)))))) .f))⟩
end F14
end
section
namespace M
open PySem
def Sd ns:(tpI ns).noRef=true:=yA ns
section
variable {T:Tbl}{Φ:Calls}{s:Sto}
def bh(Φ:Calls):Prop:=∀(z ns:List Int) (s:Sto),Sz z->Fit z ns->ns.length<=40->Φ "backward" 0 [tpI ns] s=.e (tpI ns.reverse) s
def Y5(a:ns.length<41):wu false (tpI ns) none none (some (-1)) s=.e (tpI ns.reverse) s:=by
 have b:∀n:Nat,n<41->(L2.yI n none none (-1)).2<=zP:=by
  have h:∀n:Nat,n<41->(L2.yI n none none (-1)).2<=41:=by decide +kernel
  intro n a;exact Au (h n a) (by decide)
 have e:wu false (tpI ns) none none (some (-1)) s=.e (.f (L2.zl (ns.map .c) (L2.yI ns.length none none (-1)).1 (-1) (L2.yI ns.length none none (-1)).2)) s:=by simp only[wu];rw[Ac,if_pos ⟨by decide,b _ a⟩]
 rw[e,<-jB a];show Out.e (Val.f _) s=.e (Val.f _) s;unfold L2.zl;rw[List.map_filterMap];simp only[An]
def Yg(c:u7 Φ)(h:Sz zs)(f:Fit zs ns)(a:ns.length<=40):run T Φ F14.tE [tpI ns] s=.e (tpI ns.reverse) s:=by rw[post_eq,F14.tE,yF];refine⟨rfl,?_⟩;show (zU Φ T.b [some (tpI ns)] _ s).post _;exact xp (x_call (zA (zB rfl) zD) (c zs ns s h f a)) (yB (gc (zB rfl) pU pU (u4 (Xa zb)) (Y5 ⋯)) (zw (Sd _)))
end
end M
end
section
namespace F46
open PySem M
noncomputable def vS:Fn:=⟨["sizes","strip"],["sizes","strip"],false,(.e (.g (.g "need_fit" 0 (.a (.e 0) (.a (.e 1) .b)))) (.e (.d (.j .a false (.a (.g "alike_to" 0 (.a (.e 0) (.a (.e 1) .b))) .b))) .f))⟩
noncomputable def vx:Fn:=⟨["sizes","one","other"],["sizes","one","other"],false,(.e (.g (.g "need_fit" 0 (.a (.e 0) (.a (.e 1) .b)))) (.e (.g (.g "need_fit" 0 (.a (.e 0) (.a (.e 2) .b)))) (.e (.d (.k .h (.e 2) (.g "alike_to" 0 (.a (.e 0) (.a (.e 1) .b))))) .f)))⟩
noncomputable def s9:Fn:=⟨["sizes","strip"],["sizes","strip"],false,(.e (.g (.g "need_fit" 0 (.a (.e 0) (.a (.e 1) .b)))) (.e (.d (.u (.g "alike_to" 0 (.a (.e 0) (.a (.e 1) .b))) (.h (.c 0)))) .f))⟩
end F46
end
section
namespace F13
open PySem M
noncomputable def v7:Fn:=⟨["sizes"],["sizes"],false,(.e (.d (.q false ["strip","sizes"] [none,some 0] (.e 0) (.a 0) (.d (.g "ends" 0 (.a (.e 0) .b))) (.b (.b (.a (.g "leaders" 0 (.a (.e 1) (.a (.e 0) .b))))) .a))) .f)⟩
end F13
end
section
namespace M
open PySem
noncomputable def gZ(z:List Int)(h:Nat):Int:=z.getD h 0
def exM(a:List Int)(z:Int)(w:List Nat):List Nat:=(Ag a.length).filter λh=>decide (gZ a h=z)&&!decide (h∈w)
def exG(a:List Int)(z:Int)(L:List (List Nat)):List (List Nat):=L.flatMap λw=>(exM a z w).map λh=>w++[h]
def exF(a:List Int):List Int->List (List Nat)->List (List Nat)
 |[],L=>L
 |z::r,L=>exF a r (exG a z L)
def exL(z:List Int):List (List Nat):=exF z z [[]]
structure Ons(zs:List Int)(w:List Nat)(r:List Int)(t:List Nat):Prop where
 a:∀x∈t,x<zs.length/\x ∉ w
 b:t.map (gZ zs)=r
 c:t.Nodup
def sQ:h∈exM zs z w↔h<zs.length/\gZ zs h=z/\h ∉ w:=by unfold exM;rw[BM,Ah,ub,decide_eq_true_eq,BE,decide_eq_false_iff_not]
theorem ft:∀{r} {L} {w},w∈exF zs r L↔∃d∈L,∃t,w=d++t/\Ons zs d r t
 |[],L,w=>by
  unfold exF;constructor
  . exact λh=>⟨w,h,[],(A5 _).symm,⟨nofun,rfl,.nil⟩⟩
  . rintro ⟨d,h,t,rfl,o⟩
    have:=List.map_eq_nil_iff.mp o.b;subst this
    rwa [A5]
 |z::r,L,w=>by
  unfold exF;rw[ft];constructor
  . rintro ⟨q,i,t,rfl,o⟩
    obtain⟨d,j,i⟩:=B6.mp i;obtain⟨h,p,rfl⟩:=AE.mp i;obtain⟨m,l,k⟩:=sQ.mp p;refine⟨d,j,h::t,by rw[Aq];rfl,⟨λx f=>?_,by rw[AG,l,o.b],Bm.mpr ⟨λg=>(o.a h g).2 (AY _ (.head _)),o.c⟩⟩⟩
    rcases Ao.mp f with rfl|f
    . exact⟨m,k⟩
    . exact⟨(o.a x f).1,λg=>(o.a x f).2 (Bp _ g)⟩
  . rintro ⟨d,j,t,rfl,o⟩
    match t,o with
    |[],o=>cases o.b
    |h::t,o=>
     have e:=o.b;rw[AG,HY]at e;have n:=Bm.mp o.c;refine⟨d++[h],B6.mpr ⟨d,j,AE.mpr ⟨h,sQ.mpr ⟨(o.a h (.head _)).1,e.1,(o.a h (.head _)).2⟩,rfl⟩⟩,t,by rw[Aq];rfl,⟨λx f=>⟨(o.a x (.tail _ f)).1,λg=>?_⟩,e.2,n.2⟩⟩
     rcases AS.mp g with g|g
     . exact(o.a x (.tail _ f)).2 g
     . rw[Al.mp g]at f;exact n.1 f
def fu:w∈exL zs↔(∀x∈w,x<zs.length)/\w.map (gZ zs)=zs/\w.Nodup:=by
 unfold exL;rw[ft];constructor
 . rintro ⟨k,j,t,rfl,o⟩
   rw[Al.mp j];exact⟨λx h=>(o.a x h).1,o.b,o.c⟩
 . rintro ⟨i,g,f⟩
   exact⟨[],.head _,w,rfl,⟨λx h=>⟨i x h,nofun⟩,g,f⟩⟩
def i7{w:List Nat}(f:∀x∈w,x<n)(j:w.length=n)(c:w.Nodup):w.Perm (Ag n):=by
 refine(CO c B5).mpr λa=>⟨λh=>Ah.mpr (f a h),λh=>?_⟩;refine E4 λi=>?_;have g:(a::w).Nodup:=Bm.mpr ⟨i,c⟩;have:=g.length_le_of_subset (l₂:=Ag n) λx b=>by
  rcases Ao.mp b with rfl|b
  . exact h
  . exact Ah.mpr (f x b)
 rw[Ap,AQ]at this;omega
structure Exc(zs:List Int)(w:List Nat):Prop where
 c:w.Perm (Ag zs.length)
 d:w.map (gZ zs)=zs
def ai(h:w∈exL zs):Exc zs w:=by obtain⟨c,a,b⟩:=fu.mp h;exact⟨i7 c (by have:=congrArg Fw a;rwa [Ac]at this) b,a⟩
def Exc.mem(h:Exc zs w):w∈exL zs:=
 fu.mpr ⟨λx a=>Ah.mp (h.c.mem_iff.mp a),h.d,h.c.nodup_iff.mpr B5⟩
def jM zs:(Ag zs.length).map (gZ zs)=zs:=range_getD zs
def TJ zs:Exc zs (Ag zs.length):=⟨.refl _,jM zs⟩
noncomputable def bkO(w:List Nat):List Nat:=(Ag w.length).map λh=>w.idxOf h
def Exc.back(h:Exc zs w):Exc zs (bkO w)/\∀i<zs.length,(bkO w)[i]?=some (w.idxOf i):=by
 have O:=nN h.c;have n:=O.nd;have g:(bkO w).Perm (Ag zs.length):=by have:=h.c.symm.map λx=>w.idxOf x;rw[Ws n,O.b]at this;unfold bkO;rw[O.b];exact this
 refine⟨⟨g,?_⟩,λi f=>?_⟩
 . unfold bkO
   rw[O.b,A7];refine E8 (BG λi f=>?_) (jM zs);have f:=Ah.mp f;obtain⟨a,b⟩:=O.ix i f;have e:(w.map (gZ zs))[w.idxOf i]?=zs[w.idxOf i]?:=by rw[h.d]
   rw[An,b]at e;show gZ zs (w.idxOf i)=gZ zs i;unfold gZ at *;rw[Aa,<-e];rfl
 . unfold bkO
   rw[An,O.b,CJ f];rfl
def b8{a h:Nat}(e:w[a]?=some h):apO w (a:Int)=h:=by unfold apO;rw[Bx,Aa,e];rfl
def Exc.ap(h:Exc zs w){i:Int}(j:0<=i)(g:i<zs.length):∃a b:Nat,i=a/\w[a]?=some b/\b<zs.length/\apO w i=b:=by
 have O:=nN h.c;obtain⟨a,rfl⟩:∃a:Nat,i=a:=⟨i.toNat,⋯⟩
 have f:a<w.length:=by rw[O.b];omega
 exact⟨a,w[a],rfl,dS f,O.lt _ (Bv f),b8 (dS f)⟩
def Exc.there(h:Exc zs w){x:List Int}(f:∀i∈x,0<=i/\i<zs.length):(x.map (apO w)).map (apO (bkO w))=x:=by rw[A7];refine E8 (BG λi g=>?_) (List.map_id _);obtain⟨a,b,rfl,e,j,k⟩:=h.ap (f i g).1 (f i g).2;show apO (bkO w) (apO w a)=a;rw[k,b8 (h.back.2 b j),(nN h.c).c a b e]
def Exc.oth(h:Exc zs w):cX zs w=zs:=by have:=h.back.1.d;unfold bkO at this;rw[(nN h.c).b,A7]at this;exact this
def Exc.fit(h:Exc zs w)(a:Fit zs x):Fit zs (x.map (apO w)):=by
 have:=a.TK h.c
 rwa [h.oth]at this
def alV(z x:List Int):List (List Int):=(exL z).flatMap λw=>[x.map (apO w),x.reverse.map (apO w)]
def alS(z x:List Int):List (List Int):=L2.zm (nub (alV z x))
def fq:y∈alV zs x↔∃w,Exc zs w/\(y=x.map (apO w)\/y=x.reverse.map (apO w)):=by
 unfold alV;rw[B6];constructor
 . rintro ⟨w,a,h⟩
   simp only[Ao,Cy,or_false]at h;exact⟨w,ai a,h⟩
 . rintro ⟨w,a,h⟩
   exact⟨w,a.mem,by simpa using h⟩
def xS:y∈alS zs x↔∃w,Exc zs w/\(y=x.map (apO w)\/y=x.reverse.map (apO w)):=by unfold alS;rw[(L2.zS _).mem_iff,y9,fq]
def bz(c:Sz zs)(b:Fit zs x)(h:y∈alS zs x):Fit zs y/\y.length=x.length:=by
 obtain⟨w,a,rfl|rfl⟩:=xS.mp h
 . exact⟨a.fit b,Ac _⟩
 . exact⟨a.fit (b.rev c),by rw[Ac,Cr]⟩
def mC(b:∀i∈x,0<=i/\i<(zs.length:Int))(h:y∈alS zs x):x∈alS zs y:=by
 obtain⟨w,a,e⟩:=xS.mp h;refine xS.mpr ⟨bkO w,a.back.1,?_⟩;rcases e with rfl|rfl
 . exact .inl (a.there b).symm
 . right
   rw[<-FQ,DO];exact(a.there b).symm
def mB(h:∀i∈x,0<=i/\i<(zs.length:Int)):x∈alS zs x:=by
 refine xS.mpr ⟨_,TJ zs,.inl (Eq.symm ?_)⟩;refine E8 (BG λi b=>?_) (List.map_id _);obtain⟨a,rfl⟩:∃a:Nat,i=a:=⟨i.toNat,by have:=h i b;omega⟩
 exact b8 (CJ (by have:=h _ b;omega))
noncomputable def X9:Nat->Nat
 |0=>1
 |n+1=>(n+1)*X9 n
theorem fQ:∀{r} {L},(∀w∈L,w.Nodup/\(∀x∈w,x<zs.length)/\w.length+r.length=zs.length)->(exF zs r L).length<=L.length*X9 r.length
 |[],L,_=>by unfold exF;rw[Cf,X9,Nat.mul_one];exact Ad _
 |z::r,L,h=>by
  unfold exF;have u:∀w∈exG zs z L,w.Nodup/\(∀x∈w,x<zs.length)/\w.length+r.length=zs.length:=λw i=>by
   obtain⟨l,q,i⟩:=B6.mp i;obtain⟨k,o,rfl⟩:=AE.mp i;obtain⟨a,b,c⟩:=sQ.mp o;obtain⟨d,e,f⟩:=h l q;refine⟨El.mpr ⟨d,Bm.mpr ⟨nofun,.nil⟩,λx g y j e=>c ?_⟩,λx g=>?_,by rw[Aw,BF];rw[Ap]at f;omega⟩
   . rw[Al.mp j]at e;rwa [<-e]
   . rcases AS.mp g with g|g
     . exact e x g
     . rw[Al.mp g];exact a
  refine Au (fQ u) ?_;have p:(exG zs z L).length<=L.length*(r.length+1):=by
   clear u;unfold exG;induction L with
   |nil=>exact AV _
   |cons w L m=>
    rw[Cc,Aw,Ac,Ap,Nat.succ_mul,Hm];refine Ii (m λw i=>h w (.tail _ i)) ?_;obtain⟨d,e,f⟩:=h w (.head _);have n:(exM zs z w++w).Nodup:=El.mpr ⟨B5.filter _,d,λx g y j e=>(sQ.mp g).2.2 (e▸j)⟩;have:=n.length_le_of_subset (l₂:=Ag zs.length) λx g=>by
     rcases AS.mp g with g|g
     . exact Ah.mpr (sQ.mp g).1
     . exact Ah.mpr (e x g)
    rw[Aw,AQ]at this;rw[Ap]at f;omega
  rw[Ap,X9,<-Nat.mul_assoc];exact ES _ p
def X6(a:zs.length<=4):(exL zs).length<=24:=by
 refine Au (fQ (L:=[[]]) λw h=>?_) ?_
 . rw[Al.mp h];exact⟨.nil,nofun,BS _⟩
 . rw[BF,Nat.one_mul]
   have:zs.length=0\/zs.length=1\/zs.length=2\/zs.length=3\/zs.length=4:=by omega
   rcases this with e|e|e|e|e<;>rw[e]<;>decide
def gr(a:zs.length<=4):(alV zs x).length<=48:=by
 have h:=X6 a;have e:∀L:List (List Nat),(L.flatMap λw=>[x.map (apO w),x.reverse.map (apO w)]).length=L.length*2:=λL=>by
  induction L with
  |nil=>rfl
  |cons w L i=>rw[Cc,Aw,i];show 2+_=(L.length+1)*2;omega
 unfold alV;rw[e];omega
theorem qN:∀l:List (List Int),(nub l).length<=l.length
 |[]=>Ad _
 |z::l=>by
  have:=qN l;unfold nub;split
  . rw[Ap];omega
  . rw[Ap,Ap];omega
def Xi(h:zs.length<=4):(alS zs x).length<=48:=by unfold alS;rw[(L2.zS _).length_eq];exact Au (qN _) (gr h)
end M
end
section
namespace F44
open PySem M
noncomputable def u9:Fn:=⟨["sizes","strip","ways"],["sizes","strip"],false,(.e (.f 2 (.g "exchanges" 0 (.a (.e 0) .b))) (.e (.d (.A false ["way","hues","strip"] [none,none,some 1] (.j .d false (.a (.q false ["hue","way"] [none,some 0] (.u (.e 1) (.e 0)) (.a 0) (.d (.e 1)) .a) .b)) (.a 0) (.d (.e 2)) .a (.a 1) (.d (.p (.a (.e 2) (.a (.F false (.e 2) .b .b (.a (.C (.h (.c 1))))) .b)))) .a)) .f))⟩
noncomputable def vz:Fn:=⟨["sizes","hues","ways","size"],["sizes"],false,(.e (.f 1 (.r false (.h (.c 0)) (.j .a false (.a (.e 0) .b)) (.h (.c 1)))) (.e (.f 2 (.w false (.a (.p .b) .b))) (.e (.l (.a 3) (.d (.e 0)) (.e (.f 2 (.y false ["way","hue","hues","size","sizes"] [none,none,some 1,some 3,some 0] (.l false .a (.e 0) (.p (.a (.e 1) .b))) (.a 0) (.d (.e 2)) .a (.a 1) (.d (.e 2)) (.b (.d (.a (.k .d (.u (.e 4) (.e 1)) (.e 3))) (.b (.a (.k .a (.e 1) (.e 0))) .a)) .a))) .f)) (.e (.d (.e 2)) .f))))⟩
end F44
end
section
namespace M
open PySem
def Xb{i j:Type}{x:List i}{f}{ys:i->List j}{f2:i->j->Val}{g:i->j->List Val}(I:Env->Prop)(J:i->Env->Prop)(n:zx Φ G env it s=.e ⟨x.map f,none⟩ s1)(r:I (zL fr env))
 (h:∀a∈x,∀e,I e->∃d,yC t (f a) e=some d/\zx Φ G d it2 s1=.e ⟨(ys a).map (f2 a),none⟩ s1/\J a d) (p:∀a e,J a e->I e)
 (q:∀a∈x,∀b∈ys a,∀e,J a e->∃d,yC t2 (f2 a b) e=some d/\J a d/\∃c,yM Φ G d ifs2 s1=.e c s1/\if c=true then ∃v,evE Φ G d elt s1=.e v s1/\g a b=[v] else g a b=[]) (l:vO m (x.flatMap λa=>(ys a).flatMap (g a)) s1=o) :
 evE Φ G env (.A m N fr elt t it .a t2 it2 ifs2) s=o:=by
 obtain⟨y,k⟩:=Zk h p q r;show (zx Φ G env it s).bind _=_;rw[n,zJ];exact bnd k l
def Vz{b:Type}{x:List b}{f}{g}(I:Env->Prop)(j:zx Φ G env it s=.e ⟨x.map f,none⟩ s1)(l:I (zL fr env))
 (h:∀a∈x,∀e,I e->∃d,yC t (f a) e=some d/\I d/\∃c,yM Φ G d ifs s1=.e c s1/\if c=true then ∃v,evE Φ G d elt s1=.e v s1/\g a=[v] else g a=[]) (i:vO m (x.flatMap g) s1=o) :
 evE Φ G env (.B m N fr elt t it ifs) s=o:=by
 obtain⟨n,_,k⟩:=iU h (acc:=[]) l;show (zx Φ G env it s).bind _=_;rw[j,zJ];exact bnd k i
def nW(f:L.length<306)(c:(nub L).length<2\/∀z∈L,z≠[]):vO m (tps L) s=newList m (tps (L2.zm (nub L))) s:=by
 have b:(nub L).length<306:=Eb (qN L) f;have e:setOk (tps L)=some (nub L):=by unfold setOk;rw[oC];exact if_pos b
 unfold vO;rw[e];refine(if_pos (c.imp id λh z a=>h z (y9.mp a))).trans ?_;congr 1
theorem UE:∀a b:List Int,FG (a.map EO) (b.map EO)=decide (a=b)
 |[],[]=>by simp[FG]
 |[],_::_=>by simp[FG]
 |_::_,[]=>by simp[FG]
 |x::a,y::b=>by rw[AG,AG,FG,UE a b,mN,BN,ub,decide_eq_true_eq,decide_eq_true_eq,decide_eq_true_eq,HY]
def aM ns:(tpI ns).d=.tuple (ns.map EO):=by rw[Val.d,qD]
def Xk:(tps L).any (λz=>Cb z.d (tpI x).d)=decide (x∈L):=by
 have e:∀a b:List Int,Cb (tpI a).d (tpI b).d=decide (a=b):=λa b=>by rw[aM,aM,Cb];exact UE a b
 unfold tps;rw[BN,List.any_map,CP,decide_eq_true_eq];constructor
 . rintro ⟨y,c,h⟩
   have h:Cb (tpI y).d (tpI x).d=true:=h;rw[e,decide_eq_true_eq]at h
   rwa [<-h]
 . intro h
   exact⟨x,h,by show Cb (tpI x).d (tpI x).d=true;rw[e,decide_eq_true rfl]⟩
theorem iE:∀d:List Int,CH (d.map EO)=0
 |[]=>rfl
 |n::d=>by rw[AG,CH,iE d,Dw];rfl
def WJ:inD (tpI x) (tps L)=true:=by
 have h:(tpI x).d.depth<=60:=by rw[aM,Dw,iE];decide
 unfold inD;rw[show (tpI x).isD=true by rw[Val.isD];exact vE x,pC,decide_eq_true h];rfl
def q8:zO .h (tpI x) (.g (tps L)) s=.e (.e (decide (x∈L))) s/\zO .a (tpI x) (.g (tps L)) s=.e (.e !(decide (x∈L))) s:=by have b:flat (tpI x)=false:=rfl;simp only[zO,xB,b,WJ,Xk];exact⟨rfl,rfl⟩
def Wu{p:Nat}:zO .a (.c (p:Int)) (yE hs) s=.e (.e !decide (p∈hs)) s:=by
 have e:(hs.map λ(k:Nat)=>Val.c k).any (λz=>eqF z (.c (p:Int)))=decide (p∈hs):=by
  rw[List.any_map];induction hs with
  |nil=>rfl
  |cons h hs i=>
   rw[DZ,i];show (((h:Int) == (p:Int))||_)=_
   by_cases hh:p=h
   . subst hh;simp
   . have:¬(h:Int)=(p:Int):=by omega
     simp[hh,this]
 have f:(hs.map λ(k:Nat)=>Val.c k).all flat=true:=AZ.mpr λv b=>by obtain⟨k,_,rfl⟩:=AE.mp b;rfl
 show (if flat (.c (p:Int))&&(hs.map λ(k:Nat)=>Val.c k).all flat then Out.e (Val.e !((hs.map λ(k:Nat)=>Val.c k).any λz=>eqF z (.c (p:Int)))) s else _)=_
 rw[if_pos (by rw[f];rfl),e]
def Ov{n:Nat}(a:1<=n)(h:n<=4):Wq false (.c 0) (.c n) (.c 1) s=.e (.g ((Ag n).map λ(k:Nat)=>Val.c k)) s:=by
 have:n=1\/n=2\/n=3\/n=4:=by omega
 rcases this with rfl|rfl|rfl|rfl<;>rfl
def bw{h:Nat}(b:w.length<=100):binOp false .a (yE w) (.f [.c h]) s=.e (yE (w++[h])) s:=by show binOp false .a (.f (w.map λ(k:Nat)=>Val.c k)) (.f [.c h]) s=.e (.f ((w++[h]).map λ(k:Nat)=>Val.c k)) s;rw[Dc];exact n9 (by rw[Ac];unfold zP;simp;omega)
def fR zs z L:(L.flatMap λw=>(Ag zs.length).flatMap λh=>if (decide (gZ zs h=z)&&!decide (h∈w))=true then [yE (w++[h])] else [])=(exG zs z L).map yE:=by unfold exG;rw[HB];congr 1;funext w;rw[fU (λh=>decide (gZ zs h=z)&&!decide (h∈w)) (λh=>yE (w++[h]))];unfold exM;rw[A7];rfl
def X5(h:∀w∈L,w.length=n):∀w∈exG zs z L,w.length=n+1:=λw a=>by obtain⟨v,b,a⟩:=B6.mp a;obtain⟨k,_,rfl⟩:=AE.mp a;rw[Aw,h v b];rfl
def TH(h:zs.length<=4):(exG zs z L).length<=4*L.length:=by
 unfold exG;induction L with
 |nil=>exact AV _
 |cons w L i=>
  rw[Cc,Aw,Ac,Ap];have:(exM zs z w).length<=zs.length:=Au (EC _ _) (by rw[AQ];exact Ad _)
  omega
structure Gr4(zs:List Int)(k:Nat)(L:List (List Nat)):Prop where
 b:∀w∈L,w.length=k
 a:L.length<=4 ^ k
def Gr4.next(c:zs.length<=4)(h:Gr4 zs k L):Gr4 zs (k+1) (exG zs z L):=
 ⟨X5 h.b,Au (TH c) (by rw[Nat.pow_succ,BR];exact ES _ h.a)⟩
def Gr4.line(h:Gr4 zs k L)(b:k<=5):L.length<=2000:=Au h.a (Au (Nat.pow_le_pow_right (by decide) b) (by decide))
section
variable {T:Tbl}{Φ:Calls}{s:Sto}
def bp(Φ:Calls):Prop:=∀(z:List Int) (s:Sto),Sz z->Φ "exchanges" 0 [tpI z] s=.e (.g ((exL z).map yE)) s
def QX(a:h<zs.length):zs[h]?=some (gZ zs h):=by unfold gZ;rw[Aa,dS a];rfl
def Wv(L:List (List Nat)):(Val.g (L.map yE)).noRef=true:=by
 have e:L.map yE=tps (L.map λw=>w.map λ(k:Nat)=>(k:Int)):=by unfold tps;rw[A7];exact BG λw _=>qI w
 rw[tW,e];exact yc _
def bG(d:Sz zs):run T Φ F44.vz [tpI zs] s=.e (.g ((exL zs).map yE)) s:=by
 have A:∀n,n<100->n<=zP:=λn h=>by unfold zP;omega
 have t:=d.1;have l:=d.2.1;rw[post_eq,F44.vz,yF];refine⟨rfl,?_⟩;show (zU Φ T.b [some (tpI zs),none,none,none] _ s).post _;refine yd (v:=.g ((Ag zs.length).map λ(k:Nat)=>Val.c k)) (bnd (zb) (bnd (wH rfl) (bnd zb (Ov t l)))) ?_;refine yd (v:=.g (([[]]:List (List Nat)).map yE)) (jo (zA (uc zD (A 0 ⋯)) zD) (A 1 ⋯)) ?_
 refine zV.mpr (wA (λi e q=>s=q/\∃r L k o,i=r.map Val.c/\e=[some (tpI zs),some (.g ((Ag zs.length).map λ(k:Nat)=>Val.c k)),some (.g (L.map yE)),o]/\exF zs r L=exL zs/\Gr4 zs k L/\k+r.length=zs.length) (zs.map .c) (s1:=s) (yV (zB rfl) rfl) ⟨rfl,zs,[[]],0,_,rfl,rfl,rfl,⟨λw p=>by rw[Al.mp p];rfl,Ad _⟩,⋯⟩ ?_ ?_)
 . rintro x i e q ⟨rfl,r,L,k,o,j,rfl,m,g,u⟩
   match r,j with
   |[],j=>cases j
   |z::r,j=>
    rw[AG,HY]at j;obtain⟨rfl,rfl⟩:=j;rw[Ap]at u;refine⟨_,rfl,?_⟩;have B:=g.next (z:=z) l;refine yd (v:=.g ((exG zs z L).map yE)) ?_ (wU ⟨rfl,r,_,k+1,_,rfl,rfl,m,B,⋯⟩)
    rw[<-fR];refine jn (f:=yE) (ys:=λ_=>Ag zs.length) (f2:=λ_ h=>Val.c (h:Nat)) (λe=>∃a b,e=[a,b,some (.g ((Ag zs.length).map λ(k:Nat)=>Val.c k)),some (.c z),some (tpI zs)]) (λw e=>∃b,e=[some (yE w),b,some (.g ((Ag zs.length).map λ(k:Nat)=>Val.c k)),some (.c z),some (tpI zs)]) (yV (zB rfl) rfl) ⟨none,none,rfl⟩ ?_ ?_ ?_ ?_
    . rintro w p e ⟨a,b,rfl⟩
      exact⟨_,rfl,yV (zB rfl) rfl,b,rfl⟩
    . rintro w e ⟨b,rfl⟩;exact⟨_,_,rfl⟩
    . rintro w p h y e ⟨b,rfl⟩
      have y:=Ah.mp y;refine⟨_,rfl,⟨_,rfl⟩,decide (gZ zs h=z)&&!decide (h∈w),tu (Rj (zi (z8 (vv (zB rfl) (zB rfl) (pF (QX y))) (zB rfl) eq_int) zR) (zi (z8 (zB rfl) (zB rfl) Wu) zR)),?_⟩;cases decide (gZ zs h=z)&&!decide (h∈w) with
      |true=>
       rw[if_pos rfl,if_pos rfl];exact⟨_,ye (zB rfl) (uc (zA (zB rfl) zD) (A 1 ⋯)) (bw (by rw[g.b w p];omega)),rfl⟩
      |false=>rw[if_neg Aj,if_neg Aj]
    . rw[fR,Ac]
      have:=B.line ⋯
      unfold zP;omega
 . rintro e q ⟨rfl,r,L,k,o,j,rfl,m,g,u⟩
   have:r=[]:=by cases r with|nil=>rfl|cons _ _=>cases j
   subst this;have m:L=exL zs:=m;subst m;refine yB (zB rfl) ?_;show (zh false s _ s).post _;rw[zq (Wv _)];exact zC.mpr ⟨rfl,rfl⟩
def R5(m:Exc zs w)(h:∀i∈x,0<=i/\i<(zs.length:Int))(p:env[i]?=some (some (yE w)))(n:env[j]?=some (some (tpI x))) :
 evE Φ G env (.j .d false (.a (.q false N [none,some i] (.u (.e 1) (.e 0)) (.a 0) (.d (.e j)) .a) .b)) s=.e (tpI (x.map (apO w))) s:=by
 have r:zL [none,some i] env=[none,some (yE w)]:=by simp only[zL,AG,Er,p];rfl
 have e:(x.flatMap λi=>[Val.c (apO w i)])=(x.map (apO w)).map Val.c:=by rw[<-Dk,A7];rfl
 refine yt (zA (ur (f:=Val.c) (g:=λi=>[Val.c (apO w i)]) (λe=>∃o,e=[o,some (yE w)]) (yV (zB n) rfl) ⟨none,r⟩ ?_) zD) (by rw[e];rfl)
 rintro a l e ⟨o,rfl⟩;obtain⟨b,c,rfl,y,_,t⟩:=m.ap (h a l).1 (h a l).2;refine⟨_,rfl,⟨_,rfl⟩,true,rfl,?_⟩;rw[if_pos rfl];exact⟨_,vv (zB rfl) (zB rfl) (ZI (k:=b) (v:=.c (c:Nat)) (by rw[An,y];rfl)),by rw[t]⟩
def Wx(h:∀z∈L,z=[]):(nub L).length<2:=by
 have:=(xO L).length_le_of_subset (l₂:=[[]]) λz a=>by rw[h z (y9.mp a)];exact .head _
 exact Nat.lt_succ_of_le this
def b6{x:List Int}{L:List (List Int)}(h:∀z∈L,z.length=x.length):(nub L).length<2\/∀z∈L,z≠[]:=by
 by_cases hx:x.length=0
 . exact .inl (Wx λz a=>HF.mp ((h z a).trans hx))
 . exact .inr λz a e=>hx (by rw[<-h z a,e];rfl)
def su(f:Str)(Φ:Calls):Prop:=∀(z x:List Int) (s:Sto),Sz z->(∀i∈x,0<=i/\i<(z.length:Int))->x.length<=40->Φ f 0 [tpI z,tpI x] s=.e (.g (tps (alS z x))) s
def bE(q:bp Φ)(c:Sz zs)(k:∀i∈x,0<=i/\i<(zs.length:Int))(o:x.length<=40):run T Φ F44.u9 [tpI zs,tpI x] s=.e (.g (tps (alS zs x))) s:=by
 have L:∀n,n<100->n<=zP:=λn h=>by unfold zP;omega
 have l:((exL zs).flatMap λw=>[x,x.reverse].flatMap λy=>[tpI (y.map (apO w))])=tps (alV zs x):=by unfold alV tps;rw[HB];rfl
 have m:vO false ((exL zs).flatMap λw=>[x,x.reverse].flatMap λy=>[tpI (y.map (apO w))]) s=.e (.g (tps (alS zs x))) s:=by
  rw[l];exact nW (Eb (gr c.2.1) (by decide)) (b6 (x:=x) λz h=>by
   obtain⟨w,_,rfl|rfl⟩:=fq.mp h
   . exact Ac _
   . rw[Ac,Cr])
 rw[post_eq,F44.u9,yF];refine⟨rfl,?_⟩;show (zU Φ T.b [some (tpI zs),some (tpI x),none] _ s).post _;refine yd (x_call (zA (zB rfl) zD) (q zs s c)) (yB (Xb (f:=yE) (ys:=λ_=>[x,x.reverse]) (f2:=λ_ y=>tpI y) (g:=λw y=>[tpI (y.map (apO w))]) (λe=>∃a b,e=[a,b,some (tpI x)]) (λw e=>∃b,e=[some (yE w),b,some (tpI x)]) (yV (zB rfl) rfl) ⟨none,none,rfl⟩ ?_ ?_ ?_ m) ?_)
 . rintro w hw e ⟨a,b,rfl⟩
   exact⟨_,rfl,yV (uc (zA (zB rfl) (zA (gc (zB rfl) pU pU (u4 (Xa zb)) (Y4 o)) zD)) (L 2 ⋯)) rfl,b,rfl⟩
 . rintro w e ⟨b,rfl⟩;exact⟨_,_,rfl⟩
 . rintro w hw y j e ⟨b,rfl⟩
   refine⟨_,rfl,⟨_,rfl⟩,true,rfl,?_⟩;rw[if_pos rfl];refine⟨_,R5 (ai hw) (x:=y) ?_ rfl rfl,rfl⟩;simp only[Ao,Cy,or_false]at j;rcases j with rfl|rfl
   . exact k
   . exact λi p=>k i (HA.mp p)
 . show (zh false s _ s).post _
   rw[zq (by rw[tW];exact yc _)]
   exact zC.mpr ⟨rfl,rfl⟩
def yz(z x:List Int):List Int:=(alS z x).headD []
def lU{z x:List Int}(a:∀i∈x,0<=i/\i<(z.length:Int)):(alS z x)[0]?=some (yz z x):=by
 have:=mB a;unfold yz;cases h:alS z x with
 |nil=>rw[h]at this;cases this
 |cons _ _=>rfl
def Fit.sh(h:Fit zs x):∀i∈x,0<=i/\i<(zs.length:Int):=h.b
def V3(Φ:Calls):Prop:=∀(z x:List Int) (s:Sto),Sz z->Fit z x->x.length<=40->Φ "form_of" 0 [tpI z,tpI x] s=.e (tpI (yz z x)) s
def gg(Φ:Calls):Prop:=∀(z x:List Int) (s:Sto),Sz z->Fit z x->x.length<=40->Φ "alike_many" 0 [tpI z,tpI x] s=.e (.c (alS z x).length) s
def R6(Φ:Calls):Prop:=∀(z x y:List Int) (s:Sto),Sz z->Fit z x->x.length<=40->Fit z y->y.length<=40->Φ "are_alike" 0 [tpI z,tpI x,tpI y] s=.e (.e (decide (y∈alS z x))) s
def iM(h:L[k]?=some x):vt (.g (tps L)) (.c (k:Nat)) s=.e (tpI x) s:=iL (by rw[An,h];rfl)
def Yo(f:xt Φ)(g:su "alike_to" Φ)(a:Sz zs)(h:Fit zs x)(c:x.length<=40):run T Φ F46.s9 [tpI zs,tpI x] s=.e (tpI (yz zs x)) s:=by
 rw[post_eq,F46.s9,yF];refine⟨rfl,?_⟩;show (zU Φ T.b [some (tpI zs),some (tpI x)] _ s).post _;refine xp (x_call (zA (zB rfl) (zA (zB rfl) zD)) (f zs x s a h c)) (yB (vv (x_call (zA (zB rfl) (zA (zB rfl) zD)) (g zs x s a h.sh c)) zb (iM (k:=0) (lU h.sh))) ?_);show (zh false s _ s).post _;rw[zq (by rw[Zs];exact yA _)]
 exact zC.mpr ⟨rfl,rfl⟩
def hZ(g:xt Φ)(i:su "alike_to" Φ)(h:Sz zs)(f:Fit zs x)(a:x.length<=40):run T Φ F46.vS [tpI zs,tpI x] s=.e (.c (alS zs x).length) s:=by rw[post_eq,F46.vS,yF];refine⟨rfl,?_⟩;show (zU Φ T.b [some (tpI zs),some (tpI x)] _ s).post _;refine xp (x_call (zA (zB rfl) (zA (zB rfl) zD)) (g zs x s h f a)) (yB (yt (zA (x_call (zA (zB rfl) (zA (zB rfl) zD)) (i zs x s h f.sh a)) zD) kQ) ?_);show (zh false s _ s).post _;rw[zq ie,Ac];exact zC.mpr ⟨rfl,rfl⟩
def Va(g:xt Φ)(j:su "alike_to" Φ)(h:Sz zs)(f:Fit zs x)(c:x.length<=40)(i:Fit zs y)(a:y.length<=40):run T Φ F46.vx [tpI zs,tpI x,tpI y] s=.e (.e (decide (y∈alS zs x))) s:=by rw[post_eq,F46.vx,yF];refine⟨rfl,?_⟩;show (zU Φ T.b [some (tpI zs),some (tpI x),some (tpI y)] _ s).post _;refine xp (x_call (zA (zB rfl) (zA (zB rfl) zD)) (g zs x s h f c)) (xp (x_call (zA (zB rfl) (zA (zB rfl) zD)) (g zs y s h i a)) (yB (z8 (zB rfl) (x_call (zA (zB rfl) (zA (zB rfl) zD)) (j zs x s h f.sh c)) q8.1) ?_));show (zh false s _ s).post _;rw[zq yg];exact zC.mpr ⟨rfl,rfl⟩
end
end M
end
section
namespace F45
open PySem M
noncomputable def n4:Fn:=⟨["sizes","length"],["sizes","length"],false,(.e (.d (.B false ["strip","sizes"] [none,some 0] (.u (.g "alike_to" 0 (.a (.e 1) (.a (.e 0) .b))) (.h (.c 0))) (.a 0) (.d (.g "all_strips" 0 (.a (.e 0) (.a (.e 1) .b)))) .a)) .f)⟩
end F45
end
section
namespace M
open PySem
def iP(z:List Int)(n:Nat):List (List Int):=(zN z [[]] n).map (yz z)
def y6(z:List Int)(n:Nat):List (List Int):=L2.zm (nub (iP z n))
def mX(b:zK zs):∀y∈iP zs n,Fit zs y/\y.length=n:=λy f=>by
 obtain⟨x,h,rfl⟩:=AE.mp f;have c:=uK b.a (λx h=>by rw[Al.mp h];exact vg zs) n x h
 have:=bz b.a c (AD (lU c.sh));exact⟨this.1,this.2.trans ((uL (k:=0) (λx h=>by rw[Al.mp h];rfl) n x h).trans (BS n))⟩
def Wl(h:zK zs):(∀y∈y6 zs n,Fit zs y/\y.length=n)/\(y6 zs n).length<=100:=by
 refine⟨λy a=>mX h y ?_,?_⟩
 . unfold y6 at a
   exact y9.mp ((L2.zS _).mem_iff.mp a)
 . unfold y6
   rw[(L2.zS _).length_eq];refine Au (qN _) ?_;unfold iP;rw[Ac];exact h.b n
section
variable {T:Tbl}{Φ:Calls}{s:Sto}
def d8(g:T.b "MOST_PLACES"=some (.c 40))(c:qS Φ)(f:0<=i)(a:i<=40):run T Φ F.wa [.c i] s=.e .h s:=by rw[post_eq];simp[F.wa,EVl,ze,zL,g,c i 0 40 s f a]
def V4(Φ:Calls):Prop:=∀(z:List Int) (n:Nat) (s:Sto),zK z->n<=40->Φ "kinds" 0 [tpI z,.c n] s=.e (.g (tps (y6 z n))) s
def OS(r:oa Φ)(q:su "alike_to" Φ){n:Nat}(i:zK zs)(p:n<=40) :
 evE Φ G [some (tpI zs),some (.c n)] (.B m N [none,some 0] (.u (.g "alike_to" 0 (.a (.e 1) (.a (.e 0) .b))) (.h (.c 0))) (.a 0) (.d (.g "all_strips" 0 (.a (.e 0) (.a (.e 1) .b)))) .a) s=newList m (tps (y6 zs n)) s:=by
 have e:(zN zs [[]] n).flatMap (λx=>[tpI (yz zs x)])=tps (iP zs n):=by unfold iP tps;rw[<-Dk,A7];rfl
 refine Vz (f:=tpI) (g:=λx=>[tpI (yz zs x)]) (λe=>∃o,e=[o,some (tpI zs)]) (yV (x_call (zA (zB rfl) (zA (zB rfl) zD)) (r zs n s i p)) rfl) ⟨none,rfl⟩ ?_ ?_
 . rintro x j e ⟨o,rfl⟩
   have l:=uK i.a (λx j=>by rw[Al.mp j];exact vg zs) n x j
   refine⟨_,rfl,⟨_,rfl⟩,true,rfl,?_⟩;rw[if_pos rfl];exact⟨_,vv (x_call (zA (zB rfl) (zA (zB rfl) zD)) (q zs x s i.a l.sh (vH i n x j))) zb (iM (k:=0) (lU l.sh)),rfl⟩
 . rw[e]
   refine nW ?_ (b6 (x:=AR n 0) λz h=>by rw[(mX i z h).2,Eo])
   unfold iP;rw[Ac];exact Eb (i.b n) (by decide)
def Yp(i:oa Φ)(f:su "alike_to" Φ){n:Nat}(h:zK zs)(a:n<=40):run T Φ F45.n4 [tpI zs,.c n] s=.e (.g (tps (y6 zs n))) s:=by
 rw[post_eq,F45.n4,yF];refine⟨rfl,?_⟩;show (zU Φ T.b [some (tpI zs),some (.c n)] _ s).post _;refine yB (OS i f h a) ?_;show (zh false s _ s).post _;rw[zq (by rw[tW];exact yc _)]
 exact zC.mpr ⟨rfl,rfl⟩
end
noncomputable def iA(a w:List Nat):List Nat:=a.map λi=>w.getD i 0
def Exc.comp(g:Exc zs w1)(f:Exc zs w2):Exc zs (iA w1 w2):=by
 have O:=nN f.c;have j:(iA w1 w2).Perm (Ag zs.length):=by
  have e:(Ag zs.length).map (λi=>w2.getD i 0)=w2:=by
   apply DV
   . rw[Ac,AQ,O.b]
   . intro i a b
     rw[HC,GO,Aa,dS b];rfl
  have:=g.c.map λi=>w2.getD i 0;rw[e]at this;exact this.trans f.c
 refine⟨j,?_⟩;unfold iA;rw[A7];refine E8 (BG λi h=>?_) g.d;have h:i<w2.length:=by rw[O.b];exact Ah.mp (g.c.mem_iff.mp h)
 have e:(w2.map (gZ zs))[i]?=zs[i]?:=by rw[f.d]
 rw[An,dS h]at e;show gZ zs (w2.getD i 0)=gZ zs i;rw[Aa,dS h];show gZ zs w2[i]=zs.getD i 0;rw[Aa,<-e];rfl
def Exc.fC(f:Exc zs w1){x:List Int}(h:∀i∈x,0<=i/\i<(zs.length:Int)):x.map (apO (iA w1 w2))=(x.map (apO w1)).map (apO w2):=by rw[A7];refine BG λi c=>?_;obtain⟨a,b,rfl,e,_,g⟩:=f.ap (h i c).1 (h i c).2;show apO (iA w1 w2) a=apO w2 (apO w1 a);rw[g];unfold apO iA;rw[Bx,Bx,Aa,An,e];rfl
def Exc.hue(h:Exc zs w){x:List Int}(c:∀i∈x,0<=i/\i<(zs.length:Int)):∀i∈x.map (apO w),0<=i/\i<(zs.length:Int):=λi g=>by obtain⟨j,f,rfl⟩:=AE.mp g;obtain⟨a,b,_,_,k,e⟩:=h.ap (c j f).1 (c j f).2;rw[e];omega
def lD{x:List Int}(h:∀i∈x,0<=i/\i<n):∀i∈x.reverse,0<=i/\i<n:=λi a=>h i (HA.mp a)
def lV(b:∀i∈x,0<=i/\i<(zs.length:Int))(a:y∈alS zs x)(h:z∈alS zs y):z∈alS zs x:=by
 obtain⟨c,e,a⟩:=xS.mp a;obtain⟨w,f,h⟩:=xS.mp h;refine xS.mpr ⟨iA c w,e.comp f,?_⟩;rw[e.fC b,e.fC (lD b)];rcases a with rfl|rfl
 . rcases h with rfl|rfl
   . exact .inl rfl
   . exact .inr (congrArg (Gy (apO w)) FQ.symm)
 . rcases h with rfl|rfl
   . exact .inr rfl
   . left;rw[<-FQ,DO]
def Ut(a:∀i∈x,0<=i/\i<(zs.length:Int))(h:y∈alS zs x):∀i∈y,0<=i/\i<(zs.length:Int):=by
 obtain⟨w,e,rfl|rfl⟩:=xS.mp h
 . exact e.hue a
 . exact e.hue (lD a)
def QB(a:∀i∈x,0<=i/\i<(zs.length:Int))(h:y∈alS zs x):alS zs y=alS zs x:=by
 have b:=Ut a h;have k:∀z,z∈alS zs y↔z∈alS zs x:=λz=>⟨λq=>lV a h q,λq=>lV b (mC a h) q⟩;unfold alS at k ⊢;refine nX (xO _) ((CO (xO _) (xO _)).mpr λz=>?_);have:=k z
 rwa [(L2.zS _).mem_iff,(L2.zS _).mem_iff]at this
def qH(h:∀i∈x,0<=i/\i<(zs.length:Int)):yz zs x∈alS zs x:=AD (lU h)
def qx(a:∀i∈x,0<=i/\i<(zs.length:Int))(h:y∈alS zs x):yz zs y=yz zs x:=by unfold yz;rw[QB a h]
def Uu(a:∀i∈x,0<=i/\i<(zs.length:Int)):x.reverse∈alS zs x:=by have h:=mB (lD a);obtain⟨w,e,h⟩:=xS.mp h;rw[DO]at h;exact xS.mpr ⟨w,e,h.symm⟩
def dM(b:∀i∈x,0<=i/\i<(zs.length:Int))(h:z∈alS zs x):L2.yi z (yz zs x)=false:=by
 have c:=L2.vN (xO (alV zs x));have a:=lU b;unfold yz at a ⊢;unfold alS at h a ⊢;generalize L2.zm (nub (alV zs x))=L at *;cases L with
 |nil=>cases h
 |cons f L=>
  show L2.yi z f=false;rcases Ao.mp h with rfl|h
  . exact L2.sO z
  . exact L2.ui ((BK.mp c).1 z h)
def yk(c:zK zs):x∈zN zs [[]] n↔Fit zs x/\x.length=n:=by
 constructor
 . intro h
   exact⟨uK c.a (λx b=>by rw[Al.mp b];exact vg zs) n x h,(uL (k:=0) (λx b=>by rw[Al.mp b];rfl) n x h).trans (BS n)⟩
 . rintro ⟨h,rfl⟩
   exact mP c.a _ rfl h
def pG:f∈y6 zs n↔∃x∈zN zs [[]] n,f=yz zs x:=by unfold y6 iP;rw[(L2.zS _).mem_iff,y9,AE];exact⟨λ⟨x,h,e⟩=>⟨x,h,e.symm⟩,λ⟨x,h,e⟩=>⟨x,h,e.symm⟩⟩
def qL(a:zK zs)(h:f∈y6 zs n):yz zs f=f/\Fit zs f/\f.length=n:=by obtain⟨x,b,rfl⟩:=pG.mp h;have c:=(yk a).mp b;have:=mX a (n:=n) (yz zs x) (List.mem_map_of_mem b);exact⟨qx c.1.sh (qH c.1.sh),this⟩
def Wm(h:zK zs)n:((y6 zs n).map λf=>(alS zs f).length).sum=(zN zs [[]] n).length:=by
 rw[<-List.length_flatMap];refine GI.length_eq ((CO ?_ (pf (rQ (Di _ _) n))).mpr λy=>?_)
 . rw[Cm,F0]
   refine⟨λf _=>?_,?_⟩
   . unfold alS
     exact((L2.zS _).nodup_iff.mpr (xO _))
   . have l:(y6 zs n).Nodup:=by unfold y6;exact(L2.zS _).nodup_iff.mpr (xO _)
     refine DW (λ{a b} ha hb hab x hx y c e=>hab ?_) (Cm.mp l);subst e;have j:=qL h ha;have i:=qL h hb;rw[<-j.1,<-i.1,<-qx j.2.1.sh hx,qx i.2.1.sh c]
 . rw[B6]
   constructor
   . rintro ⟨f,g,c⟩
     have k:=qL h g;have:=bz h.a k.2.1 c;exact(yk h).mpr ⟨this.1,this.2.trans k.2.2⟩
   . intro c
     have g:=(yk h).mp c;exact⟨_,pG.mpr ⟨y,c,rfl⟩,mC g.1.sh (qH g.1.sh)⟩
def qz:y∈yK zs L↔∃a∈L,y∈yK zs [a]:=by unfold yK;rw[B6];simp only[Eh]
theorem sN:∀{k} {y},y∈zN zs L k↔∃a∈L,y∈zN zs [a] k
 |0,y=>by
  constructor
  . exact λh=>⟨y,h,.head _⟩
  . rintro ⟨a,e,h⟩
    rwa [Al.mp h]
 |k+1,y=>by
  show y∈yK zs (zN zs L k)↔∃a∈L,y∈yK zs (zN zs [a] k);rw[qz];constructor
  . rintro ⟨z,d,h⟩
    obtain⟨a,e,d⟩:=sN.mp d;exact⟨a,e,qz.mpr ⟨z,d,h⟩⟩
  . rintro ⟨a,e,h⟩
    obtain⟨z,d,h⟩:=qz.mp h;exact⟨z,sN.mpr ⟨a,e,d⟩,h⟩
def n6.iff(h:n6 zs x N)k:zN zs [x] k≠[]↔k<N:=by
 constructor
 . intro c
   refine Nat.lt_of_not_le λa=>c ?_;have:=vG h.b (k-N)
   rwa [show N+(k-N)=k by omega]at this
 . exact h.on k
def rL k:zN zs [x] (k+1)≠[]↔∃h∈okH zs x,zN zs [x++[(h:Int)]] k≠[]:=by
 have e:zN zs [x] (k+1)=zN zs (yK zs [x]) k:=by rw[show k+1=1+k from Hm k 1,<-uJ];rfl
 have g:∀a,a∈yK zs [x]↔∃h∈okH zs x,a=x++[(h:Int)]:=λa=>by unfold yK;rw[Eh,AE];exact⟨λ⟨h,m,e⟩=>⟨h,m,e.symm⟩,λ⟨h,m,e⟩=>⟨h,m,e.symm⟩⟩
 rw[e];constructor
 . intro h
   obtain⟨y,b⟩:=Hj _ h;obtain⟨a,i,b⟩:=sN.mp b;obtain⟨h,c,rfl⟩:=(g a).mp i;exact⟨h,c,GP b⟩
 . rintro ⟨h,c,f⟩
   obtain⟨y,b⟩:=Hj _ f;exact GP (sN.mpr ⟨_,(g _).mpr ⟨h,c,rfl⟩,b⟩)
open Classical in
def yp(z x:List Int):Nat:=if h:∃N,n6 z x N then h.choose else 0
def xj(a:zK zs)(b:Fit zs x):n6 zs x (yp zs x):=by have h:=X8 a b;unfold yp;rw[dif_pos h];exact h.choose_spec
def f7(a:Sz zs)(c:Fit zs x)(b:h∈okH zs x):Fit zs (x++[(h:Int)]):=by obtain⟨g,f⟩:=BM.mp b;exact c.snoc a (Ah.mp g) (by simpa using f)
def aj(c:zK zs)(f:Fit zs x):(∀h∈okH zs x,yp zs (x++[(h:Int)])<=yp zs x-1)/\(yp zs x-1=0\/∃h∈okH zs x,yp zs (x++[(h:Int)])=yp zs x-1):=by
 have F:=xj c f;have G:=λh b=>xj c (f7 c.a f (h:=h) b);have l:∀h∈okH zs x,yp zs (x++[(h:Int)])<=yp zs x-1:=λh b=>by
  have g:=G h b;have p:=g.a;have:=(F.iff _).mp ((rL (yp zs (x++[(h:Int)])-1)).mpr ⟨h,b,(g.iff _).mpr ⋯⟩)
  omega
 refine⟨l,?_⟩;by_cases h0:yp zs x-1=0
 . exact .inl h0
 . right
   obtain⟨h,b,i⟩:=(rL (yp zs x-2)).mp ((F.iff _).mpr ⋯)
   have:=((G h b).iff _).mp i;have:=l h b;exact⟨h,b,⋯⟩
def qq(l:zK zs)(m:Fit zs x)(h:(zN zs [x] (yp zs x-1)).head?=some y):Fit zs y/\y.length=x.length+(yp zs x-1)/\xW zs y=true/\y.take x.length=x:=by
 have F:=xj l m;have f:=List.mem_of_mem_head? h;refine⟨NQ l m _ y f,OT _ y f,?_,?_⟩
 . have e:=F.b
   have p:=F.a;rw[show yp zs x=yp zs x-1+1 by omega]at e
   have e:yK zs (zN zs [x] (yp zs x-1))=[]:=e;unfold yK at e;have:=List.flatMap_eq_nil_iff.mp e y f;unfold xW;rw[List.map_eq_nil_iff.mp this];rfl
 . have i:∀k,∀y∈zN zs [x] k,y.take x.length=x:=λk=>by
    induction k with
    |zero=>intro y j;rw[Al.mp j,Ho]
    |succ k n=>
     intro y j;obtain⟨z,c,g,_,_,rfl⟩:=sR.mp j;have o:=OT k z c;rw[Gf ⋯]
     exact n z c
   exact i _ y f
def qp(b:zK zs)(c:Fit zs x):∃y,(zN zs [x] (yp zs x-1)).head?=some y:=by
 have F:=xj b c;have p:=F.a;cases h:(zN zs [x] (yp zs x-1)).head? with
 |none=>exact absurd (List.head?_eq_none_iff.mp h) ((F.iff _).mpr ⋯)
 |some y=>exact⟨y,rfl⟩
def ao(f:zK zs)(g:Fit zs x)(h:xW zs x=true):yp zs x=1:=by have F:=xj f g;have p:=F.a;refine F9 (Hn λb=>?_) p;obtain⟨k,c,_⟩:=(rL 0).mp ((F.iff 1).mpr b);unfold xW at h;rw[A9.mp h]at c;cases c
def fS(f:zK zs)(c:Far zs N):yp zs []=N:=by
 have F:=xj f (vg zs);have i:=F.iff N;have g:=F.iff (N-1);have p:=c.b;have a:¬N<yp zs []:=λh=>i.mpr h c.a;have b:=g.mp (c.d _ ⋯)
 omega
def qF(b:zK zs)(g:Far zs N):y∈uw zs N↔Fit zs y/\xW zs y=true:=by
 rw[(pz _).mem_iff,<-uD,BM];refine and_congr ?_ Dz;unfold oE;rw[B6];constructor
 . rintro ⟨j,_,h⟩
   exact((yk b).mp h).1
 . intro h
   refine⟨y.length,Ah.mpr ?_,(yk b).mpr ⟨h,rfl⟩⟩;refine Nat.lt_of_not_le λf=>?_;have:=vG g.a (y.length-N);rw[show N+(y.length-N)=y.length by omega]at this
   have c:=(yk b).mpr ⟨h,rfl⟩;rw[this]at c;cases c
def af(c:zK zs)(f:Far zs N):(∀y∈uw zs N,y.length<=N-1)/\∃y∈uw zs N,y.length=N-1:=by
 have p:=f.b;constructor
 . intro y i
   have g:=(yk c).mpr ⟨((qF c f).mp i).1,rfl⟩;refine Hn λj=>?_;have:=vG f.a (y.length-N);rw[show N+(y.length-N)=y.length by omega]at this
   rw[this]at g;cases g
 . obtain⟨y,h⟩:=qp c (vg zs)
   have k:=qq c (vg zs) h;rw[fS c f]at k;exact⟨y,(qF c f).mpr ⟨k.1,k.2.2.1⟩,by simpa using k.2.1⟩
end M
end
section
namespace F47
open PySem M
noncomputable def yn:Fn:=⟨["_law_sizes","_law_length","_law_some","_law_strip","_law_form","_law_like"],["_law_sizes","_law_length"],false,(.e (.f 2 (.g "kinds" 0 (.a (.e 0) (.a (.e 1) .b)))) (.e (.j (.a (.k .b (.j .k false (.a (.q false ["_law_form","_law_sizes"] [none,some 0] (.g "alike_many" 0 (.a (.e 1) (.a (.e 0) .b))) (.a 0) (.d (.e 2)) .a) .b)) (.g "strips_many" 0 (.a (.e 0) (.a (.e 1) .b))))) (.e (.d (.h (.e false))) .f) .f) (.e (.l (.a 3) (.d (.F false (.g "all_strips" 0 (.a (.e 0) (.a (.e 1) .b))) .b (.a (.h (.c 8))) .b)) (.e (.f 4 (.g "form_of" 0 (.a (.e 0) (.a (.e 3) .b)))) (.e (.j (.f (.a (.k .a (.e 4) (.e 2))) (.b (.a (.k .i (.e 4) (.e 3))) (.b (.a (.k .b (.g "form_of" 0 (.a (.e 0) (.a (.g "backward" 0 (.a (.e 3) .b)) .b))) (.e 4))) .a))) (.e (.d (.h (.e false))) .f) .f) (.e (.f 5 (.q false ["_law_other","_law_sizes","_law_strip"] [none,some 0,some 3] (.e 0) (.a 0) (.d (.e 2)) (.b (.a (.g "are_alike" 0 (.a (.e 1) (.a (.e 0) (.a (.e 2) .b))))) .a))) (.e (.j (.f (.b (.a (.g "are_alike" 0 (.a (.e 0) (.a (.e 3) (.a (.e 4) .b)))))) (.b (.a (.k .b (.e 5) (.w false (.a (.e 4) .b)))) .a)) (.e (.d (.h (.e false))) .f) .f) .f))))) (.e (.d (.h (.e true))) .f))))⟩
noncomputable def xG:Fn:=⟨["_law_sizes","_law_strip","_law_behind","_law_far","_law_last"],["_law_sizes","_law_strip"],false,(.e (.f 2 (.g "hues_behind" 0 (.a (.e 0) (.a (.e 1) .b)))) (.e (.j (.a (.k .b (.g "hues_ahead" 0 (.a (.e 0) (.a (.g "backward" 0 (.a (.e 1) .b)) .b))) (.e 2))) (.e (.d (.h (.e false))) .f) .f) (.e (.j (.a (.k .b (.g "hues_ahead" 0 (.a (.e 0) (.a (.e 1) .b))) (.g "hues_behind" 0 (.a (.e 0) (.a (.g "backward" 0 (.a (.e 1) .b)) .b))))) (.e (.d (.h (.e false))) .f) .f) (.e (.f 3 (.q false ["_law_hue","_law_sizes","_law_strip"] [none,some 0,some 1] (.l false .a (.h (.c 1)) (.g "led_more" 0 (.a (.e 1) (.a (.l false .a (.e 2) (.p (.a (.e 0) .b))) .b)))) (.a 0) (.d (.e 2)) .a)) (.e (.j (.a (.k .b (.g "led_more" 0 (.a (.e 0) (.a (.e 1) .b))) (.j .h false (.a (.l false .a (.w false (.a (.h (.c 0)) .b)) (.e 3)) .b)))) (.e (.d (.h (.e false))) .f) .f) (.e (.f 4 (.g "led_on" 0 (.a (.e 0) (.a (.e 1) .b)))) (.e (.j (.f (.b (.a (.g "fits" 0 (.a (.e 0) (.a (.e 4) .b))))) (.b (.a (.k .b (.F false (.e 4) .b (.a (.j .a false (.a (.e 1) .b))) .b) (.e 1))) (.b (.a (.k .b (.g "hues_behind" 0 (.a (.e 0) (.a (.e 4) .b))) (.p .b))) .a))) (.e (.d (.h (.e false))) .f) .f) (.e (.d (.k .h (.e 4) (.g "ends" 0 (.a (.e 0) .b)))) .f))))))))⟩
noncomputable def ju:Fn:=⟨["sizes","found","strips"],["sizes"],false,(.e (.g (.g "need_small_sizes" 0 (.a (.e 0) .b))) (.e (.f 1 (.w true .b)) (.e (.f 2 (.w false (.a (.p .b) .b))) (.e (.m (.a (.e 2)) (.e (.g (.J .c false (.e 1) (.a (.q false ["strip","sizes"] [none,some 0] (.e 0) (.a 0) (.d (.e 2)) (.b (.b (.a (.g "followers" 0 (.a (.e 1) (.a (.e 0) .b))))) .a)) .b))) (.e (.f 2 (.g "grown" 0 (.a (.e 0) (.a (.e 2) .b)))) .f))) (.e (.d (.j .b false (.a (.e 1) .b))) .f)))))⟩
end F47
end
section
namespace M
open PySem
def pQ:zO .b (tpI a) (tpI a) s=.e (.e false) s:=Q3
def fz:zO .b (.g (tps L)) (.g (tps L)) s=.e (.e false) s:=
 have h:(Val.g (tps L)).isD=true:=by rw[Val.isD];exact pC L
 ne_self h (by
  rw[Val.d,Dw];have:CH (ds (tps L))<=1:=L2.oh (k:=1) λd h=>by rw[aQ]at h;obtain⟨x,_,rfl⟩:=AE.mp h;show (PyData.tuple (x.map EO)).depth<=1;rw[Dw,iE];exact Ad _
  omega) nofun rfl
def kh:zO .b (.c i) (.c i) s=.e (.e false) s:=by rw[ne_int,decide_eq_true rfl];rfl
def Q2:zO .b (.e b) (.e b) s=.e (.e false) s:=by cases b<;>rfl
def NB(h:L2.p5 ws=true):blt .k false [.g (ws.map .c)] s=.e (.c ws.sum) s:=by
 show (match M.intsOf (ws.map .c) with|some ns=>if L2.p5 ns then Out.e (Val.c ns.sum) s else .d|pn=>.d)=_
 rw[xm];show (if L2.p5 ws then Out.e (Val.c ws.sum) s else .d)=_
 rw[h];rfl
def Q0(h:ns≠[]):blt .h false [.g (ns.map .c)] s=.e (.c (L2.xh 0 ns)) s:=by
 show (match M.intsOf (ns.map .c) with|some ns=>if ns≠[] then Out.e (Val.c (L2.xh 0 ns)) s else .d|pn=>.d)=_
 rw[xm];exact if_pos h
theorem jd:∀l:List Nat,(l.map λ(k:Nat)=>(k:Int)).sum=(l.sum:Nat)
 |[]=>rfl
 |k::l=>by rw[AG,List.sum_cons,List.sum_cons,jd l];omega
theorem kH{c:Type} [DecidableEq c] {a}:∀{l:List c},l.Nodup->a∈l->l.filter (λb=>decide (b=a))=[a]
 |[],_,h=>by cases h
 |b::l,d,h=>by
  have d:=Bm.mp d;by_cases e:b=a
  . subst e
    rw[List.filter_cons_of_pos (by simp)]
    congr 1;refine FD.mpr λx f q=>d.1 ?_
    rwa [<-of_decide_eq_true q]
  . rw[List.filter_cons_of_neg (by simpa using e)]
    exact kH d.2 ((Ao.mp h).resolve_left λq=>e q.symm)
theorem Qy:∀a b:List Int,HT.lexLt a b=L2.yi a b
 |[],[]=>rfl
 |[],_::_=>rfl
 |_::_,[]=>rfl
 |x::a,y::b=>by rw[HT.pJ,Qy a b];rfl
def TX:zO .i (tpI a) (tpI b) s=.e (.e (L2.yi b a)) s:=by
 show (match M.intsOf (a.map .c),M.intsOf (b.map .c) with|some u,some v=>Out.e (Val.e (HT.lexLt v u)) s|_,_=>.d)=_
 rw[xm,xm,<-Qy]
def l0:∀x∈uv L lo hi,x∈L:=λx h=>by unfold uv at h;exact BJ (Bq h)
def Y6:wu false (.g (tps L)) lo hi none s=.e (.g (tps (uv L lo hi))) s:=by show Out.e (Val.g (uv (L.map tpI) lo hi)) s=_;rw[fD]
section
variable {T:Tbl}{Φ:Calls}{s:Sto}
def CRt(f:Str)(Φ:Calls):Prop:=∀(z:List Int) (n:Nat) (s:Sto),zK z->n<=40->Φ f 0 [tpI z,.c n] s=.e (.e true) s
def gD(W:V4 Φ)(U:gg Φ)(S:V6 Φ)(cA:oa Φ)(Z:V3 Φ)(Y:bh Φ)(X:R6 Φ){n:Nat}(j:zK zs)(K:n<=40):run T Φ F47.yn [tpI zs,.c n] s=.e (.e true) s:=by
 have L1:∀n,n<100->n<=zP:=λn h=>by unfold zP;omega
 obtain⟨B,k2⟩:=Wl j (n:=n);have A:∀x∈zN zs [[]] n,Fit zs x/\x.length=n:=λx p=>(yk j).mp p;have F:(y6 zs n).Nodup:=by unfold y6;exact(L2.zS _).nodup_iff.mpr (xO _)
 rw[post_eq,F47.yn,yF];refine⟨rfl,?_⟩;show (zU Φ T.b [some (tpI zs),some (.c n),none,none,none,none] _ s).post _;refine yd (x_call (zA (zB rfl) (zA (zB rfl) zD)) (W zs n s j K)) ?_;have O:evE Φ T.b [some (tpI zs),some (.c n),some (.g (tps (y6 zs n))),none,none,none] (.q false ["_law_form","_law_sizes"] [none,some 0] (.g "alike_many" 0 (.a (.e 1) (.a (.e 0) .b))) (.a 0) (.d (.e 2)) .a) s=.e (.g ((((y6 zs n).map λf=>(alS zs f).length).map λ(k:Nat)=>(k:Int)).map .c)) s:=by
  have e:(((y6 zs n).map λf=>(alS zs f).length).map λ(k:Nat)=>(k:Int)).map Val.c=(y6 zs n).flatMap λf=>[Val.c (alS zs f).length]:=by rw[<-Dk,A7,A7];rfl
  rw[e];refine ur (f:=tpI) (λe=>∃o,e=[o,some (tpI zs)]) (yV (zB rfl) rfl) ⟨none,rfl⟩ ?_;rintro f l e ⟨o,rfl⟩;have k:=B f l;refine⟨_,rfl,⟨_,rfl⟩,true,rfl,?_⟩;rw[if_pos rfl];exact⟨_,x_call (zA (zB rfl) (zA (zB rfl) zD)) (U zs f s j.a k.1 ⋯),rfl⟩
 have u:blt .k false [.g ((((y6 zs n).map λf=>(alS zs f).length).map λ(k:Nat)=>(k:Int)).map .c)] s=.e (.c (zN zs [[]] n).length) s:=by
  rw[NB,jd,Wm j n];unfold L2.p5;rw[ub,decide_eq_true_eq,Ac,Ac,AZ];refine⟨⋯,λx p=>?_⟩
  obtain⟨k,w,rfl⟩:=AE.mp p;obtain⟨f,l,rfl⟩:=AE.mp w;have:=Xi (x:=f) j.a.2.1;rw[ub,decide_eq_true_eq,decide_eq_true_eq];omega
 refine ym (zi (z8 (yt (zA O zD) u) (x_call (zA (zB rfl) (zA (zB rfl) zD)) (S zs n s j K)) kh) zR) ?_;refine zV.mpr (wA (λr e C=>s=C/\(∃E D t,e=[some (tpI zs),some (.c n),some (.g (tps (y6 zs n))),E,D,t])/\∀v∈r,∃x∈zN zs [[]] n,v=tpI x) (tps (uv (zN zs [[]] n) none (some 8))) (s1:=s) (yV (gc (x_call (zA (zB rfl) (zA (zB rfl) zD)) (cA zs n s j K)) pU (u4 zb) pU Y6) rfl) ⟨rfl,⟨_,_,_,rfl⟩,λv H=>by obtain⟨x,p,rfl⟩:=AE.mp H;exact⟨x,l0 x p,rfl⟩⟩ ?_ ?_)
 . rintro v r e C ⟨rfl,⟨E,D,t,rfl⟩,R⟩
   obtain⟨x,p,rfl⟩:=R v (.head _);have J:∀v∈r,∃x∈zN zs [[]] n,v=tpI x:=λv H=>R v (.tail _ H);obtain⟨l,hl⟩:=A x p;refine⟨_,rfl,?_⟩;refine yd (x_call (zA (zB rfl) (zA (zB rfl) zD)) (Z zs x s j.a l ⋯)) ?_
   show (zU Φ T.b [some (tpI zs),some (.c n),some (.g (tps (y6 zs n))),some (tpI x),some (tpI (yz zs x)),t] _ s).post _;have w:yz zs x∈y6 zs n:=pG.mpr ⟨x,p,rfl⟩;have I:=l.rev j.a;have N:yz zs x.reverse=yz zs x:=qx l.sh (Uu l.sh);have Q:=zi (Φ:=Φ) (G:=T.b) (env:=[some (tpI zs),some (.c n),some (.g (tps (y6 zs n))),some (tpI x),some (tpI (yz zs x)),t]) (z8 (op:=.a) (zB (i:=4) rfl) (zB (i:=2) rfl) (q8 (x:=yz zs x) (L:=y6 zs n) (s:=s)).2) zR;rw[decide_eq_true w]at Q;have P:=zi (Φ:=Φ) (G:=T.b) (env:=[some (tpI zs),some (.c n),some (.g (tps (y6 zs n))),some (tpI x),some (tpI (yz zs x)),t]) (z8 (op:=.i) (zB (i:=4) rfl) (zB (i:=3) rfl) (TX (a:=yz zs x) (b:=x) (s:=s))) zR;rw[dM l.sh (mB l.sh)]at P;refine ym (XI Q (wX P (wX (zi (z8 (x_call (zA (zB rfl) (zA (x_call (zA (zB rfl) zD) (Y zs x s j.a l ⋯)) zD)) (Z zs x.reverse s j.a I (by rw[Cr];omega))) (zB rfl) (by rw[N];exact pQ)) zR) p9))) ?_
   have y:(y6 zs n).filter (λf=>decide (x∈alS zs f))=[yz zs x]:=by
    rw[<-kH F w];refine List.filter_congr λf m=>?_;have k:=qL j m;rw[decide_eq_decide];constructor
    . intro q
      rw[<-k.1,qx k.2.1.sh q]
    . rintro rfl
      exact mC l.sh (qH l.sh)
   have z:evE Φ T.b [some (tpI zs),some (.c n),some (.g (tps (y6 zs n))),some (tpI x),some (tpI (yz zs x)),t] (.q false ["_law_other","_law_sizes","_law_strip"] [none,some 0,some 3] (.e 0) (.a 0) (.d (.e 2)) (.b (.a (.g "are_alike" 0 (.a (.e 1) (.a (.e 0) (.a (.e 2) .b))))) .a)) s=.e (.g (tps [yz zs x])) s:=by rw[<-y];refine lP (L:=y6 zs n) (f:=λf=>decide (x∈alS zs f)) (e0:=[some (tpI zs),some (tpI x)]) (yV (zB rfl) rfl) rfl λf m=>tu (zi (x_call (zA (zB rfl) (zA (zB rfl) (zA (zB rfl) zD))) (X zs f x s j.a (B f m).1 (by have:=(B f m).2;omega) l ⋯)) zR)
   refine yd z ?_;have M:=B _ w;have V:=X zs x (yz zs x) s j.a l ⋯ M.1 ⋯
   rw[decide_eq_true (qH l.sh)]at V;refine ym (XI (b:=false) (sk (b:=true) (zi (x_call (zA (zB rfl) (zA (zB rfl) (zA (zB rfl) zD))) V) zR)) (wX (zi (z8 (zB rfl) (jo (zA (zB rfl) zD) (L1 1 ⋯)) (fz (L:=[yz zs x]))) zR) p9)) ?_
   exact wU ⟨rfl,⟨_,_,_,rfl⟩,J⟩
 . rintro e C ⟨rfl,⟨E,D,t,rfl⟩,_⟩
   refine yB zb ?_;show (zh false s _ s).post _;rw[zq yg];exact zC.mpr ⟨rfl,rfl⟩
def V5(Φ:Calls):Prop:=∀(z x:List Int) (N:Nat) (s:Sto),zK z->Far z N->Fit z x->x.length<=18->Φ "_law_led_right" 0 [tpI z,tpI x] s=.e (.e true) s
def nv(Φ:Calls):Prop:=∀(z x:List Int) (s:Sto),zK z->Fit z x->x.length<=40->Φ "led_more" 0 [tpI z,tpI x] s=.e (.c ((yp z x-1:Nat):Int)) s
def Zo(c:bq Φ):nv Φ:=λz x s a b f=>by obtain⟨y,h⟩:=qp a b;rw[c z x y _ s a b f (xj a b) h,(qq a b h).2.1];congr 2;omega
def qG(h:x.length<40):vD zs x=okH zs x:=by unfold vD;rw[if_neg ⋯];rfl
def Yr(J:nt Φ)(V:jq Φ)(cB:bh Φ)(R:nv Φ)(Y:jr Φ)(cF:gi Φ)(cE:nu Φ)(i:zK zs)(Q:Far zs N)(j:Fit zs x)(hl:x.length<=18):run T Φ F47.xG [tpI zs,tpI x] s=.e (.e true) s:=by
 have L:∀n,n<100->n<=zP:=λn h=>by unfold zP;omega
 have t:=j.rev i.a;have v:x.reverse.length<=40:=by rw[Cr];omega
 have X:=cB zs x s i.a j ⋯
 have B:=J zs x s i.a j ⋯
 have I:=V zs x.reverse s i.a t v;rw[DO]at I;have W:=V zs x s i.a j ⋯
 have U:=J zs x.reverse s i.a t v;rw[qG ⋯]at B I
 have r:∀(l:List Nat),zO .b (yE l) (yE l) s=.e (.e false) s:=λl=>by rw[qI];exact pQ
 rw[post_eq,F47.xG,yF];refine⟨rfl,?_⟩;show (zU Φ T.b [some (tpI zs),some (tpI x),none,none,none] _ s).post _;refine yd (x_call (zA (zB rfl) (zA (zB rfl) zD)) B) ?_;show (zU Φ T.b [some (tpI zs),some (tpI x),some (yE (okH zs x)),none,none] _ s).post _;refine ym (zi (z8 (x_call (zA (zB rfl) (zA (x_call (zA (zB rfl) zD) X) zD)) I) (zB rfl) (r _)) zR) ?_;refine ym (zi (z8 (x_call (zA (zB rfl) (zA (zB rfl) zD)) W) (x_call (zA (zB rfl) (zA (x_call (zA (zB rfl) zD) X) zD)) U) (r _)) zR) ?_;have M:∀h∈okH zs x,h<zs.length:=λh m=>Ah.mp (BM.mp m).1;have O:evE Φ T.b [some (tpI zs),some (tpI x),some (yE (okH zs x)),none,none] (.q false ["_law_hue","_law_sizes","_law_strip"] [none,some 0,some 1] (.l false .a (.h (.c 1)) (.g "led_more" 0 (.a (.e 1) (.a (.l false .a (.e 2) (.p (.a (.e 0) .b))) .b)))) (.a 0) (.d (.e 2)) .a) s=.e (.g (((okH zs x).map λ(h:Nat)=>((yp zs (x++[(h:Int)]):Nat):Int)).map .c)) s:=by
  have e:((okH zs x).map λ(h:Nat)=>((yp zs (x++[(h:Int)]):Nat):Int)).map Val.c=(okH zs x).flatMap λ(h:Nat)=>[Val.c ((yp zs (x++[(h:Int)]):Nat):Int)]:=by rw[<-Dk,A7];rfl
  rw[e];refine ur (f:=λ(h:Nat)=>Val.c h) (λe=>∃o,e=[o,some (tpI zs),some (tpI x)]) (yV (zB rfl) rfl) ⟨none,rfl⟩ ?_;rintro h m e ⟨o,rfl⟩;have u:=f7 i.a j m;have p:=(xj i u).a;have S:binOp false .a (tpI x) (.f [.c (h:Nat)]) s=.e (tpI (x++[(h:Int)])) s:=by show binOp false .a (.f (x.map .c)) (.f [.c (h:Nat)]) s=.e (.f ((x++[(h:Int)]).map .c)) s;rw[Dc];exact n9 (by rw[Ac];unfold zP;simp;omega)
  refine⟨_,rfl,⟨_,rfl⟩,true,rfl,?_⟩;rw[if_pos rfl];refine⟨_,ye zb (x_call (zA (zB rfl) (zA (ye (zB rfl) (uc (zA (zB rfl) zD) (L 1 ⋯)) S) zD)) (R zs _ s i u (by rw[Aw,BF];omega))) ee,?_⟩
  congr 2;omega
 refine yd O ?_;have G:L2.xh 0 ([(0:Int)]++(okH zs x).map λ(h:Nat)=>((yp zs (x++[(h:Int)]):Nat):Int))=((yp zs x-1:Nat):Int):=by
  obtain⟨F,C⟩:=aj i j;refine L2.sP ?_ λy k=>?_
  . rcases C with C|⟨h,m,e⟩
    . rw[C];exact .head _
    . exact AY _ (AE.mpr ⟨h,m,by rw[e]⟩)
  . rcases AS.mp k with k|k
    . rw[Al.mp k];omega
    . obtain⟨h,m,rfl⟩:=AE.mp k
      have:=F h m;omega
 have w:binOp false .a (.g [.c 0]) (.g (((okH zs x).map λ(h:Nat)=>((yp zs (x++[(h:Int)]):Nat):Int)).map .c)) s=.e (.g (([(0:Int)]++(okH zs x).map λ(h:Nat)=>((yp zs (x++[(h:Int)]):Nat):Int)).map .c)) s:=by
  rw[Xh (by
   rw[Ac,Ac];have:(okH zs x).length<=zs.length:=Au (EC _ _) (by rw[AQ];exact Ad _)
   have:=i.a.2.1;unfold zP;simp;omega),Dc];rfl
 refine ym (zi (z8 (x_call (zA (zB rfl) (zA (zB rfl) zD)) (R zs x s i j ⋯)) (yt (zA (ye (jo (zA zb zD) (L 1 ⋯)) (zB rfl) w) zD) (Q0 (by simp))) (by rw[G];exact kh)) zR) ?_
 obtain⟨y,k⟩:=qp i j;obtain⟨A,y2,K,Z⟩:=qq i j k;have yl:y.length<18:=uh i y.length y ((yk i).mpr ⟨A,rfl⟩) |>.2
 refine yd (x_call (zA (zB rfl) (zA (zB rfl) zD)) (Y zs x y _ s i j ⋯ (xj i j) k)) ?_
 show (zU Φ T.b [some (tpI zs),some (tpI x),some (yE (okH zs x)),some (.g (((okH zs x).map λ(h:Nat)=>((yp zs (x++[(h:Int)]):Nat):Int)).map .c)),some (tpI y)] _ s).post _;have E:wu false (tpI y) none (some (x.length:Nat)) none s=.e (tpI x) s:=by rw[RW];unfold uv;have B:HT.sIx y.length 0 none=0:=rfl;rw[B,HT.Vh,CT,F3,D7 ⋯,Z]
 have P:=J zs y s i.a A ⋯
 have D:okH zs y=[]:=A9.mp K;rw[qG ⋯,D]at P
 have z:=cF zs y s i.a A ⋯
 refine ym (XI (b:=false) (sk (b:=true) (zi (x_call (zA (zB rfl) (zA (zB rfl) zD)) z) zR)) (wX (zi (z8 (gc (zB rfl) pU (u4 (wH rfl)) pU E) (zB rfl) pQ) zR) (wX (zi (z8 (x_call (zA (zB rfl) (zA (zB rfl) zD)) P) (uc zD (L 0 ⋯)) (pQ (a:=[]))) zR) p9))) ?_
 have H:decide (y∈uw zs N)=true:=decide_eq_true ((qF i Q).mpr ⟨A,K⟩);refine yB (z8 (zB rfl) (x_call (zA (zB rfl) zD) (cE zs N s i Q)) q8.1) ?_;rw[H];show (zh false s _ s).post _;rw[zq yg];exact zC.mpr ⟨rfl,rfl⟩
def bF(k:xu Φ)(c:vQ Φ)(i:lQ Φ)(a:zK zs)(f:Far zs N):run T Φ F47.ju [tpI zs] s=.e (.g (tps (uw zs N))) s:=by
 have L:∀n,n<100->n<=zP:=λn h=>by unfold zP;omega
 rw[post_eq,F47.ju,yF];refine⟨rfl,?_⟩;show (zU Φ T.b [some (tpI zs),none,none] _ s).post _;refine Y1 (x_call (zA (zB rfl) zD) (k zs s a)) (yd (s1:=s++[.c []]) (v:=.j s.length) (bnd zD rfl) (yd (jo (zA (uc zD (L 0 ⋯)) zD) (L 1 ⋯)) ?_))
 refine S0 c i a f ?_;refine yB (yt (zA (zB rfl) zD) (bO a Zm)) ?_;show (zh false s (.g (tps (uw zs N))) (s++_)).post _;rw[pH (by rw[tW];exact yc _)]
 exact zC.mpr ⟨rfl,rfl⟩
def bI(f:nu Φ)(c:gj Φ)(h:zK zs)(a:Far zs N):run T Φ F13.v7 [tpI zs] s=.e (.g (tps ((uw zs N).filter (vo zs)))) s:=by
 rw[post_eq,F13.v7,yF];refine⟨rfl,?_⟩;show (zU Φ T.b [some (tpI zs)] _ s).post _;refine yB (lP (e0:=[some (tpI zs)]) (yV (x_call (zA (zB rfl) zD) (f zs N s h a)) rfl) rfl (SW c h)) ?_;show (zh false s _ s).post _;rw[zq (by rw[tW];exact yc _)]
 exact zC.mpr ⟨rfl,rfl⟩
end
end M
end
section
namespace M
open PySem Hd
def ay(h:Heap)(a:Addr):Option Obj:=(h.get? a).bind λo=>if u3 o then none else some o
def WH(e:h.get? a=some o)(n:u3 o=false):ay h a=some o:=by unfold ay;rw[e];show (if u3 o=true then none else some o)=some o;rw[n];rfl
def WG(e:ay h a=some o):h.get? a=some o/\u3 o=false:=by
 unfold ay at e;obtain⟨f,c,b⟩:=Fp.mp e;split at b
 . cases b
 . rename_i z
   cases b;exact⟨c,by simpa using z⟩
def sI(h:Heap):KF:=(Ag h.objs.size).filterMap λa=>(ay h a).map λo=>(a,o)
theorem qM{g:Addr->Option Obj}:∀{l:List Addr},a∈l->(l.filterMap λb=>(g b).map λo=>(b,o)).lookup a=g a
 |b::r,hm=>by
  rw[Bo];by_cases e:a=b
  . subst e
    cases hg:g a with
    |none=>
     show (r.filterMap _).lookup a=none;by_cases m:a∈r
     . rw[qM m,hg]
     . exact List.lookup_eq_none_iff.mpr λp d=>by
        obtain⟨c,u,e⟩:=D2.mp d;obtain⟨o,_,rfl⟩:=AB.mp e;have z:a≠c:=λz=>m (by rw[z];exact u)
        simpa using z
    |some o=>show (List.lookup a ((a,o)::_))=_;rw[AA,beq_self_eq_true]
  . have m:a∈r:=(Ao.mp hm).resolve_left e
    cases hg:g b with
    |none=>exact qM m
    |some o=>
     show (List.lookup a ((b,o)::_))=_;rw[AA,beq_false_of_ne e];exact qM m
def yy o(e:h.get? a=some o)(n:u3 o=false):(sI h).lookup a=some o:=by rw[<-WH e n];exact qM (Ah.mpr (Am e))
def av:(sI h).In h:=λa o e=>by obtain⟨c,_,e⟩:=D2.mp (uO e);obtain⟨g,f,b⟩:=AB.mp e;cases b;exact(WG f).1
def pT(e:nsH h x=some v):BZ (sI h) Bt x=some v:=by
 unfold nsH at e;split at e
 . rename_i o ho
   have a:u3 o=false:=by
    unfold BZ at e;rw[AA,beq_self_eq_true]at e;dsimp only at e;split at e
    . rename_i hd;cases hd;unfold u3;simp
    . cases e
   unfold BZ at e ⊢;rw[yy o ho a];rw[AA,beq_self_eq_true]at e;exact e
 . cases e
def aL(e:aK h cd x=true):Dl (sI h) cd x=true:=by
 unfold aK at e;split at e
 . split at e
   . rename_i c o ho
     rw[ub,BE]at e;obtain⟨a,e⟩:=e;unfold Dl at e ⊢;dsimp only at e ⊢;rw[AA,beq_self_eq_true]at e;rw[yy o ho a];exact e
   . cases e
 . cases e
def args_eq st:args st=L2.wM st/\body st=L2.xR st/\scope st=L2.zu st:=by cases st<;>exact⟨rfl,rfl,rfl⟩
def U5(e:Wy h p.1=Vx p):lS (sI h) p.1 p.2:=by
 obtain⟨j,i,c⟩:=args_eq p.2;unfold Vx at e;rw[j,i,c]at e;unfold Wy at e;split at e
 . rename_i f hf
   split at e
   . rename_i oc od fd osl ho
     split at e
     . rename_i hc
       have a:=AL e;obtain⟨n,q,k,b,s,g,t,d,m,o,l,y,v,r,x⟩:=fd;injection a with e1 e2 e3 e4 e5 e6 e7 e8 _ _ _ _ _ _ e9
       subst e1 e2 e3 e4 e5 e6 e7 e8 e9;exact U4 (pT hf) (yy _ ho (by unfold u3;simp)) (aL hc) (by unfold Dm;dsimp only;rw[yy _ ho (by unfold u3;simp)])
     . cases e
   . cases e
 . cases e
noncomputable def gv:G->Val
 |.a i=>.c i
 |.c x=>.m x
 |.b ns=>.o ns
def QW(e:glB h x v=true):eX (sI h) x (gv v):=by
 cases v with
 |a i=>
  unfold glB at e;dsimp only at e;split at e
  . rename_i hn;have:=of_decide_eq_true e;subst this;exact int_mk (pT hn)
  . cases e
 |c y=>
  unfold glB at e;dsimp only at e;split at e
  . rename_i hn;have:=of_decide_eq_true e;subst this;exact str_mk (pT hn)
  . cases e
 |b ns=>
  unfold glB at e;dsimp only at e;split at e
  . rename_i hn
    split at e
    . rename_i n od us k sl ho
      obtain⟨f,g⟩:=Ge.mp e;obtain⟨f,j⟩:=Ge.mp f;have:=of_decide_eq_true f;subst this;exact Xs (us:=us.toList) (pT hn) (yy _ ho rfl) (of_decide_eq_true j) (of_decide_eq_true g)
    . cases e
  . cases e
def QE(e:blB h x=true):BZ (sI h) Bt x=some none:=by
 unfold blB at e;split at e
 . rename_i hn;exact pT hn
 . cases e
def Uq(D:List (Str × Stmt))(g:List (Str × Val))(K:KF)(h:Heap):Prop:=K.In h/\(∀p∈D,lS K p.1 p.2)/\(∀p∈g,eX K p.1 p.2)/\∀x∈wy,BZ K Bt x=some none
theorem fI:∀{D:List (Str × Stmt)},(D.map λp=>Wy h p.1)=D.map Vx->∀p∈D,lS (sI h) p.1 p.2
 |p::D,e,q,d=>by
  rw[AG,AG]at e;obtain⟨w,u⟩:=List.cons.inj e;rcases Ao.mp d with rfl|d
  . exact U5 w
  . exact fI u q d
def Vi(e:Se D gl s=Rx D):∃K,Uq D (gl.map λp=>(p.1,gv p.2)) K s.heap:=by obtain⟨i,a⟩:=Prod.mk.inj e;obtain⟨a,g⟩:=Ge.mp a;exact⟨sI s.heap,av,fI i,λp c=>(by obtain⟨b,f,rfl⟩:=AE.mp c;exact QW (AZ.mp a b f)),λx h=>QE (AZ.mp g x h)⟩
def close{l:PySem.W.OpenLaw}
 (V:l.wellSaid=true) (m:PySem.W.LeftO l.row.prog q [] (λs=>Iw l.row.records s) (Se D gl) (λ_=>Rx D) N) (t:glL=gl.map λp=>(p.1,gv p.2))
 (R:PySem.W.defOf q l.row.name=some (d,[])) (H:l.row.prog.theDef l.row.name=some (d.params,d.body,d.scope)) (J:PySem.W.kwWritten? d.params.kwonlyargs d.params.kw_defaults=some [])
 (o:(!l.row.writes||l.row.records.isEmpty)=true) (A:(PySem.W.chainsOk q&&PySem.W.opensWell l.row.prog&&(PySem.W.frees l.row.toRowW&&l.row.within.isEmpty))=true) (P:l.row.prog.bare) (C:l.row.toRowW.promised)
 (I:l.most=some 63) (v:d.params.defaults=[]) (E:L2.xD n callerA) (Q:(tbl fnL glL).c d.name 0=some F) (B:F.a=[x]) (L:ng fnL D=true)
 (Z:∀u:List Int,u.length<=63->∃M,zE (tbl fnL glL) n d.name 0 [.r u] []=.e (.e true) M):l.Holds:=by
 refine PySem.W.holds_law V λj=>PySem.W.holds_open (q:=q) (loose:=[]) (Xt:=λs=>Iw l.row.records s) (XP:=λ_ _=>True) (YP:=λ_ h=>∃K,Uq D glL K h) m (λw s e=>t▸Vi e)
  (λw h O ⟨K,a,b⟩ k=>⟨K,a.keeps k,b⟩) (λ_ _=>trivial) (λ_ _ _ _ _=>trivial) R H J (λs e=>PySem.W.recFacts_of e) o j A P C ?_
 rintro w f s₁ mg mb G ⟨K,Y⟩;exact walk (l:=l) (q:=q) (loose:=[]) (XP:=λ_ _=>True) (YP:=λ_ h=>Uq D glL K h) (d:=d) (K:=K) (T:=tbl fnL glL) I v E (λ_ _ y=>y.1) Q B (λw f mg mb h G X=>⟨Rm (tb:=[]) (xc:=[]) (md:=λ_=>false) X G.T.g Y.2.1 Y.2.2.1 Y.2.2.2 L (λ⟨b,z⟩=>by cases z),[],Il,rfl,λi g z=>by cases z⟩) Z w f s₁ mg mb G Y
end M
end
section
namespace P47
open PySem M
noncomputable def qT:Fn:=⟨["_law_script","_law_k","_law_pen_here","_law_sizes","_law_length","_law_some","_law_turn","_law_found","_law_shut","_law_strip"],["_law_script"],false,(.e (.l (.a 1) (.f (.j .h false (.a (.h (.c 1)) (.a (.j .j false (.a (.j .a false (.a (.e 0) .b)) (.a (.h (.c 3)) .b))) .b)))) (.e (.f 2 (.g "_law_pen" 1 (.a (.g "_law_cell_at" 0 (.a (.e 0) (.a (.e 1) .b))) .b))) (.e (.r [3,4] (.a (.g "_law_small" 0 (.a (.e 2) .b)) (.a (.g "_law_draw" 0 (.a (.e 2) (.a (.h (.c 12)) .b))) .b))) (.e (.j (.f (.b (.a (.g "_law_forms_right" 0 (.a (.e 3) (.a (.e 4) .b))))) (.b (.a (.k .b (.g "led_more" 0 (.a (.e 3) (.a (.p .b) .b))) (.g "farthest" 0 (.a (.e 3) .b)))) .a)) (.e (.d (.h (.e false))) .f) .f) (.e (.f 5 (.g "all_strips" 0 (.a (.e 3) (.a (.j .j false (.a (.e 4) (.a (.g "farthest" 0 (.a (.e 3) .b)) .b))) .b)))) (.e (.l (.a 6) (.f (.h (.c 3))) (.e (.j (.b (.a (.g "_law_led_right" 0 (.a (.e 3) (.a (.u (.e 5) (.g "_law_draw" 0 (.a (.e 2) (.a (.j .a false (.a (.e 5) .b)) .b)))) .b))))) (.e (.d (.h (.e false))) .f) .f) .f)) (.e (.r [7,8] (.a (.g "ends" 0 (.a (.e 3) .b)) (.a (.g "shut_ends" 0 (.a (.e 3) .b)) .b))) (.e (.l (.a 9) (.d (.F false (.e 7) .b (.a (.h (.c 20))) .b)) (.e (.j (.f (.b (.a (.g "fits" 0 (.a (.e 3) (.a (.e 9) .b))))) (.b (.a (.k .b (.g "led_more" 0 (.a (.e 3) (.a (.e 9) .b))) (.h (.c 0)))) (.b (.a (.k .b (.g "hues_behind" 0 (.a (.e 3) (.a (.e 9) .b))) (.p .b))) .a))) (.e (.d (.h (.e false))) .f) .f) (.e (.j (.a (.k .b (.k .h (.e 9) (.e 8)) (.k .d (.g "hues_ahead" 0 (.a (.e 3) (.a (.e 9) .b))) (.p .b)))) (.e (.d (.h (.e false))) .f) .f) .f))) (.e (.j (.a (.k .b (.j .h false (.a (.q false ["_law_strip"] [none] (.j .a false (.a (.e 0) .b)) (.a 0) (.d (.e 7)) .a) .b)) (.g "farthest" 0 (.a (.e 3) .b)))) (.e (.d (.h (.e false))) .f) .f) (.e (.j (.a (.k .b (.q false ["_law_one","_law_found"] [none,some 7] (.e 0) (.a 0) (.d (.e 8)) (.b (.a (.k .a (.e 0) (.e 1))) .a)) (.w false .b))) (.e (.d (.h (.e false))) .f) .f) .f)))))))))) (.e (.d (.h (.e true))) .f))⟩
def fnL:List ((Str × Nat) × Fn):=((("_law_cell_at":Str),(0:Nat)),F.ya)::((("_law_draw":Str),(0:Nat)),F.vw)::((("_law_forms_right":Str),(0:Nat)),F47.yn)::((("_law_led_right":Str),(0:Nat)),F47.xG)::((("_law_pen":Str),(1:Nat)),F.yu)::((("_law_small":Str),(0:Nat)),F12.vR)::((("alike_many":Str),(0:Nat)),F46.vS)::((("alike_to":Str),(0:Nat)),F44.u9)::((("all_strips":Str),(0:Nat)),F12.vT)::((("are_alike":Str),(0:Nat)),F46.vx)::((("are_sizes":Str),(0:Nat)),F.vy)::((("are_wholes":Str),(0:Nat)),F.vU)::((("backward":Str),(0:Nat)),F14.tE)::((("ends":Str),(0:Nat)),F47.ju)::((("exchanges":Str),(0:Nat)),F44.vz)::((("farthest":Str),(0:Nat)),F12.tF)::((("first_hue_wrong":Str),(0:Nat)),F.yv)::((("first_row_wrong":Str),(0:Nat)),F.yw)::((("first_wrong":Str),(0:Nat)),F.wY)::((("fits":Str),(0:Nat)),F.jv)::((("followers":Str),(0:Nat)),F.v3)::((("form_of":Str),(0:Nat)),F46.s9)::((("grown":Str),(0:Nat)),F12.nz)::((("hues_ahead":Str),(0:Nat)),F.vV)::((("hues_behind":Str),(0:Nat)),F.wZ)::((("is_one_hue":Str),(0:Nat)),F.vW)::((("is_strip":Str),(0:Nat)),F.tG)::((("is_whole":Str),(0:Nat)),F.tH)::((("kinds":Str),(0:Nat)),F45.n4)::((("law":Str),(0:Nat)),qT)::((("leaders":Str),(0:Nat)),F.rA)::((("led_more":Str),(0:Nat)),F12.tJ)::((("led_on":Str),(0:Nat)),F12.qU)::((("may_follow":Str),(0:Nat)),F.vX)::((("most_step":Str),(0:Nat)),F.v5)::((("need_fit":Str),(0:Nat)),F.tK)::((("need_length":Str),(0:Nat)),F.wa)::((("need_sizes":Str),(0:Nat)),F.vY)::((("need_small_sizes":Str),(0:Nat)),F12.yo)::((("need_strip":Str),(0:Nat)),F.vZ)::((("need_whole":Str),(0:Nat)),F.vb)::((("product_of":Str),(0:Nat)),F12.vd)::((("shut_ends":Str),(0:Nat)),F13.v7)::((("strips_many":Str),(0:Nat)),F12.wb)::((("tally":Str),(0:Nat)),F12.n5)::[]
noncomputable def glL:List (Str × Val):=[("MOST_PLACES",.c 40),("LEAST_SIZE",.c 2),("MOST_SIZE",.c 8),("HUES",.o [0,1,2,3]),("MOST_PRODUCT",.c 12)]
def T:Tbl:=tbl fnL glL
set_option maxHeartbeats 0 in
def Rk:ng fnL D=true:=by decide +kernel
structure Cs(Φ:Calls):Prop where
 g:V0 Φ
 n:R7 Φ
 b:bj Φ
 f:bt Φ
 c:CRt "_law_forms_right" Φ
 j:V5 Φ
 d:nv Φ
 m:og Φ
 l:oa Φ
 h:nu Φ
 k:br Φ
 i:gi Φ
 a:nt Φ
 e:jq Φ
def Wr(c:Cs Φ)(x:zK zs)(B:Far zs N)(X:∀s,Φ "farthest" 0 [tpI zs] s=.e (.c ((N-1:Nat):Int)) s){o1 u O M F}
 (hP:∀o1 u O M F S,P (.a [some (.r ns),o1,some (.j p),some (tpI zs),some (.c (n:Nat)),some (.g (tps A)),u,O,M,F]) S) :
 (zU Φ T.b [some (.r ns),o1,some (.j p),some (tpI zs),some (.c (n:Nat)),some (.g (tps A)),u,O,M,F] (qT.b.hd.fb.tl.tl.tl.tl.tl) s4).post P:=by
 have W:∀n,n<100->n<=zP:=λn h=>by unfold zP;omega
 have hN18:=B.c;have hN0:=B.b;refine zV.mpr (Z4.mpr (qP (x_call (zA (zB rfl) zD) (c.h zs N s4 x B)) (qP (x_call (zA (zB rfl) zD) (c.k zs N s4 x B)) (rg.mpr (eA rfl ?_)))));have hE:∀y,y∈uw zs N↔Fit zs y/\xW zs y=true:=λy=>qF x B;obtain⟨e1,e2⟩:=af x B;show (zU Φ T.b [some (.r ns),o1,some (.j p),some (tpI zs),some (.c (n:Nat)),some (.g (tps A)),u,some (.g (tps (uw zs N))),some (.g (tps ((uw zs N).filter (vo zs)))),F] _ s4).post _;generalize uw zs N=E at *;refine zV.mpr (wA (λl e s'=>(∃o1 u F,e=[some (.r ns),o1,some (.j p),some (tpI zs),some (.c (n:Nat)),some (.g (tps A)),u,some (.g (tps E)),some (.g (tps (E.filter (vo zs)))),F])/\∀v∈l,∃y∈E,v=tpI y) (tps (uv E none (some 20))) (s1:=s4) (yV (gc (zB rfl) pU (u4 zb) pU Y6) rfl) ⟨⟨_,_,_,rfl⟩,λv Q=>by obtain⟨y,m,rfl⟩:=AE.mp Q;exact⟨y,l0 y m,rfl⟩⟩ ?_ ?_)
 . rintro v l e t ⟨⟨o1,u,F,rfl⟩,H⟩
   obtain⟨y,m,rfl⟩:=H v (.head _);have D:∀v∈l,∃y∈E,v=tpI y:=λv Q=>H v (.tail _ Q);obtain⟨J,C⟩:=(hE y).mp m;have hl:=e1 y m;have Y:=c.d zs y t x J ⋯
   rw[ao x J C]at Y;have hb:=c.a zs y t x.a J ⋯
   rw[qG ⋯,A9.mp C]at hb
   have ha:=c.e zs y t x.a J ⋯
   rw[qG (by rw[Cr];omega)]at ha
   have R:decide (y∈E.filter (vo zs))=(okH zs y.reverse).isEmpty:=by have:(okH zs y.reverse).isEmpty=vo zs y:=rfl;rw[this,BN,decide_eq_true_eq,BM];exact⟨λh=>h.2,λh=>⟨m,h⟩⟩
   refine⟨_,rfl,?_⟩;show (zU Φ T.b [some (.r ns),o1,some (.j p),some (tpI zs),some (.c (n:Nat)),some (.g (tps A)),u,some (.g (tps E)),some (.g (tps (E.filter (vo zs)))),some (tpI y)] _ t).post _;refine ym (XI (b:=false) (sk (b:=true) (zi (x_call (zA (zB rfl) (zA (zB rfl) zD)) (c.i zs y t x.a J ⋯)) zR)) (wX (zi (z8 (x_call (zA (zB rfl) (zA (zB rfl) zD)) Y) zb (kh (i:=0))) zR) (wX (zi (z8 (x_call (zA (zB rfl) (zA (zB rfl) zD)) hb) (uc zD (W 0 ⋯)) (pQ (a:=[]))) zR) p9))) ?_
   refine ym (zi (z8 (z8 (zB rfl) (zB rfl) q8.1) (z8 (x_call (zA (zB rfl) (zA (zB rfl) zD)) ha) (uc zD (W 0 ⋯)) X4) (by rw[R];exact Q2)) zR) ?_
   exact wU ⟨⟨_,_,_,rfl⟩,D⟩
 . rintro e t ⟨⟨o1,u,F,rfl⟩,_⟩
   have hc:evE Φ T.b [some (.r ns),o1,some (.j p),some (tpI zs),some (.c (n:Nat)),some (.g (tps A)),u,some (.g (tps E)),some (.g (tps (E.filter (vo zs)))),F] (.q false ["_law_strip"] [none] (.j .a false (.a (.e 0) .b)) (.a 0) (.d (.e 7)) .a) t=.e (.g ((E.map λy=>(y.length:Int)).map .c)) t:=by
    have e:(E.map λy=>(y.length:Int)).map Val.c=E.flatMap λy=>[Val.c (y.length:Nat)]:=by rw[<-Dk,A7];rfl
    rw[e];refine ur (f:=tpI) (λe=>∃o,e=[o]) (yV (zB rfl) rfl) ⟨none,rfl⟩ ?_;rintro y m e ⟨o,rfl⟩;refine⟨_,rfl,⟨_,rfl⟩,true,rfl,?_⟩;rw[if_pos rfl];exact⟨_,wH rfl,rfl⟩
   have V:L2.xh 0 (E.map λy=>(y.length:Int))=((N-1:Nat):Int):=by
    obtain⟨y,m,el⟩:=e2;refine L2.sP (AE.mpr ⟨y,m,by rw[el]⟩) λz K=>?_
    obtain⟨w,hw,rfl⟩:=AE.mp K;have:=e1 w hw;omega
   have U:(E.map λy=>(y.length:Int))≠[]:=by obtain⟨y,m,_⟩:=e2;exact GP (List.mem_map_of_mem m)
   refine ym (zi (z8 (yt (zA hc zD) (Q0 U)) (x_call (zA (zB rfl) zD) (X t)) (by rw[V];exact kh)) zR) ?_
   have Z:(E.filter (vo zs)).filter (λy=>!decide (y∈E))=[]:=FD.mpr λy m q=>by have:=(BM.mp m).1;rw[decide_eq_true this]at q;cases q
   have I:=lP (Φ:=Φ) (G:=T.b) (env:=[some (.r ns),o1,some (.j p),some (tpI zs),some (.c (n:Nat)),some (.g (tps A)),u,some (.g (tps E)),some (.g (tps (E.filter (vo zs)))),F]) (s:=t) (N:=["_law_one","_law_found"]) (fr:=[none,some 7]) (it:=.d (.e 8)) (ifs:=.b (.a (.k .a (.e 0) (.e 1))) .a) (L:=E.filter (vo zs)) (f:=λy=>!decide (y∈E)) (e0:=[some (.g (tps E))]) (yV (zB rfl) rfl) rfl λy _=>tu (zi (z8 (zB rfl) (zB rfl) q8.2) zR);rw[Z]at I;refine ym (zi (z8 I (jo zD (W 0 ⋯)) (fz (L:=[]))) zR) ?_
   exact wU (hP _ _ _ _ _ _)
def Zf(c:Cs Φ)ns:(run T Φ qT [.r ns] []).post λv _=>v=.e true:=by
 have L1:∀n,n<100->n<=zP:=λn h=>by unfold zP;omega
 have I:∀(U:M.Env) (s:Sto),zx Φ T.b U (.f (.h (.c 3))) s=.e ⟨yP 0 3,none⟩ s:=λU s=>rfl;rw[qT,yF];refine⟨rfl,?_⟩;refine zV.mpr (wA (λy e o=>(∃L o2 o3 o4 Y E D C B,e=[some (.r ns),L,o2,o3,o4,Y,E,D,C,B])/\∀x∈y,∃k:Nat,x=.c k) (yP 0 (max 1 (min ns.length 3))) (s1:=[]) (ah (K:=3) rfl ⋯) ⟨⟨_,_,_,_,_,_,_,_,_,rfl⟩,?_⟩ ?_ ?_)
 . intro x G
   obtain⟨k,_,rfl⟩:=fw G;exact⟨k,by congr 1;omega⟩
 . rintro x y e o ⟨⟨L,o2,o3,o4,Y,E,D,C,B,rfl⟩,hr⟩
   obtain⟨k,rfl⟩:=hr x (.head _);have hr':∀x∈y,∃k:Nat,x=.c k:=λx G=>hr x (.tail _ G);refine⟨_,rfl,?_⟩;obtain⟨cv,u⟩:=c.g ns k o;refine byG λpi i=>?_;obtain⟨a,b,H,hb⟩:=c.n cv o;refine i ?_;refine yd (x_call (zA (x_call (zA (zB rfl) (zA (zB rfl) zD)) u) zD) H) ?_;have hP:t4 (o++[pZ a b]) o.length:=⟨a,b,by simp,hb⟩
   refine byG λpi i=>?_;obtain⟨_,s2,h2,z,rfl,w,t2⟩:=c.f o.length _ hP;refine i ?_;have Q:=t2.at_ hP.lt;refine byG λpi i=>?_;obtain⟨_,q,h3,n,rfl,hn,t3⟩:=c.b o.length 12 s2 Q (by decide) (by decide)
   refine i ?_;have hP3:=t3.at_ Q.lt;obtain⟨N,R⟩:=TL w;have hN18:=R.c;have hN0:=R.b;refine zV.mpr (Z4.mpr (qP (x_call (zA (zB rfl) zD) h2) (qP (x_call (zA (zB rfl) (zA zb zD)) h3) (rg.mpr (eA rfl ?_)))));show (zU Φ T.b [some (.r ns),some (.c k),some (.j o.length),some (tpI z),some (.c (n:Nat)),Y,E,D,C,B] _ q).post _;clear h2 h3 t2 t3 hP Q H u hb;generalize o.length=p at *;have X:=c.d z [] q w (vg z) (by decide)
   rw[fS w R]at X;have P:∀s,Φ "farthest" 0 [tpI z] s=.e (.c ((N-1:Nat):Int)) s:=λs=>by rw[c.m z N s w R];congr 2;omega
   refine ym (XI (b:=false) (sk (b:=true) (zi (x_call (zA (zB rfl) (zA (zB rfl) zD)) (c.c z n q w ⋯)) zR)) (wX (zi (z8 (x_call (zA (zB rfl) (zA (uc zD (L1 0 ⋯)) zD)) X) (x_call (zA (zB rfl) zD) (P q)) kh) zR) p9)) ?_
   have V:blt .j false [.c (n:Nat),.c ((N-1:Nat):Int)] q=.e (.c ((min n (N-1):Nat):Int)) q:=by
    show Out.e (Val.c (if ((N-1:Nat):Int)<(n:Int) then ((N-1:Nat):Int) else (n:Int))) q=_
    congr 2;split<;>omega
   refine yd (x_call (zA (zB rfl) (zA (yt (zA (zB rfl) (zA (x_call (zA (zB rfl) zD) (P q)) zD)) V) zD)) (c.l z _ q w ⋯)) ?_
   have hne:zN z [[]] (min n (N-1))≠[]:=R.d _ ⋯
   have hfew:=w.b (min n (N-1));have O:∀x∈zN z [[]] (min n (N-1)),Fit z x/\x.length<=18:=λx G=>by have h:=(yk w).mp G;exact⟨h.1,⋯⟩
   show (zU Φ T.b [some (.r ns),some (.c k),some (.j p),some (tpI z),some (.c (n:Nat)),some (.g (tps (zN z [[]] (min n (N-1))))),E,D,C,B] _ q).post _;generalize zN z [[]] (min n (N-1))=A at *;have hA0:0<A.length:=DY.mpr hne;refine zV.mpr (wA (λJ e o=>(∃L E D C B,e=[some (.r ns),L,some (.j p),some (tpI z),some (.c (n:Nat)),some (.g (tps A)),E,D,C,B])/\t4 o p) (yP 0 3) (s1:=q) (I _ _) ⟨⟨_,_,_,_,_,rfl⟩,hP3⟩ ?_ ?_)
   . rintro x J e W ⟨⟨L,E,D,C,B,rfl⟩,S⟩
     refine⟨_,rfl,?_⟩;have Z:blt .a false [.g (tps A)] W=.e (.c (A.length:Nat)) W:=by rw[kQ,Ac]
     refine byG λpi i=>?_;obtain⟨_,s5,h5,j,rfl,hj,t5⟩:=c.b p (A.length:Nat) W S ⋯ ⋯
     refine i ?_;have F:j<A.length:=by omega
     have G:=O _ (Bv F);refine ym (sk (b:=true) (zi (x_call (zA (zB rfl) (zA (vv (zB rfl) (x_call (zA (zB rfl) (zA (yt (zA (zB rfl) zD) Z) zD)) h5) (iM (dS F))) zD)) (c.j z _ N s5 w R G.1 G.2)) zR)) ?_;exact wU ⟨⟨_,_,_,_,_,rfl⟩,t5.at_ S.lt⟩
   . rintro e W ⟨⟨L,E,D,C,B,rfl⟩,_⟩
     exact Wr c w R P λ_ _ _ _ _ _=>⟨⟨_,_,_,_,_,_,_,_,_,rfl⟩,hr'⟩
 . rintro e o ⟨⟨L,o2,o3,o4,Y,E,D,C,B,rfl⟩,hr⟩
   refine yB zb ?_;show (zh false [] (.e true) o).post _;exact(pH (s:=[]) (t:=o) yg).symm▸zC.mpr rfl
def cs:At T 10 Cs:=λn hn=>by
 obtain⟨n,rfl⟩:∃m,n=m+10:=⟨n-10,⋯⟩
 have g:Gl4 T:=⟨rfl,rfl,rfl,rfl⟩;have K:∀m,jt (zE T (m+1)):=λm v l k s h=>up1 (bK h) rfl;have C:∀m,qS (zE T (m+2)):=λm i l k s j f=>up1 (oU (K m) j f) rfl;have B:∀m,rW (zE T (m+3)):=λm i s j f=>up1 (d8 rfl (C m) j f) rfl;have E:∀m,ny (zE T (m+2)):=λm vs l k s h=>up1 (gG (K m) h) rfl;have most:∀m,V7 (zE T (m+1)):=λm a b d s j f q=>up1 (Yt j f q) rfl;have one:∀m,Ul (zE T (m+1)):=λm a b d e s j f q Z=>up1 (Vc j f q Z) rfl;have J:∀m,oe (zE T (m+3)):=λm z s h=>up1 (oQ g (E m) h) rfl;have w:∀m,u6 (zE T (m+4)):=λm z s h=>up1 (oR (J m) h) rfl;have Q:∀m,lR (zE T (m+3)):=λm z G s j f q=>up1 (jQ g (E m) j f q) rfl;have u:∀m,u7 (zE T (m+4)):=λm z G s j f q=>up1 (oT (Q m) j f q) rfl;have fHue:∀m,V1 (zE T (m+1)):=λm z G s j=>up1 (Yj j) rfl;have fRow:∀m,V2 (zE T (m+2)):=λm z G s j f q=>up1 (Yk (most m) (one m) j f q) rfl;have O:∀m,gh (zE T (m+5)):=λm z G s j f q=>up1 (gB (w m) (u m) (fHue (m+3)) (fRow (m+2)) j f q) rfl;have V:∀m,gi (zE T (m+6)):=λm z G s j f q=>up1 (Yl (O m) j f q) rfl;have o:∀m,xt (zE T (m+7)):=λm z G s j f q=>up1 (jT (V m) j f q) rfl;have may:∀m,Uk (zE T (m+1)):=λm z G h s j f q=>up1 (Vb j f q) rfl;have R:∀m,lQ (zE T (m+2)):=λm z G s j f=>up1 (Yn g (may m) j f) rfl;have W:∀m,gj (zE T (m+3)):=λm z G s j f=>up1 (Yq (R m) j f) rfl;have H:∀m,nt (zE T (m+8)):=λm z G s j f q=>up1 (gA (o m) (R (m+5)) j f q) rfl;have X:∀m,jq (zE T (m+8)):=λm z G s j f q=>up1 (bD (o m) (W (m+4)) j f q) rfl;have prod:∀m,V8 (zE T (m+1)):=λm z s h=>up1 (Yu h) rfl;have r:∀m,xu (zE T (m+5)):=λm z s h=>up1 (oS rfl (w m) (prod (m+3)) h) rfl;have t:∀m,vQ (zE T (m+2)):=λm z L s j f q=>up1 (gE (may m) j f q) rfl;have I:∀m,oa (zE T (m+6)):=λm z k s j f=>up1 (Yf (r m) (B (m+2)) (t (m+3)) j f) rfl;have many:∀m,V6 (zE T (m+7)):=λm z k s j f=>up1 (Ys (I m) j f) rfl;have tally:∀m,gm (zE T (m+6)):=λm z N s j f=>up1 (gF (r m) (t (m+3)) j f) rfl;have far:∀m,og (zE T (m+7)):=λm z N s j f=>up1 (lE (tally m) j f) rfl;have P:∀m,jr (zE T (m+8)):=λm z x y N s j f q Z h5=>up1 (bH (r (m+2)) (o m) (t (m+5)) j f q Z h5) rfl;have U:∀m,nv (zE T (m+9)):=λm=>Zo λz x y N s j f q Z h5=>up1 (jR (P m) j f q Z h5) rfl;have D:∀m,nu (zE T (m+6)):=λm z N s j f=>up1 (bF (r m) (t (m+3)) (R (m+3)) j f) rfl;have shut0:∀m,br (zE T (m+7)):=λm z N s j f=>up1 (bI (D m) (W (m+3)) j f) rfl;have back:∀m,bh (zE T (m+5)):=λm z G s j f q=>up1 (Yg (u m) j f q) rfl;have cell:∀m,V0 (zE T (m+1)):=λm G k s=>by obtain⟨c,h⟩:=Yh (T:=T) (Φ:=zE T m) (s:=s) G k;exact⟨c,by rw[uA (F:=F.ya) rfl];exact h⟩
 have pen:∀m,R7 (zE T (m+1)):=λm c s=>by obtain⟨a,b,h,f⟩:=Vd (T:=T) (Φ:=zE T m) (s:=s) c;exact⟨a,b,by rw[uA (F:=F.yu) rfl];exact h,f⟩
 have Y:∀m,bj (zE T (m+1)):=λm p k s j f q=>OP (Yi j f q) rfl;have small:∀m,bt (zE T (m+2)):=λm p s h=>OP (bJ (Y m) h) rfl;have TK:∀m,bp (zE T (m+1)):=λm z s h=>up1 (bG h) rfl;have A:∀m,su "alike_to" (zE T (m+2)):=λm z x s j f q=>up1 (bE (TK m) j f q) rfl;have kin0:∀m,V4 (zE T (m+7)):=λm z k s j f=>up1 (Yp (I m) (A (m+4)) j f) rfl;have form:∀m,V3 (zE T (m+8)):=λm z x s j f q=>up1 (Yo (o m) (A (m+5)) j f q) rfl;have S:∀m,gg (zE T (m+8)):=λm z x s j f q=>up1 (hZ (o m) (A (m+5)) j f q) rfl;have are:∀m,R6 (zE T (m+8)):=λm z x y s j f q Z h5=>up1 (Va (o m) (A (m+5)) j f q Z h5) rfl;have M:∀m,CRt "_law_forms_right" (zE T (m+9)):=λm z k s j f=>up1 (gD (kin0 (m+1)) (S m) (many (m+1)) (I (m+2)) (form m) (back (m+3)) (are m) j f) rfl;have ledR:∀m,V5 (zE T (m+10)):=λm z x N s j f q Z=>up1 (Yr (H (m+1)) (X (m+1)) (back (m+4)) (U m) (P (m+1)) (V (m+3)) (D (m+3)) j f q Z) rfl;exact⟨cell (n+9),pen (n+9),Y (n+9),small (n+8),M (n+1),ledR n,U (n+1),far (n+3),I (n+4),D (n+4),shut0 (n+3),V (n+4),H (n+2),X (n+2)⟩
def SV ns:∃d,zE T 11 "law" 0 [.r ns] []=.e (.e true) d:=by
 obtain⟨v,d,h,rfl⟩:=Zf (cs 10 ⋯) ns
 exact⟨d,by rw[uA (F:=qT) rfl];exact h⟩
end P47
end
section
open PySem PySem.W PyProof.Rows
def P47.hx:P47.qT.a=[("_law_script":Str)]:=by kernel_rfl
def P47.hF:(M.tbl P47.fnL P47.glL).c P47.dd.name 0=some P47.qT:=by kernel_rfl
def P47.hgl:P47.glL=P47.gl.map λp=>(p.1,M.gv p.2):=by kernel_rfl
theorem PySem.Challenge.cw_evenhues_k47_whole_led_on_holds : PySem.Challenge.rw_evenhues_k47_whole_led_on.Holds := by
 exact M.close (n:=11) P47.RV P47.left P47.hgl P47.TY P47.hp P47.hk P47.hwr P47.ok P47.bare P47.hw (by kernel_rfl) P47.hdf ⟨rfl,by decide,by decide,rfl⟩ P47.hF P47.hx P47.Rk (λns _=>P47.SV ns)
end
end
