import PyProof.Rows.All
import Wide.All
import OpenK.AllK
import Wide.FinOn
import Lean
import PyProof.EqAt
import PyProof.EqKinds
import PyProof.TupleCall
import PySem.Challenge.RW_quoteweave_k45_quotes_said_truly
noncomputable section
set_option Elab.async false
set_option linter.all false
set_option compiler.extract_closed false
set_option bootstrap.genMatcherCode false
set_option genInjectivity false
set_option genSizeOf false
set_option maxRecDepth 100000
set_option maxHeartbeats 4000000
open PySem.PyData renaming str->j0,int->j1
open PySem.Value renaming none->j2,ref->kx
open PySem renaming wpAny_bind->QA,wpAny_pure->QK,wpAny_newObj_type->Qy,sizeLine_eq->qB,wpAny_loadPart'->qM,wpAny_call_entry->qR,mem_of_lookup->qU,wpAny_callSpecial?_slot->qV,wpAny_Call_Name_kw->qb,wpAny_holding->qg,Spec->wA,wpAny_typeNameOfWhole_itemiter->wJ,wpAny_mono->wK,wpAny_typeNameOfWhole_keyiter->wL,wpAny_truthy_bool->wO,wpAny_dictEntries->wQ,wpAny_setField_rec->wc,wpAny_field->wj,wpAny_passesOwn->wt,codeAny_builtin->wx,wpAny_dictEpoch->WJ,plainId_quiet->WN,wpAny_isInstance->WT,wpAny_specialOf->Wf,wpAny_isOneOf_itemiter->Wt,wpAny_pyIter_list->Wv,wpAny_typeOf->W9,wpAny_notOrdered_dict->QAC,wpAny_attempt->QAR,wpAny_execs_nil->QAU,call_reversed_list->QAj,wpAny_seqItems->QAq,wpAny_setField->QAu,wpAny_fieldsOf->QAv,seqIndex_of->QBB,wpAny_Call_method0_late->QBC,wpAny_newList->QBD,wpAny_eqBool_int->QBJ,wpAny_isOneOf_keyiter->QBb,builtinLookup_eq_fast->QBc,wpAny_Name->QBh,wpAny_loadName_local->QBi,wpAny_newFunctionEnv->QBj,codeAny_extend_loopS->QBl,wpAny_pyIter_revIter->QBm,wpAny_newTuple->QBs,wpAny_loadName_free->QBx,wpAny_Tuple_spliced->QBy,evalArgs_none->QBz,wpAny_setItem_pairs->QB0,wpAny_of_eq->QB2,wpAny_Constant_int->QCE,wpAny_standAt->QCF,wpAny_handled->QCK,wpAny_pyIter_tuple->QCL,wpAny_assign_Name->QCR,slot_list_getitem->QCV,call_meets->QCW,wpAny_rule->QCY,wpAny_pyIter_slot->QCZ,wpAny_pyIter_enum->QCc,codeAny_mono->QCi,concat_meets->QCj,seqIndex_neg->QCk,wpAny_pyHash_str->QCp,wpAny_execs_cons->QCq,noFill_tuple_add->QCs,wpAny_pyIter_zip->QCv,wpAny_throw->QC6,wpAny_letGo->QC7,storedH_new->QC8,wpAny_load->QDG,typeIs_str->QDH,Str->QDJ
open PySem.W renaming Frag->QC,kia_one->qQ,nsIn->wG,fnOf->wH,keepIn->wf,mg_of->Wn,codeIn->W6,WData->QAS,codeHd_of_K->QAc,mg_none_of->QAk,methodObj->QAz,kitx_list->QA0,codeHdIn->QBH,cellsFrom_some->QBM,instObj->QBW,lookIn->QBp,kitOne->QBq,tabObj->QBw,kitx_tuple->QCH,kitx_dict->QCT,plainGet->QCr
open List renaming mem_cons_self->QD,mem_cons_of_mem->QE,length_map->QF,length_append->QI,mem_singleton->QJ,mem_cons->QL,size_toArray->QM,length_cons->QN,map_append->QR,mem_append_right->QT,mem_map->QW,map_cons->QX,map_map->Qa,mem_filter->Qb,getElem?_map->Qd,mem_append->Qf,getElem?_eq_some_iff->Qh,nil_append->Qi,getElem?_eq_getElem->Qk,nodup_cons->Ql,mem_append_left->Qm,range->Qq,contains_iff_mem->Qr,isEmpty_iff->Qs,getElem?_append_right->Qu,length_range->Qz,all_eq_true->Q1,append_assoc->Q4,mem_range->Q6,nodup_nil->Q7,length_take->Q8,getElem?_eq_none->qF,length_filter_le->qI,filter_sublist->qJ,toArray->qK,append_nil->qL,length_singleton->qO,getElem?_append_left->qS,length->qT,nodup_append->qW,getElem?_set_ne->qY,mem_of_getElem?->qZ,not_mem_nil->qh,length_reverse->qj,all_cons->qr,getElem?_set_self->qz,length_replicate->wI,ext_getElem?->wN,getElem?_set->wR,length_set->wT,find?_cons->wV,map_congr_left->wW,getElem_mem->wY,any_eq_true->wZ,map_nil->wa,mem_iff_getElem?->we,length_dropLast->wn,length_nil->wq,reverse_cons->wv,getElem?_cons_succ->w9,getElem?_replicate->WA,lookup_cons->WF,any_cons->WL,getElem?_zip_eq_some->WS,map_snd_zip->WV,map_reverse->WW,filter_cons->WX,filterMap_cons->WY,getElem?_range->WZ,of_mem_zip->Wh,zip_cons_cons->Wl,set->Wo,map_inj_right->Wp,length_zipIdx->Wq,drop_eq_nil_of_le->Wu,map_inj_left->W4,length_drop->QAF,map_fst_zip->QAH,mem_flatMap->QAJ,getElem?_modify->QAL,forIn_cons->QAT,foldl_cons->QAa,any_map->QAl,replicate->QAr,drop_eq_getElem_cons->QAw,getLast?_eq_getElem?->QAy,length_erase_of_mem->QA4,flatMap_cons->QA5,foldl_append->QA6,getElem?_cons_zero->QA8,cons_append->QBG,take_length->QBK,mem_reverse->QBL,length_pos_of_mem->QBS,length_eq_one_iff->QBT,modify_succ_cons->QBU,modify_zero_cons->QBV,getD->QBZ,length_zip->QBf,mem_zipIdx->QBg,mem_erase_of_ne->QBn,mem_of_mem_take->QBo,forIn_nil->QBr,drop_zero->QBv,getElem_of_mem->QB1,mem_map_of_mem->QB5,mergeSort_perm->QB7,set_cons_zero->QB8,set_cons_succ->QB9,mem_filterMap->QCG,map_take->QCN,any_eq_false->QCS,mapM_toArray->QCa,pairwise_map->QCf,all_map->QCl,nodup_range->QCy,cons_ne_nil->QC0,lookup->QC4,Perm->QDB,map_id->QDC,take_left'->QDF
open Bool renaming false_ne_true->QG,and_eq_true->QZ,false_eq_true->Qw,eq_iff_iff->Q2,not_eq_true'->qD,or_eq_true->wz,true_and->WK,not_false->WQ,false_and->W5,and_eq_true_iff->QAN,and_true->QAO,not_true->QAP,and_false->QAo,false_or->QA9,or_false->QCA,or_true->QCg,true_or->QCh
open PySem.Heap renaming get?_push_of_some->QH,get?_push_size->QO,lt_size->QS,SameBut->qk,get?_update_self->wb,size_push->WG,get?_update_other->Wr,get?_push_cases->QAK,ExtBut->QAV,size_update->QCx,IsList->QC5
open Nat renaming le_trans->QU,le_refl->QV,ne_of_lt->Qj,zero_le->Qn,lt_of_lt_of_le->Qt,lt_irrefl->qG,le_add_right->qw,le_succ->wU,lt_of_succ_lt_succ->wX,ne_of_gt->w8,min_le_right->WE,le_of_eq->WH,lt_succ_of_lt->WM,lt_of_le_of_lt->We,zero_add->W7,le_of_lt->W8,succ_le_succ->QAG,lt_trans->QAi,sub_self->QAn,lt_or_ge->QBX,lt_succ_self->QCo,succ_lt_succ->QC1,min_eq_left->QDE,blt->QDI
open PySem.Str renaming ofString->QY
open False renaming elim->Qg
open PySem.PyData renaming eqv->Qo,strOk->qd,canLayAll0->wC,depthAll->ww,layable0->QAY,canLay0->QAt,depth->QBY,noConfusion->QCJ,weight->QCQ,weightAll->QCz
open Option.some renaming inj->Qp,injEq->Qv
open PySem.Challenge renaming pw_quoteweave_k45_quotes_said_truly->Qx,rw_quoteweave_k45_quotes_said_truly->Q9
open Array renaming length_toList->Q0,perm_iff_toList_perm->qX,toList_inj->WU,getElem?_toList->QAA,getElem?_eq_some_iff->QAg,getElem?_eq_none->QBP,forIn_toList->QCB
open PyProof.Rows renaming callWith_type1->Q3,subscriptTail_builtinR->q0,slot_tuple_getitem->wu,boot_reversed->WO,listUpdate_at->Wk,get?_update_seq->QAW,slot_tuple_getitem->QAh,boot_list->QBR,seqEpoch_at->QB3,getItem_tuple->QCI,sortedAll_old->QCM,Subscript_->QCU,listItems_at->QCm,sortedAll_at->QCn
open PySem.Obj renaming mapSeq->Q5,data_mapFields->Wj,isFreed_of_fields->QBa,data_mapDictKeys->QBk,cls_mapFields->QCX
open PySem.Heap.SameBut renaming update->qA
open Ne renaming symm->qC
open Option renaming map_some->qE,map_none->w4,isNone_iff_eq_none->QAx,isSome_map->QA2,getD_none->QCt,getD_some->QCu
open PySem.Builtin.Str renaming occurrences->qH
open Int renaming toNat_natCast->qN,lt_irrefl->WD,le_refl->Wa,emod_eq_of_lt->W0,le_trans->QAm,natCast_nonneg->QCP,toNat->QDD
open PySem.Paired renaming length->qP
open LawfulBEq renaming eq_of_beq->qe
open PySem.Builtin.SmallTypes renaming nextOf->qf
open PySem.F renaming slot_dict_itemiterator_next->qi,slot_dict_keyiterator_next->qm,slot_tuple_iterator_next->qy,plainAttrs_list->WB,args_tuple_iterator_next_1->Wc,entry_tuple_iterator_next->Wi,args_dict_itemiterator_next_1->Ww,plain_list_iadd->Wx,entry_dict_itemiterator_next->QAB,args_dict_keyiterator_next_1->QAE,entry_dict_keyiterator_next->QAI,slot_dict_getitem->QAs,args_tuple_add_2->QA1,entry_tuple_add->QBA,plainAttrs_dict->QBF,slot_tuple_add->QBN,slot_dict_items_iter->QBO,entry_proto_collect->QBd,plain_proto_collect->QBe,called_tuple->QBu,plain_extend_loop->QB4,entry_list_iadd->QCd,plain_tuple_new->QCe,slot_dict_iter->QCw
open PySem.Builtin.Tuple renaming tupleExact->ql,tupleItemsOf->QAd,tupleHashOf->QAp
open PySem.Calls renaming spliced_cons->qp,spliced_nil->wP,callWith_builtin->Ws,Name_function_global->QAe
open PySem.Builtin.List renaming listExtendWith->qt,listTooLong->Wb,listLengthHint->QAX,listSameRef->QA3,listUpdate->QBE,listItems->QBQ
open PySem.Around renaming under_plainId->qu,in1_units->QBI
open PySem.SeqAt renaming EqAt->wB
open Prod renaming fst->wE,snd->QCO,ext->QC2
open Lean.Parser.Tactic renaming tacticSeq->wM
open PySem.Builtin.Slice renaming slicePlaces->wg,sliceAdjust->WR,sliceApplied->QAf
open PySem.Builtin.Dict_items renaming addrOf->wk,ownsTuple->QAQ
open Classical renaming byContradiction->wm
open List.Pairwise renaming imp_of_mem->w6,map->Wz
open PySem.W.WData renaming weightAll->WC,weight->QAM
open PySem.Txt renaming slice->WI
open Iff renaming rfl->WP
open PySem.Builtin.Range renaming rangeSize->Wg,small->QB6
open List.cons renaming injEq->Wm
open PySem.Builtin.Dict renaming showsAll->QAD
open PySem.Builtin.Int renaming intBits->QAZ
open Prod.mk renaming inj->QAb
open PySem.StrLaws renaming sliceText->QA7
open List.Perm renaming refl->QBt
open PySem.SeqAt.EqAt renaming int_str->QCC,str_int->QCD
open PyProof.Rows.SortSt renaming mk'->QCb
open PyProof.Rows.IsTup renaming new->QC3
open Array.Perm renaming refl->QC9
open StateT renaming run_pure->QDA
theorem dF{p:Prop}[Decidable p](h:¬p):decide p=false:=_root_.decide_eq_false h
theorem dT{p:Prop}[Decidable p](h:p):decide p=true:=_root_.decide_eq_true h
abbrev AB:=List (PySem.Addr×PySem.Obj)
abbrev mC:=PySem.Value -> PySem.Shared -> Prop
abbrev mB:=PySem.Addr -> Prop
abbrev TC:=List (QDJ×QDJ)
open Option renaming some->jr,none->kv
open Bool renaming true->kf,false->kd
open PySem renaming sizeLine->kb,Value->kn,Shared->kt,wpAny->ku,Addr->ko,model->k0,mainGlobals->k4,Program->k5,compareOp->vx,Heap->vu,starEach->xk,World->xb,Paired->xm,Around->x0,PyData->x2,bootBuiltins->y1,sysModules->zl,FuncData->zo,Stmt->gV,cLine->gl,eval->gp,Operator->g6,binaryOp->g7,Scope->hZ,foldedSetIterable->hB,assignEach->hE,rawInt->hQ,firstArgMember->h7,entryOfKey->h8,sliceBounds->fy,backTo->fk,CmpOp->fv,NameKind->fb,codeAmong->fm,attributeBase->DC,letOwnedTupleGo->dy,typeNameOfWhole->dt,recursionLimit->d3,spliced->bb,call->b8,DictEntry->c0,builtinsNs->Er,IsItemIter->ej,atKey->eH,assign->ef,bindArgs->ew,ReadsAll->lj,revObj->lv,swapsWith->lb,Keyword->ll,relabel->ln,valueAt->lp,behindInMarks->lr,pyIter->la,IsPart->li,closureFor->l0,IntMulOk->l4,BindsTo->l5,getItem->l8,callerA->mx,eqIsQuiet->me,TriplesOk->mm,pyNext->mu,typeLookup_type->mA,codeAny->mi,ItemsOf->nj,bindL->nc,bindC->nL,typeLookup->nP,PlainAttrs->nt,wpAny_notIn_of->ni,newExc->n7,newTuple->P0,dictSetDefault->pd,callType_codes->pc,isSubtype_type->pL,wpAny_runValue->pR,assignInOrder->pu,rangeSize_one->p0,intBits_le_64->p5,seq_tuple_add->p6,evalPart_none->p7,call_list_seq->p8,comprehension->RB,IsItemIterOut->Rt,Comprehension->rk,Arguments->rn,PassesOwn->ri,cellsFrom->ro,Const->sh,holding->sn,UnaryOp->tj,newList->tv,storedH->th,collect->tt,IsRange->ti,HeapKind->u0,field->aj,raiseNew->ax
open Pure renaming pure->ak
open PyProof.Rows renaming seqObj->ah,oneType'->ab,StrsAre->ac,AllBare->ai,envOfC->a8,pairsOf->a9,subscriptTail->ir,IntsAre->ii,sortedS->i0,IsTup->i3,entry_list_sort->ot,slicePart_none->oa,slot_list_sort->o2,failedOf->o9
theorem QB.{u}{c:Prop}{d:Decidable c}(h:¬c){α:Sort u}{t e:α}:ite c t e=e:=_root_.if_neg h
theorem Qc.{u}{c:Prop}{d:Decidable c}(h:c){α:Sort u}{t e:α}:ite c t e=t:=_root_.if_pos h
theorem Qe{a b:Prop}(h:a)(k:¬a):b:=_root_.absurd h k
theorem qs{a b:Prop}(h:a<->b):a=b:=_root_.propext h
theorem qq{p:Prop}[Decidable p](h:decide p=true):p:=_root_.of_decide_eq_true h
theorem q7{p:Prop}[Decidable p]:decide p=true<->p:=_root_.decide_eq_true_iff
theorem wy.{u,v}{α:Sort u}{β:Sort v}{a b:α}(f:α->β)(h:a=b):f a=f b:=_root_.congrArg f h
local macro_rules | `($x.$i:fieldIdx)=>if i.raw.isFieldIdx?==some 9 then `(($x).length) else Lean.Macro.throwUnsupported
set_option hygiene false in
local macro_rules
 | `(#[$xs,*])=>if xs.getElems.isEmpty then Lean.Macro.throwUnsupported else `(⟨$xs,*⟩)
 | `(())=>`(by omega)
open Lean Parser.Tactic in
def zzp:Nat->Syntax->MacroM (TSyntax `rcasesPat)
 | 0,_=>Macro.throwUnsupported
 | n+1,s=>match s with
  | `(#[$xs,*])=>do
   let a<-xs.getElems.mapM λx=>do let p<-zzp n x;`(rcasesPatLo| $p:rcasesPat)
   `(rcasesPat| ⟨$a,*⟩)
  | `(_)=>`(rcasesPat| _)
  | `($x:ident)=>`(rcasesPat| $x:ident)
  | _=>Macro.throwUnsupported
local macro_rules | `(tactic| let $p:term:=$e:term)=>do `(tactic| obtain $(<-zzp 9 p):rcasesPat:=$e)
set_option hygiene false in
local macro_rules | `(tactic| omega)=>do
 let f:=λ(s:String)=>(s.splitOn " ").toArray.map λx=>Lean.mkIdent x.toName
 let a<-(f "L2.szA L2.szB L2.szC L2.unA Nat.le_trans Nat.lt_of_le_of_lt").mapM λx=>`(wM| exact $x (by assumption) (by decide))
 let b<-(f "Nat.lt_of_lt_of_le Nat.lt_of_le_of_lt Nat.le_trans").mapM λx=>`(wM| exact $x (by assumption) (by assumption))
 let c<-(f "Nat.le_of_lt Nat.ne_of_lt Nat.ne_of_gt Nat.lt_succ_of_lt Nat.le_of_lt_succ L2.prA").mapM λx=>`(wM| exact $x (by assumption))
 let d<-(f "Nat.le_refl Nat.le_succ Nat.zero_le Nat.succ_pos").mapM λx=>`(wM| exact $x _)
 `(tactic| first|decide|assumption|exact L2.szL (by decide) $[| $a]* $[| $b]* $[| $c]* $[| $d]*|lia|omega (config:={})|(have:=PySem.sizeLine_eq;first|lia|omega (config:={})))
set_option hygiene false in
local macro_rules
 | `(%[ $xs,*|1 ])=>do
  let mut r<-`(PX.anil)
  for x in xs.getElems.reverse do r<-`(PX.acons $x $r)
  return r
 | `(%[ $xs,*|2 ])=>do
  let mut r<-`(PT.nil)
  for x in xs.getElems.reverse do r<-`(PT.seq $x $r)
  return r
def zza:="zA Fh Lh xa Hh Mh Oh Dh ja Gh Nh Ch xi Lu fi Zh Vi si Nu Zi Va Xh Ci Di Uh Yi Kh E9 Ou Ji sV rV Ja Ui Xi oV pV Ki ui Ka bh A9 fu du dh Fi Ua eV iV Ph iu Th ba ca Eh Ih Ju Ah Sh Rh ua jAM jAQ jAN jAP jAO Gu Fu jAJ jAL jAK Kz Jz Yz jAB Iz jAA Ez xp Dz jAS jAR TY Ts As Tz Rz Pz Oz Nz Mz Lz Hz Gz Fz Xu Vu ji Xz Vz Uz Yu zi Az Hy SZ Ru Re Jh eh mh nh rh oh tu su ph Fd Ys yh C9 Sg Ag Ct Nt pz Tt U9 Ig X9 B9 RN Eg yz az og Gr Dr rg eg Ay Oa T4 Zp Bv xz uz Yq Iy Ey Op Lp Gp Fp Tp rf Yh Pg GA reduceIte"
def zzb:="BH NE SF rS T.isD lockA gG lock kill mG Tg.ix nC uY xP GS isMut jX frzAt cX Ve vD.eq_1 vD.eq_2 yN.eq_1 yN.eq_2 yN.eq_3 yN.eq_4 A7 T7 S7 cJ.eq_1 List.modify_succ_cons List.modify_zero_cons Option.map_some List.length_cons List.length_nil List.getElem?_cons_zero List.getElem?_cons_succ List.cons_append List.nil_append List.set_cons_zero List.set_cons_succ Nat.reduceAdd Nat.reduceSub Nat.zero_add Bool.and_true Bool.true_and Bool.not_true Bool.not_false Bool.or_true Bool.true_or Bool.or_false Bool.false_or Bool.and_false Bool.false_and if_true if_false Bool.false_eq_true true_and and_true false_implies ne_eq reduceCtorEq not_false_eq_true not_true_eq_false implies_true forall_const Int.reduceLT Int.reduceLE Int.reducePow Int.reduceNeg Nat.reducePow and_self eq_self Option.some.injEq Sl.own.injEq Sl.bor.injEq and_assoc decide_true decide_false"
set_option hygiene false in
local macro_rules | `(tactic| simp! [$ls,*])=>do
 let a<-(zza.splitOn " ").toArray.mapM λx=>`(Lean.Parser.Tactic.simpLemma| ↓ $(Lean.mkIdent x.toName):ident)
 let b<-(zzb.splitOn " ").toArray.mapM λx=>`(Lean.Parser.Tactic.simpLemma| $(Lean.mkIdent x.toName):ident)
 `(tactic| simp only [$ls,*,$a,*,$b,*])
set_option hygiene false in
local macro_rules | `(tactic| simp_arith! [$ls,*])=>do
 let a<-(zza.splitOn " ").toArray.mapM λx=>`(Lean.Parser.Tactic.simpLemma| ↓ $(Lean.mkIdent x.toName):ident)
 let b<-(zzb.splitOn " ").toArray.mapM λx=>`(Lean.Parser.Tactic.simpLemma| $(Lean.mkIdent x.toName):ident)
 `(tactic| simp -implicitDefEqProofs only [$ls,*,$a,*,$b,*])
abbrev LS:=List QDJ
abbrev LN:=List Nat
abbrev LJ:=List Int
abbrev LW:=List PySem.Value
namespace L2.L3.Q
open PySem PySem.W PySem.Spec PyProof.Rows
noncomputable def sv(x:List ko)(h:vu):QC:=x.filterMap λa=>(h.get? a).map λo=>(a,o)
noncomputable abbrev Kv:=(Str×Str×rn×FuncBody×hZ)×(ko×List (Str×ko)×kn×ko)×Bool
noncomputable def jp(h:zo)(b:Bool):Kv:=((h.name,h.qualname,h.params,h.body,h.scope),(h.globals,h.closure,h.defaults,h.builtins),b)
def fX(K:QC)(x:Str):Option Kv:=match wG K k4 x with
 |some (jr (.ref f))=>(match K.lookup f with
  |some #[_,_,.func fd,_]=>jr (jp fd (W6 K fd.code x&&wf K (.ref f)))|_=>kv)
 |_=>kv
def YU(x:Str)(st:gV):Option Kv:=match st with
 | .FunctionDef _ a b _ _ _ sc _ _ _=>jr (jp (wH x x a b sc .none .none .none .none kv .none .none) kf)|_=>kv
def dq:kn->Option Str
 | .str z _=>jr z|_=>kv
noncomputable def jj(K:QC)(x:Str):Option (List (Option Str)):=match wG K k4 x with
 |some (jr (.ref f))=>(match K.lookup f with
  |some #[.type t,_,.seq its _,_]=>if t="tuple" then jr (its.toList.map dq) else kv|_=>kv)
 |_=>kv
def gx:kn->Option Int
 | .int i _=>jr i|_=>kv
noncomputable def Ai(K:QC)(x:Str):Option Int:=match wG K k4 x with
 |some (jr u)=>gx u|_=>kv
noncomputable def YW(K:QC)(x:Str):Bool:=match wG K k4 x with
 |some kv=>kf|_=>kd
noncomputable def oG(K:QC)(T:ko):Bool:=(match wG K k4 "going_order" with
 |some (jr (.ref f))=>(match K.lookup f with
  |some #[_,_,.func fd,_]=>(match fd.code with
   | .ref c=>QBH K c T|_=>kd)
  |_=>kd)
 |_=>kd)&&((match wG K k4 "__builtins__" with
 |some (jr (.ref b))=>(match K.lookup b with
  |some #[.type t,jr d,.plain,_]=>t == "module" && (d==Er&&(b != Er&&(b != k4&&b != T)))|_=>kd)
 |_=>kd)&&((K.lookup T).isNone&&k4 != T))
def top(i:Nat):Stmt:=Qx.main.body.getD i (.Pass #[0,0,0,0])
noncomputable def fT:List (Str×Nat):=([("_law_mixed",41),("_law_cell_at",40),("_law_letters",42),("_law_spelt",43),("_law_words",44),("_law_person",45),("_law_folded",49),("_law_quote",47),("_law_event",48),("_law_against",46),("_law_world",50),("going_order",16),("has_against",21),("rank_of",19),("floor_of",20),("is_taken",18),("seen_among",23),("wrong_among",22),("live_among",24),("edges_of",27),("seers_of",26),("add_way",6),("add_name",5),("rooms_of",4),("points_reached",7),("lay_chain",8),("name_behind",10),("chain_from",9),("full_names",11),("apart_chains",3),("told_through",14),("ground_alone",13),("needs_of",29),("holders_in",28),("held_among",25),("gone",17),("past_in",33),("moment_ahead",32),("live_in",34),("seen_in",35),("said_truly_in",38),("last_moment",31),("said_truly",37),("_law_due",51),("law",52)]:List (String×Nat)).map λp=>(QY p.1,p.2)
def tT:List (Str×LS):=[("BEGIN",["","begin"])]
def sT:List (Str×Int):=[("WIDE",2)]
noncomputable def nT:LS:=(["all","any","bool","enumerate","isinstance","len","list","min","range","reversed","sorted","tuple","zip"]:List String).map QY
noncomputable def qv:Program:={ Qx with main:={ Qx.main with body:=[1,2,3,4,5,6,7,8,9,10,11,13,14,16,17,18,19,20,21,22,23,24,25,26,27,28,29,31,32,33,34,35,37,38,40,41,42,43,44,45,46,47,48,49,50,51,52].map top } }
def tA:Addr:=84
noncomputable abbrev HZ:=List (Option Kv)×List (Option (List (Option Str)))×List (Option Int)×List Bool×Bool
def seen(K:Frag):HZ:=(fT.map λp=>fX K p.1,tT.map λp=>jj K p.1,sT.map λp=>Ai K p.1,nT.map (YW K),oG K tA)
def due:HZ:=(fT.map λp=>YU p.1 (top p.2),tT.map λp=>jr (p.2.map jr),sT.map λp=>jr p.2,nT.map λ_=>kf,kf)
def fr(s:kt):Frag:=sv ((Qq 300).filter λa=>a != tA) s.1
def xt(s:kt):Bool:=xlAt qv [] s&&recOk (RowW.records Q9.row.toRowW) s
def ob(s:kt):HZ×Option Obj:=(seen (fr s),s.1.get? tA)
theorem lf:LeftO Qx qv [] xt ob (λ_=>(due,jr (tabObj #[]))) 2942:=by intro w;kernel_rfl
theorem ws:Q9.wellSaid=true:=by kernel_rfl
end L2.L3.Q
namespace L2
open PySem PySem.Spec PyProof.Rows
section
variable{n m:Nat}
theorem szL(h:n<=16777216):n<=sizeLine:=by rw[qB];exact h
theorem jAZ(h:n<16777216):n<sizeLine:=by rw[qB];exact h
theorem jAa(h:n<=m)(k:m<=16777216):n<=sizeLine:=szL (QU h k)
theorem jAn(h:n<=m)(k:m<16777216):n<sizeLine:=jAZ (We h k)
theorem jAm(h:n<=m)(k:m<=16777216):0+n<=sizeLine:=by rw[W7];exact jAa h k
theorem jAl{k c:Nat}(h:n+k<c)(l:m<=k):n+m<c:=We (Nat.add_le_add_left l n) h
theorem jAo(h:m<n):n - 1<n:=by cases n with|zero=>exact(nomatch h)|succ n=>exact QCo n
end
open PySem.SeqAt
inductive NK where
 |s (x:Str)|t (xs:List NK)
noncomputable instance:DecidableEq NK:=λ_ _=>Classical.propDecidable _
mutual
def B4(h:vu):NK->kn->Prop
 | .s x,v=>∃t,v=.str x t|.t ks,v=>∃a y,v=.ref a/\h.IsTuple a y/\NKvs h ks y.toList
def NKvs(h:vu):List NK->LW->Prop
 |[],vs=>vs=[]|k::ks,vs=>∃v r,vs=v::r/\B4 h k v/\NKvs h ks r
end
mutual
def L7:NK->Nat
 | .s _=>0|.t h=>nkds h+1
def nkds:List NK->Nat
 |[]=>0|k::ks=>max (L7 k) (nkds ks)
end
mutual
def Iw(w:xb):NK->Int
 | .s x=>hashStr w x|.t h=>reduceHash (QAp (nkhs w h))
def nkhs(w:xb):List NK->LJ
 |[]=>[]|k::ks=>Iw w k::nkhs w ks
end
mutual
def Ro:NK->Nat
 | .s _=>1|.t h=>nkts h+1
def nkts:List NK->Nat
 |[]=>0|k::ks=>Ro k+nkts ks
end
theorem dY{h:vu}{a:ko}{xs x:Array kn}(p:h.IsTuple a xs)(q:h.IsTuple a x):xs=x:=by let#[o,e,_,n,d]:=p;let#[u,y,_,v,z]:=q;cases e.symm.trans y;cases d.symm.trans z;rfl
mutual
theorem M7{h:vu}:∀{k l:NK}{v:kn},B4 h k v->B4 h l v->k=l
 | .s x,.s y,v,#[t,e],#[u,e']=>by subst e;cases e';rfl|.s x,.t ls,v,#[t,e],#[_,_,e',_]=>by subst e;cases e'|.t ks,.s y,v,#[_,_,e,_],#[_,e']=>by subst e;cases e'|.t ks,.t ls,v,#[a,its,e,p,q],#[b,jts,e',p',q']=>by subst e;cases e';cases dY p p';rw[nks_inj q q']
theorem nks_inj{h:vu}:∀{ks ls:List NK}{vs:LW},NKvs h ks vs->NKvs h ls vs->ks=ls
 |[],[],_,_,_=>rfl|[],_::_,_,e,#[_,_,e',_]=>by cases(show _=[] from e).symm.trans e'|_::_,[],_,#[_,_,e',_],e=>by cases(show _=[] from e).symm.trans e'|k::ks,l::ls,_,#[v,r,e,p,q],#[v',r',e',p',q']=>by cases e.symm.trans e';rw[M7 p p',nks_inj q q']
end
mutual
theorem FT{h h':vu}(k:∀a its,h.IsTuple a its->h'.IsTuple a its):∀{x:NK}{v:kn},B4 h x v->B4 h' x v
 | .s x,v,e=>e|.t ks,v,#[a,its,e,p,q]=>#[a,its,e,k a its p,nks_keeps k q]
theorem nks_keeps{h h':vu}(k:∀a its,h.IsTuple a its->h'.IsTuple a its):∀{xs:List NK}{vs:LW},NKvs h xs vs->NKvs h' xs vs
 |[],_,e=>e|x::xs,_,#[v,r,e,p,q]=>#[v,r,e,FT k p,nks_keeps k q]
end
section
variable{prog:k5}{w:xb}{E:mC}
mutual
theorem SY:∀(k:NK) (v:kn) (A:x0) (s:kt) (Q:Int->kt->Prop),B4 s.1 k v->A.units+L7 k<gl->Q (Iw w k) { s with toks:=s.toks+Ro k }->ku (k0 prog w) A (pyHash v) Q E s
 | .s x,v,A,s,Q,#[t,e],_,q=>by subst e;exact QCp q|.t ks,v,A,s,Q,#[a,its,e,#[o,ho,hc,n,hd],hi],h,q=>by subst e;have h:A.units+(nkds ks+1)<cLine:=h;refine PySem.W.pyHash_slot (T:="tuple") #[o,ho,hc] F.slot_tuple_hash F.entry_tuple_hash (F.args_tuple_hash_1 _) (beq_builtin_none _) (.inr ()) ?_;show ku _ _ (QAd (.ref a) >>= _) _ _ s;refine QA (wpAny_tupleItemsOf ho hd ?_);refine QA ?_;rw[<- QCB];refine nk_loop ks its.toList A.in1 s #[] _ hi (by rw[QBI];omega) λb hb=>?_;show ku _ _ (retInt (QAp b.toList)) _ _ _;rw[hb];exact QA (wpAny_mkInt (QK #[_,_,rfl,by rw[Nat.add_assoc];exact q]))
theorem nk_loop:∀(ks:List NK) (vs:LW) (A:x0) (s:kt) (b:Array Int) (Q:Array Int->kt->Prop),NKvs s.1 ks vs->A.units+nkds ks<gl ->
  (∀y,y.toList=b.toList++nkhs w ks->Q y { s with toks:=s.toks+nkts ks }) ->
  ku (k0 prog w) A (forIn vs b λx r=>do let h <- pyHash x;ak PUnit.unit;ak (ForInStep.yield (r.push h))) Q E s
 |[],vs,A,s,b,Q,e,_,q=>by subst e;exact QK (q b (qL _).symm)|k::ks,vs,A,s,b,Q,#[v,r,e,p,p'],z,q=>by subst e;have z:A.units+max (L7 k) (nkds ks)<cLine:=z;rw[QAT];refine QA (QA (SY k v A s _ p () ?_));refine QA (QK (QK ?_));refine nk_loop ks r A _ _ Q p' () λy hb=>?_;have e:s.toks+Ro k+nkts ks=s.toks+(Ro k+nkts ks):=Nat.add_assoc _ _ _;have:=q y (by rw[hb,Array.toList_push,Q4];rfl);show Q y { s with toks:=s.toks+Ro k+nkts ks };rw[e];exact this
end
end
theorem fo{ks ls:List NK}{n m:Nat}(x:n=ks.9)(y:m=ls.9):((Qq (min n m)).all (λj=>decide (ks[j]?=ls[j]?))&&n==m)=decide (NK.t ks=NK.t ls):=by subst x y;rw[Q2,q7,QZ,Q1,beq_iff_eq];constructor;rintro⟨z,v⟩;congr 1;refine wN λj=>?_;by_cases u:j<ks.9;exact qq (z j (Q6.mpr ()));rw[qF (),qF ()];intro h;injection h with h;subst h;exact#[λ_ _=>dT rfl,rfl]
theorem lR{h:vu}:∀{ks:List NK}{vs:LW},NKvs h ks vs->vs.9=ks.9
 |[],_,e=>by cases(show _=[] from e);rfl|_::_,_,#[v,r,e,_,q]=>by rw[e,QN,QN,lR q]
mutual
theorem dg:∀(k l:NK) (v u:kn) (A:x0) (s:kt),B4 s.1 k v->B4 s.1 l u->A.units+L7 k<gl->EqAt A s v u (decide (k=l))
 | .s x,.s y,v,u,A,s,#[t,e],#[t',e'],_=>by
  subst e e';have:=EqAt.str_str (A:=A) (s:=s) x t y t';have z:(x==y)=decide (NK.s x=NK.s y):=by rw[Q2,q7,beq_iff_eq];exact#[λh=>h▸rfl,λh=>by injection h]
  rw[<- z];exact this
 | .s x,.t ls,v,u,A,s,#[t,e],#[b,jts,e',p,_],f=>by subst e e';rw[dF λh=>by cases h];exact EqAt.str_tuple x t p ()|.t ks,.s y,v,u,A,s,#[a,its,e,p,_],#[t,e'],f=>by subst e e';rw[dF λh=>by cases h];exact EqAt.tuple_str y t p ()|.t ks,.t ls,v,u,A,s,#[a,its,e,p,q],#[b,jts,e',p',q'],f=>by subst e e';by_cases w:a=b;subst w;cases dY p p';rw[nks_inj q q',dT rfl];exact EqAt.same _;have f:A.units+(nkds ks+1)<cLine:=f;refine EqAt.of_refs w ?_;have i:=lR q;have g:=lR q';rw[Q0]at i g;rw[<- fo i g];refine RcAt.tuples p p' () λj n m=>?_;have:=nks_eq ks ls its.toList jts.toList A.in1 s q q' (by rw[QBI];omega) j (by rw[Q0];exact n) (by rw[Q0];exact m);simpa using this
theorem nks_eq:∀(ks ls:List NK) (vs us:LW) (A:x0) (s:kt),NKvs s.1 ks vs->NKvs s.1 ls us->A.units+nkds ks<gl->∀j (y:j<vs.9) (x:j<us.9),EqAt A s vs[j] us[j] (decide (ks[j]?=ls[j]?))
 |[],_,vs,us,A,s,e,_,_,j,y,_=>by cases(show vs=[] from e);cases y|_::_,[],vs,us,A,s,_,e,_,j,_,x=>by cases(show us=[] from e);cases x|k::ks,l::ls,_,_,A,s,#[v,r,e,p,q],#[v',r',e',p',q'],u,j,y,x=>by
  subst e e';have u:A.units+max (L7 k) (nkds ks)<cLine:=u;cases j with|zero=>have:=dg k l v v' A s p p' ();have z:decide (k=l)=decide ((k::ks)[0]?=(l::ls)[0]?):=decide_eq_decide.mpr #[λh=>by rw[h];rfl,λh=>Qp h];rw[<- z];exact this|succ j=>exact nks_eq ks ls r r' A s q q' () j (wX y) (wX x)
end
section
variable{prog:k5}{w:xb}{A:x0}{E:mC}{s:kt}
mutual
theorem DT:∀(k:NK) (v:kn) (n:Nat) (Q:Bool->kt->Prop),B4 s.1 k v->L7 k<=n->Q kf s->ku (k0 prog w) A (me n v) Q E s
 | .s x,v,n,Q,#[t,e],_,q=>by subst e;rw[eqIsQuiet_byValue _ rfl];exact QK q|.t ks,v,n,Q,#[a,its,e,#[o,ho,hc,m,hd],hi],g,q=>by
  subst e;have g:nkds ks+1<=n:=g;obtain⟨n,rfl⟩:∃m,n=m+1:=#[n - 1,()]
  have i:s.TypeIs (.ref a) "tuple":=#[o,ho,hc]
  unfold me;refine QA (Wf i F.slot_tuple_eq.lookup ?_);show ku _ _ (isInstance (.ref a) (.type "tuple") >>= _) _ _ s;refine QA (WT i isSubtype_tuple_tuple ?_);simp only[QAP,Qw,if_false];refine QA (QAq ho hd ?_);refine QA ?_;show ku _ _ (forIn its _ _) _ _ s;rw[<- QCB];refine wpAny_forIn_list _ (λh r z=>r.1=kv/\z=s/\∀v∈h,∀Q:Bool->kt->Prop,Q kf s->ku (k0 prog w) A (me n v) Q E s) _ ?_ ?_ _ _ #[rfl,rfl,nks_quiet ks its.toList n hi ()];rintro v h r z ⟨f,rfl,y⟩;refine QA (y v QD _ ?_);simp only[QAP,Qw,if_false];exact QK #[rfl,rfl,λu b=>y u (QE _ b)];rintro⟨j,l⟩ z ⟨f,rfl,_⟩;cases(show j=kv from f);exact QK q
theorem nks_quiet:∀(ks:List NK) (vs:LW) (n:Nat),NKvs s.1 ks vs->nkds ks<=n->∀v∈vs,∀Q:Bool->kt->Prop,Q kf s->ku (k0 prog w) A (me n v) Q E s
 |[],vs,n,e,_,v,hv,Q,q=>by cases(show vs=[] from e);cases hv|k::ks,vs,n,#[x,r,e,p,p'],h,v,hv,Q,q=>by subst e;have h:max (L7 k) (nkds ks)<=n:=h;rcases QL.mp hv with rfl|hv;exact DT k v n Q p () q;exact nks_quiet ks r n p' () v hv Q q
end
end
section
variable{H:Hp}{a b:ko}{o:HO}
def uF(prog:k5)(w:xb):u0 prog w NK where
 is:=λh k a=>B4 h k (.ref a)/\L7 k<=6
 hash:=Iw w
 draws:=Ro
 room:=λA=>A.units+8<gl
 inj:=λy u=>M7 y.1 u.1
 keeps:=λ{h m k a d o p q} x j l i=>#[FT (λb f #[ob,e,c,n,v]=>#[ob,(i.2 b λz=>by subst z;cases e.symm.trans j;cases l.symm.trans v).trans e,c,n,v]) x.1,x.2]
 pyHash:=λg hk h=>SY _ _ _ _ _ hk.1 (by have:=hk.2;omega) h
 eqBool:=λg y u h=>dg _ _ _ _ _ _ y.1 u.1 (by have:=y.2;omega) _ _ _ _ h
 quiet:=λhk h=>DT _ _ _ _ hk.1 (by have:=hk.2;omega) h
noncomputable abbrev Key:=Sum Int Str
noncomputable def BP:Key->kn->Bool
 | .inl k,v=>Value.isInt k v|.inr x,v=>Value.isStrOf x v
noncomputable def cx(w:xb):Key->Int
 | .inl k=>hashInt k|.inr x=>hashStr w x
theorem jB:∀{k:Key}{v:kn},BP k v=kf->(∃i t,k=Sum.inl i/\v=Value.int i t)∨(∃x t,k=Sum.inr x/\v=Value.str x t)
 | .inl i,v,h=>by let#[t,e]:=Value.isInt_shape (k:=i) (v:=v) h;exact .inl #[i,t,rfl,e]|.inr x,v,h=>by let#[t,e]:=Value.isStrOf_shape (x:=x) (v:=v) h;exact .inr #[x,t,rfl,e]
theorem K3(i:Int)(t:Tok):BP (.inl i) (.int i t)=true:=by simp[BP,Value.isInt]
theorem Y3(x:Str)(t:Tok):BP (.inr x) (.str x t)=true:=by simp[BP,Value.isStrOf]
theorem Jm(a b:Int):decide ((Sum.inl a:Key)=Sum.inl b)=(a==b):=by by_cases e:a=b;subst e;simp;have h:¬ (Sum.inl a:Key)=Sum.inl b:=λq=>e (Sum.inl.inj q);rw[dF h];exact(beq_eq_false_iff_ne.mpr e).symm
theorem om(a b:Str):decide ((Sum.inr a:Key)=Sum.inr b)=decide (a=b):=by by_cases e:a=b;subst e;simp;have h:¬ (Sum.inr a:Key)=Sum.inr b:=λq=>e (Sum.inr.inj q);rw[dF h,dF e]
theorem im(a:Int)(b:Str):decide ((Sum.inl a:Key)=Sum.inr b)=false:=dF (λq=>nomatch q)
theorem am(a:Str)(b:Int):decide ((Sum.inr a:Key)=Sum.inl b)=false:=dF (λq=>nomatch q)
def zE(prog:k5)(w:xb):PySem.KeyKind prog w Key where
 is:=BP
 hash:=cx w
 inj:=λv a b f hb=>by
  rcases jB f with⟨i,t,rfl,rfl⟩| ⟨x,t,rfl,rfl⟩
  rcases jB hb with⟨j,u,rfl,e⟩| ⟨y,u,rfl,e⟩
  ·injection e with e1 _;rw[e1]
  exact nomatch e;rcases jB hb with⟨j,u,rfl,e⟩| ⟨y,u,rfl,e⟩
  ·exact nomatch e
  injection e with e1 _;rw[e1]
 byValue:=λk v h=>by rcases jB h with⟨i,t,rfl,rfl⟩| ⟨x,t,rfl,rfl⟩<;>rfl
 pyHash:=λhv h=>by
  rcases jB hv with⟨i,t,rfl,rfl⟩| ⟨x,t,rfl,rfl⟩
  exact wpAny_pyHash_int h;exact QCp h
 eqBool:=λz hv h=>by
  rcases jB z with⟨i,t,rfl,rfl⟩| ⟨x,t,rfl,rfl⟩
  rcases jB hv with⟨j,u,rfl,rfl⟩| ⟨y,u,rfl,rfl⟩
  ·rw[Jm]at h;exact QBJ h
  rw[im]at h;exact QCC i t y u _ _ _ _ h;rcases jB hv with⟨j,u,rfl,rfl⟩| ⟨y,u,rfl,rfl⟩
  ·rw[am]at h;exact QCD x t j u _ _ _ _ h
  rw[om]at h;exact wpAny_eqBool_str h
 «strs»:=λk x t v h=>by
  rcases jB h with⟨i,u,rfl,e⟩| ⟨y,u,rfl,e⟩
  exact nomatch e;injection e with e1 _;subst e1;cases v<;>rfl
theorem AT(prog:k5)(w:xb)(i:Int)(t:Tok):(zE prog w).is (.inl i) (.int i t)=true:=K3 i t
theorem RT(prog:k5)(w:xb)(x:Str)(t:Tok):(zE prog w).is (.inr x) (.str x t)=true:=Y3 x t
set_option genInjectivity true in
inductive V where
 |non|bl (b:Bool)|int (i:Int)|str (x:Str)|byt (b:Array UInt8)|flt (b:UInt64)|ref (a:ko)|ty (n:String)
 deriving DecidableEq
abbrev LV:=List V
def aA:V->kn->Prop
 | .non,u=>u=j2|.bl b,u=>u=Value.bool b|.int i,u=>∃t,u=Value.int i t|.str x,u=>∃t,u=Value.str x t|.byt b,u=>∃t,u=Value.bytes b t|.flt b,u=>∃t,u=Value.float b t|.ref a,u=>u=kx a|.ty n,u=>u=Value.type n
noncomputable abbrev nA:LV->LW->Prop:=xm aA
theorem nA.length{xs:LV}{us:LW}(r:nA xs us):xs.9=us.length:=qP r
theorem nA.get:∀{xs:LV}{us:LW}{i:Nat}{x:V},nA xs us->xs[i]?=jr x->∃u,us[i]?=jr u/\aA x u
 |_,_,_,_,.nil,e=>by simp at e|_,_,0,_,.cons r _,e=>by simp at e;subst e;exact#[_,rfl,r]|_,_,i+1,x,.cons _ t,e=>by let#[u,y,h]:=nA.get (i:=i) (x:=x) t (by simpa using e);exact#[u,by simpa using y,h]
theorem nA.set{x:V}{u:kn}(r:aA x u):∀{xs:LV}{us:LW}(i:Nat),nA xs us->nA (xs.set i x) (us.set i u)
 |_,_,_,.nil=>.nil|_,_,0,.cons _ t=>.cons r t|_,_,i+1,.cons q t=>.cons q (nA.set r i t)
theorem nA.append:∀{xs h:LV}{us ws:LW},nA xs us->nA h ws->nA (xs++h) (us++ws)
 |_,_,_,_,.nil,s=>s|_,_,_,_,.cons r t,s=>.cons r (nA.append t s)
theorem nA.take:∀{xs:LV}{us:LW}(n:Nat),nA xs us->nA (xs.take n) (us.take n)
 |_,_,0,_=>.nil|_,_,_+1,.nil=>.nil|_,_,n+1,.cons r t=>.cons r (nA.take n t)
theorem nA.drop:∀{xs:LV}{us:LW}(n:Nat),nA xs us->nA (xs.drop n) (us.drop n)
 |_,_,0,r=>r|_,_,_+1,.nil=>.nil|_,_,n+1,.cons _ t=>nA.drop n t
def mV:Option V->Option kn->Prop
 |some v,jr u=>aA v u|none,kv=>True|_,_=>False
def KV{h:Type}:List (h×V)->List (h×kn)->Prop:=xm λ(p:h×V) (q:h×kn)=>p.1=q.1/\aA p.2 q.2
def kV:Key->V
 | .inl i=>.int i|.inr x=>.str x
inductive HO where
 |lst (xs:LV)
 |tup (xs:LV)
 |dK (kvs:List (Key×V))|dT (ep:Nat) (kvs:List (NK×ko×V))
 |set (S:Int->Bool) (n:Nat)
 |ins (C dx:ko) (fs:List (Str×V))
 |own (x:ko)
 |xd (fs:List (Str×V))
 |met (f x:ko)
 |rng (lo hi:Int)
 |frz (o:Obj) (u:HO)
 |tbl (q:Str)
 |ext (φ:vu->Prop)
noncomputable abbrev Hp:=ko->Option HO
noncomputable def DA(H:Hp)(a:ko)(o:HO):Hp:=λb=>if b=a then jr o else H b
theorem YA:DA H a o a=jr o:=by unfold DA;rw[Qc rfl]
theorem xA(h:b≠a):DA H a o b=H b:=by unfold DA;rw[QB h]
theorem yb{u:HO}:DA (DA H a o) a u=DA H a u:=by funext b;unfold DA;split<;>rfl
theorem iA(h:H a=jr o)(h':H b=kv):a≠b:=by intro e;subst e;rw[h]at h';cases h'
end
section
variable(P:k5)(w:xb)
def BA(H:Hp)(h:vu)(a:ko):HO->Prop
 | .lst k=>k.9<=kb/\∃(z:LW) (n:Nat),nA k z/\h.get? a=jr { cls:=.type "list",data:=.seq z.toArray n }|.tup k=>k.9<=kb/\∃z:LW,nA k z/\i3 h a z.toArray|.dK y=>y.9<=kb/\(a==zl)=kd/\∃m,KV y m/\h.DictOf (zE P w) a m|.dT W y=>y.9<=kb/\(a==zl)=kd/\∃k:List (NK×ko×kn),
   xm (λ(p:NK×ko×V) (q:NK×ko×kn)=>p.1=q.1/\p.2.1=q.2.1/\aA p.2.2 q.2.2) y k /\
   ∃o X,h.get? a=jr o/\o.ExactDict/\o.data=.dict X W/\X.toList=k.map (h8 (uF P w))/\(k.map (·.1)).Nodup
 | .set S n=>h.SetOf (intKind P w) a S n|.ins C e fs=>H e=jr (.own a)/\fs.9<=1000/\e≠a/\h.get? a=jr (QBW C e) /\
   ∃b,h.Ns1 e b/\(∀f,mV (fs.lookup f) (b f))/\PySem.Within b (fs.map (·.1))
 | .own _=>∃o,h.get? a=jr o|.xd fs=>∃b,h.Ns1 a b/\∀f,mV (fs.lookup f) (b f)|.rng Y Z=>∃t u v,h.get? a=jr { cls:=.type "range",data:=.fields (qK [.int Y t,.int Z u,.int 1 v]) }|.frz o u=>h.get? a=jr o/\BA H h a u|.tbl q=>∃i,h.get? a=jr { cls:=.none,data:=.fields i }/\mm i.toList/\∀j l,fm j i.toList=jr l->∃c,l=.ref c/\H c=jr (.own a)/\h.CodeRec l q|.met f x=>h.get? a=jr (QAz (.ref f) (.ref x))|.ext g=>g h/\(∃o,h.get? a=jr o)/\∀s r:vu,g s->(∀o,s.get? a=jr o->r.get? a=jr o)->g r
def EL(H:Hp)(h:vu):Prop:=∀a o,H a=jr o->BA P w H h a o
end
section
variable{P:k5}{w:xb}{H i:Hp}{h h':vu}{a:ko}{o:HO}
theorem BA.lt(x:BA P w H h a o):a<h.1.size:=by
 cases o with|lst v=>let#[_,_,_,_,e]:=x;exact QS e|tup v=>let#[_,_,_,p]:=x;exact p.lt|dK z=>let#[_,_,_,_,o,_,_,e,_]:=x;exact QS e|dT j z=>let#[_,_,_,_,o,_,e,_]:=x;exact QS e|set S n=>let#[o,_,_,_,e,_]:=x;exact QS e|ins C l fs=>let#[_,_,_,e,_]:=x;exact QS e|own y=>let#[_,e]:=x;exact QS e|xd fs=>let#[_,#[_,_,_,e,_],_]:=x;exact QS e|rng b g=>let#[_,_,_,e]:=x;exact QS e|frz ob u=>let#[e,_]:=x;exact QS e|tbl q=>let#[_,e,_]:=x;exact QS e|met f y=>exact QS (show h.get? a=jr _ from x)|ext k=>let#[_,#[_,e],_]:=x;exact QS e
theorem Paired.mapP{α z:Type}{F G:α->z->Prop}:∀{y:List α}{x:List z},xm F y x->(∀a b,F a b->G a b)->xm G y x
 |_,_,.nil,_=>.nil|_,_,.cons r t,f=>.cons (f _ _ r) (Paired.mapP t f)
theorem BA.stay(x:BA P w H h a o)(k:∀b u,(b=a∨H b=jr (.own a))->h.get? b=jr u->h'.get? b=jr u)
  (K:∀b,H b=jr (.own a)->i b=jr (.own a)) (O:∀b xs,H b=jr (.tup xs)->i b=jr (.tup xs)):BA P w i h' a o:=by
 induction o with|lst xs=>let#[z,m,n,r,e]:=x;exact#[z,m,n,r,k _ _ (.inl rfl) e]|tup xs=>let#[z,m,r,ob,e,c]:=x;exact#[z,m,r,ob,k _ _ (.inl rfl) e,c]|dK W=>let#[z,y,s,r,ob,j,l,e,c]:=x;exact#[z,y,s,r,ob,j,l,k _ _ (.inl rfl) e,c]|dT l W=>let#[z,y,xs,r,ob,j,e,c]:=x;exact#[z,y,xs,r,ob,j,k _ _ (.inl rfl) e,c]|set S n=>let#[ob,j,l,t,e,c]:=x;exact#[ob,j,l,t,k _ _ (.inl rfl) e,c]|ins C R fs=>let#[d,z,F,e,Z,#[Y,j,l,J,c],r]:=x;exact#[K _ d,z,F,k _ _ (.inl rfl) e,Z,#[Y,j,l,k _ _ (.inr d) J,c],r]|own y=>let#[ob,e]:=x;exact#[ob,k _ _ (.inl rfl) e]|xd fs=>let#[Z,#[Y,j,l,e,c],r]:=x;exact#[Z,#[Y,j,l,k _ _ (.inl rfl) e,c],r]|rng N Q=>let#[t,u,v,e]:=x;exact#[t,u,v,k _ _ (.inl rfl) e]|frz ob u G=>let#[e,q]:=x;exact#[k _ _ (.inl rfl) e,G q]|tbl q=>let#[E,e,t,f]:=x;refine#[E,k _ _ (.inl rfl) e,t,λX L g=>?_];let#[c,rfl,o,c1,ob,s,B,A,I,r]:=f X L g;cases A;exact#[c,rfl,K _ o,c,ob,s,B,rfl,k _ _ (.inr o) I,r]|met f y=>have e:h.get? a=jr (QAz (.ref f) (.ref y)):=x;show h'.get? a=jr (QAz (.ref f) (.ref y));exact k a _ (.inl rfl) e|ext M=>let#[p,#[o,e],st]:=x;exact#[st _ _ p λo q=>k _ _ (.inl rfl) q,#[o,k _ _ (.inl rfl) e],st]
theorem EL.lt(x:EL P w H h)(e:H a=jr o):a<h.1.size:=(x a o e).lt
theorem EL.fresh(x:EL P w H h)(e:h.1.size<=a):H a=none:=by
 cases q:H a with|none=>rfl|some u=>exact Qe (Qt (x.lt q) e) (qG _)
theorem EL.kept(x:EL P w H h)(k:∀b u,h.get? b=jr u->h'.get? b=jr u):EL P w H h':=λa o e =>
 (x a o e).stay (λb u _ q=>k b u q) (λ_ q=>q) λ_ _ q=>q
theorem EL.laid(x:EL P w H h)(k:∀b u,h.get? b=jr u->h'.get? b=jr u)(z:h.1.size<=a)(new:BA P w (DA H a o) h' a o):EL P w (DA H a o) h':=λb u e=>by have y:=x.fresh z;by_cases hb:b=a;subst hb;rw[YA]at e;cases e;exact new;rw[xA hb]at e;exact(x b u e).stay (λc v _ q=>k c v q) (λc q=>by rw[xA (iA q y)];exact q) λc f q=>by rw[xA (iA q y)];exact q
end
def Rd(H:Hp)(a:ko)(u:HO):Prop:=H a=jr u∨∃o,H a=jr (.frz o u)
theorem Rd.ok{P:k5}{w:xb}{H:Hp}{h:vu}{a:ko}{u:HO}(r:Rd H a u)(x:EL P w H h):BA P w H h a u:=by
 rcases r with r|⟨o,r⟩
 exact x a u r;let#[_,q]:=x a _ r;exact q
def zp:Option HO->Prop
 |some (.lst _)=>True|some (.dK _)=>True|some (.dT _ _)=>True|some (.set _ _)=>True|some (.ins _ _ _)=>True|some (.ext _)=>True|_=>False
section
variable{P:k5}{w:xb}{H:Hp}{h h':vu}{x e:ko}{a:HO}
theorem EL.write(ok:EL P w H h)(l:zp (H x))(o:e=x∨H e=jr (.own x))(k:∀b u,b≠e->h.get? b=jr u->h'.get? b=jr u)(m:∃u,h'.get? e=jr u)
  (new:BA P w (DA H x a) h' x a):EL P w (DA H x a) h':=λb u q=>by
 have g:∀c y,H c=jr (.own y)->c≠x:=λc y r z=>by subst z;rw[r]at l;exact l
 have i:∀c j,H c=jr (.tup j)->c≠x:=λc j r z=>by subst z;rw[r]at l;exact l
 by_cases hb:b=x;subst hb;rw[YA]at q;cases q;exact new;rw[xA hb]at q;by_cases f:b=e;have n:H b=jr (.own x):=by rcases o with z|z;exact Qe (f.trans z) hb;rw[f];exact z
 rw[q]at n;cases n;let#[v,hv]:=m;exact#[v,by rw[f];exact hv];refine(ok b u q).stay (λc v hc r=>k c v ?_ r) (λc r=>by rw[xA (g c b r)];exact r) λc j r=>by rw[xA (i c j r)];exact r
 rcases hc with rfl|hc;exact f;rintro rfl;rcases o with z|z;exact g c b hc z;rw[hc]at z;cases z;exact hb rfl
end
structure Un(fs ex:List ko)(H H':Hp)(h h':vu):Prop where
 keep:∀b o,h.get? b=jr o->H b=kv->b∉fs->b∉ex->h'.get? b=jr o
 slot:∀b o,h.get? b=jr o->H b=kv->b∈fs->b∉ex->∃sl,h'.get? b=jr { o with slots:=sl }
 free:∀b o,h.get? b=jr o->H b=kv->b∉ex->H' b=kv
 there:∀b o,h.get? b=jr o->b∉ex->∃o',h'.get? b=jr o'
 tups:∀b xs,H b=jr (.tup xs)->H' b=jr (.tup xs)
 frzs:∀b o u,H b=jr (.frz o u)->H' b=jr (.frz o u)
 tbls:∀b q,H b=jr (.tbl q)->H' b=jr (.tbl q)
section
variable{y w ex c:List ko}{H d g:Hp}{h v f h':vu}{a x e:ko}{o:HO}
theorem Un.any(u:Un y ex H d h v){b:ko}{ob:Obj}(q:h.get? b=jr ob)(n:H b=kv)(z:b∉ex):∃k,v.get? b=jr { ob with slots:=k }:=by by_cases hb:b∈y;exact u.slot b ob q n hb z;exact#[ob.slots,u.keep b ob q n hb z]
theorem Un.kept(k:∀b u,h.get? b=jr u->h'.get? b=jr u):Un y ex H H h h' :=
 #[λb ob q _ _ _=>k b ob q,λb ob q _ _ _=>#[ob.slots,k b ob q],λ_ _ _ n _=>n,λb ob q _=>#[ob,k b ob q],λ_ _ q=>q,λ_ _ _ q=>q,λ_ _ q=>q]
theorem Un.refl:Un y ex H H h h:=Un.kept λ_ _ q=>q
theorem Un.laid(k:∀b u,h.get? b=jr u->h'.get? b=jr u)(j:h.1.size<=a)(z:H a=kv):Un y ex H (DA H a o) h h' where
 keep:=λb u q _ _ _=>k b u q
 slot:=λb u q _ _ _=>#[u.slots,k b u q]
 free:=λb u q n _=>by rw[xA (Qj (Qt (QS q) j))];exact n
 there:=λb u q _=>#[u,k b u q]
 tups:=λb i q=>by rw[xA (iA q z)];exact q
 frzs:=λb u i q=>by rw[xA (iA q z)];exact q
 tbls:=λb l q=>by rw[xA (iA q z)];exact q
theorem Un.write(j:zp (H x))(X:e=x∨H e=jr (.own x))(k:∀b u,b≠e->h.get? b=jr u->h'.get? b=jr u)(m:∃u,h'.get? e=jr u):Un y ex H (DA H x o) h h':=by
 have p:∀b,H b=kv->b≠x:=λb n z=>by subst z;rw[n]at j;exact j
 have hb:∀b,H b=kv->b≠e:=λb n z=>by subst z;rcases X with r|r;exact p b n r;rw[n]at r;cases r
 have l:∀b u,H b=jr u->¬ zp (jr u)->b≠x:=λb u q nm z=>by subst z;rw[q]at j;exact nm j
 refine#[λb u q n _ _=>k b u (hb b n) q,λb u q n _ _=>#[u.slots,k b u (hb b n) q],λb u q n _=>by rw[xA (p b n)];exact n,λb u q _=>?_,
  λb s q=>by rw[xA (l b _ q λz=>z)];exact q,λb u s q=>by rw[xA (l b _ q λz=>z)];exact q,λb Y q=>by rw[xA (l b _ q λz=>z)];exact q]
 by_cases i:b=e;subst i;exact m;exact#[u,k b u i q]
end
section
variable{h:vu}{b:ko}{o:Obj}
noncomputable def Au(h:vu)(H:Hp):List Addr:=(Qq h.1.size).filter λa=>(H a).isSome
def LR(h:vu)(H:Hp):Heap:=PySem.W.hideAll h (Au h H)
theorem M3(h:vu)(H:Hp):(LR h H).1.size=h.1.size:=PySem.W.hideAll_size _ _
theorem N8{H:Hp}(e:h.get? b=jr o)(n:H b=kv):(LR h H).get? b=jr o :=
 PySem.W.hideAll_get _ e λx=>by have q:(H b).isSome=true:=(Qb.mp x).2;rw[n]at q;simp at q
theorem vd{H:Hp}(e:(LR h H).get? b=jr o):h.get? b=jr o/\H b=none:=by
 have y:h.get? b=jr o:=PySem.W.of_hideAll (Au h H) e;refine#[y,?_];cases q:H b with|none=>rfl|some x=>have u:b∈Au h H:=Qb.mpr #[Q6.mpr (QS y),by simp[q]];have z:(LR h H).get? b=none:=PySem.W.hideAll_none (Au h H) u;rw[z]at e;cases e
structure Mod(K:QC)(mg:Str->Option kn)(base:vu):Prop where
 kin:K.In base
 glob:base.Ns k4 mg
 blt:∃mb,base.Ns Er mb/\∀x:Str,x≠"__name__"->mb x=y1 x
 nolimit:base.NoLimit
structure Cx where
 prog:k5
 w:xb
 K:QC
 mg:Str->Option kn
 base:vu
 A:x0
 N:LS
 s₀:kt
 H₀:Hp
 env:Env
 outer:List Env
 stack:List Env
 ex:List ko
 fn:Str->Bool
 calm:Bool
 pn:AB
 xe:kn->kt->Prop
def oZ(l:List Env):List Addr:=l.filterMap (·.frame)
noncomputable abbrev Cx.fs(X:Cx):List Addr:=oZ X.outer
def ou(sc:hZ)(x:Str):Prop:=sc.names.lookup x=jr .local∨sc.names.lookup x=jr .cell∨sc.names.lookup x=jr .free
def vp(sc:hZ)(x:Str):Prop:=sc.names.lookup x=jr .local∨sc.names.lookup x=jr .cell
def Gy(env:Env)(h:vu)(m:Str->Option kn)(x:Str)(u:kn):Prop :=
 (env.kindOf x=jr .local/\m x=jr u)∨((env.kindOf x=jr .cell∨env.kindOf x=jr .free)/\∃c,env.cells.lookup x=jr c/\h.IsCell c (jr u))
def vQ(mg:Str->Option kn)(x:vu)(P:ko)(q:Str):Prop :=
 ∃f o y c,mg "going_order"=jr (.ref f)/\x.get? f=jr o/\o.data=.func y/\y.code=.ref c/\PySem.W.CodeHd x c P/\q=y.qualname++".<locals>.<lambda>"
structure Cx.Ok(X:Cx):Prop where
 mod:Mod X.K X.mg X.base
 kind:X.env.scope.kind=.function
 glob:X.env.globals=k4
 blt:X.env.builtins=Er
 above:X.s₀.1.1.size<=X.env.locals
 inj:∀x y c,X.env.cells.lookup x=jr c->X.env.cells.lookup y=jr c->x=y
 has:∀x,(X.env.kindOf x=jr .cell∨X.env.kindOf x=jr .free)->∃c,X.env.cells.lookup x=jr c
 cab:∀x c,X.fn x=kf->X.env.cells.lookup x=jr c->X.s₀.1.1.size<=c
 hd:X.calm=kf->X.A.handled=kv
 frames:X.A.frames=jr X.stack
 stk:X.stack=X.outer∨(X.stack=X.env::X.outer/\X.env.frame=jr X.env.locals)
 exf:∀b∈X.ex,b≠X.env.locals/\∀x c,X.env.cells.lookup x=jr c->c≠b
 bs:∀b o,X.base.get? b=jr o->X.s₀.1.get? b=jr o/\X.H₀ b=kv
 bsz:X.base.1.size<=X.s₀.1.1.size
 noex:∀b o,X.base.get? b=jr o->b∉X.ex
 exfs:∀b∈X.ex,b∉X.fs
 funs:X.s₀.1.FunFrames X.base X.outer
 frf:∀b∈X.fs,X.H₀ b=kv
 tb:∀P q,vQ X.mg X.base P q->X.H₀ P=jr (.tbl q)
structure Inv(X:Cx)(pins:AB)(σ:List (Option V))(H:Hp)(s:kt):Prop where
 ok:X.Ok
 os:s.os=X.s₀.os
 bare:ai s.gens
 base:Un X.fs X.ex X.H₀ H X.s₀.1 s.1
 loc:∃m,s.1.Ns X.env.locals m/\∀(i:Nat) (x:Str) (v:V),X.N[i]?=jr x->σ[i]?=jr (jr v)->ou X.env.scope x->∃u,aA v u/\Gy X.env s.1 m x u
 cell:∀x c,X.env.cells.lookup x=jr c->∃v,s.1.IsCell c v
 free:H X.env.locals=kv
 freeC:∀x c,X.env.cells.lookup x=jr c->H c=kv
 pin:∀p∈X.pn++pins,s.1.get? p.1=jr p.2/\H p.1=kv/\p.1≠X.env.locals/\p.1∉X.fs/\∀v,p.2.data≠.cell v
 hok:EL X.prog X.w H s.1
 len:σ.9=X.N.9
end
section
variable{X:Cx}{f:AB}{σ:List (Option V)}{H g:Hp}{s:kt}{h':vu}
section
variable{a:ko}{g':Array GenState}{ch:List ko}{i:Nat}{x:Str}{M:Model}{A:x0}{E:mC}{u:kn}{Q:Unit->kt->Prop}
theorem Cx.Ok.nofr(ok:X.Ok){b:ko}{o:Obj}(e:X.base.get? b=jr o):b∉X.fs:=λhb=>by have:=(ok.funs.mem hb).1;rw[e]at this;cases this
theorem Inv.bs(I:Inv X f σ H s):∀b o,X.base.get? b=jr o->s.1.get? b=jr o/\H b=none:=λb o e =>
 #[I.base.keep b o (I.ok.bs b o e).1 (I.ok.bs b o e).2 (I.ok.nofr e) (I.ok.noex b o e),I.base.free b o (I.ok.bs b o e).1 (I.ok.bs b o e).2 (I.ok.noex b o e)]
theorem Inv.bk(I:Inv X f σ H s):∀b o,X.base.get? b=jr o->s.1.get? b=jr o:=λb o e=>(I.bs b o e).1
theorem Inv.tb(I:Inv X f σ H s):∀P q,vQ X.mg X.base P q->H P=jr (.tbl q):=λP q h=>I.base.tbls P q (I.ok.tb P q h)
theorem Inv.mod(I:Inv X f σ H s):Mod X.K X.mg X.base:=I.ok.mod
theorem Inv.kIn(I:Inv X f σ H s):X.K.In s.heap:=I.ok.mod.kin.keeps I.bk
theorem Inv.nolimit(I:Inv X f σ H s):s.1.NoLimit:=I.ok.mod.nolimit.keeps I.bk
theorem Inv.lt(I:Inv X f σ H s):X.env.locals<s.1.1.size:=let#[_,h,_]:=I.loc;h.lt
theorem Inv.sz(I:Inv X f σ H s):X.s₀.1.1.size<=s.1.1.size:=QU I.ok.above (W8 I.lt)
theorem Inv.nofs(I:Inv X f σ H s)(h:s.1.1.size<=a):a∉X.fs:=λhb=>by let#[_,o,y,_]:=I.ok.funs.mem hb;exact Qe (Qt (QS y) (QU I.sz h)) (qG _)
theorem Inv.cne(I:Inv X f σ H s):∀x c,X.env.cells.lookup x=jr c->c≠X.env.locals:=λx c e z=>by let#[v,o,w,k]:=I.cell x c e;let#[m,#[b,j,l,h,y,_],_]:=I.loc;rw[z,h]at w;cases w;rw[y]at k;cases k
theorem Inv.funs(I:Inv X f σ H s):s.1.FunFrames X.base X.outer:=by
 have all:∀(l:List Env),(∀b∈oZ l,b∈X.fs)->X.s₀.1.FunFrames X.base l->s.1.FunFrames X.base l:=by
  intro l;induction l with|nil=>intro _ _;trivial|cons p r w=>intro v hl;let#[hk,#[L,o,h,m,j,n],k]:=hl;have y:L∈X.fs:=v L (by unfold oZ;rw[WY,h];exact QD);let#[q,e]:=I.base.slot L o j (I.ok.frf L y) y λz=>I.ok.exfs L z y;exact#[hk,#[L,_,h,m,e,n],w (λb hb=>v b (by unfold oZ;rw[WY,h];exact QE _ hb)) k]
 exact all X.outer (λ_ hb=>hb) I.ok.funs
theorem Inv.stack(I:Inv X f σ H s):s.1.FunFrames X.base X.stack:=by
 rcases I.ok.stk with e|⟨e,y⟩
 rw[e];exact I.funs;rw[e];let#[m,h,_]:=I.loc;refine .cons (by rw[I.ok.kind];decide) y h ?_ I.funs;exact Heap.get?_none_of_le (QU I.ok.bsz I.ok.above)
theorem Inv.stkSub(I:Inv X f σ H s):∀b∈oZ X.stack,b∈X.env.locals::X.fs:=λb hb=>by
 rcases I.ok.stk with e|⟨e,h⟩
 rw[e]at hb;exact QE _ hb;rw[e]at hb;unfold oZ at hb;rw[WY,h]at hb;exact hb
theorem Inv.stkFree(I:Inv X f σ H s):∀b∈oZ X.stack,H b=none:=λb hb=>by rcases QL.mp (I.stkSub b hb) with e|hb;rw[e];exact I.free;let#[_,o,h,_]:=I.ok.funs.mem hb;exact I.base.free b o h (I.ok.frf b hb) λz=>I.ok.exfs b z hb
theorem Inv.step{t':Nat}{d':Drawn}(I:Inv X f σ H s)
  (j:∀b∈ch,(b∈X.ex∨X.s₀.1.1.size<=b)/\b≠X.env.locals/\(∀x c,X.env.cells.lookup x=jr c->c≠b)/\∀p∈X.pn++f,p.1≠b)
  (keep:∀b o,b≠X.env.locals->b∉X.fs->b∉ch->s.1.get? b=jr o->H b=kv->h'.get? b=jr o)
  (W:∀b o,b≠X.env.locals->b∈X.fs->b∉ch->s.1.get? b=jr o->H b=kv->∃R,h'.get? b=jr { o with slots:=R }) (free:∀b o,b∉ch->s.1.get? b=jr o->H b=kv->g b=kv)
  (K:∀b o,b∉ch->s.1.get? b=jr o->∃J,h'.get? b=jr J)
  (F:∀b xs,H b=jr (.tup xs)->g b=jr (.tup xs)) (N:∀b o u,H b=jr (.frz o u)->g b=jr (.frz o u)) (G:∀b O,H b=jr (.tbl O)->g b=jr (.tbl O))
  (ns:∀m,s.1.Ns X.env.locals m->h'.Ns X.env.locals m) (S:EL X.prog X.w g h') (hg:ai g') :
  Inv X f σ g { s with heap:=h',gens:=g',drawn:=d',toks:=t' }:=by
 have L:∀b o,X.s₀.1.get? b=jr o->b≠X.env.locals:=λb o e=>Qj (Qt (QS e) I.ok.above);have Z:∀b o,X.s₀.1.get? b=jr o->b∉X.ex->b∉ch:=λb o e h hb=>by rcases(j b hb).1 with z|z;exact h z;exact Qe (Qt (QS e) z) (qG _)
 have Y:∀x c,X.env.cells.lookup x=jr c->∀v,s.1.IsCell c v->h'.IsCell c v:=λx c e v #[o,C,hd]=>by have y:c∉ch:=λz=>(j c z).2.2.1 x c e rfl;by_cases hc:c∈X.fs;let#[R,q]:=W c o (I.cne x c e) hc y C (I.freeC x c e);exact#[_,q,hd];exact#[o,keep c o (I.cne x c e) hc y C (I.freeC x c e),hd]
 refine#[I.ok,I.os,hg,#[λb o e n hb h=>?_,λb o e n hb h=>?_,λb o e n h=>?_,λb o e h=>?_,λb xs e=>F b xs (I.base.tups b xs e),λb o xs e=>N b o xs (I.base.frzs b o xs e),λb O e=>?_],?_,λx c e=>?_,?_,λx c e=>?_,λp hp=>?_,S,I.len];exact keep b o (L b o e) hb (Z b o e h) (I.base.keep b o e n hb h) (I.base.free b o e n h);let#[R,B]:=I.base.slot b o e n hb h;let#[P,e2]:=W b _ (L b o e) hb (Z b o e h) B (I.base.free b o e n h);exact#[P,e2];let#[J,B]:=I.base.there b o e h;exact free b J (Z b o e h) B (I.base.free b o e n h);let#[J,B]:=I.base.there b o e h;exact K b J (Z b o e h) B;exact G b _ (I.base.tbls b O e);let#[m,hn,hl]:=I.loc;refine#[m,ns m hn,λi x v B e2 e3=>?_];let#[u,r,l]:=hl i x v B e2 e3;refine#[u,r,?_];rcases l with l|⟨k,c,e,z⟩
 exact .inl l;exact .inr #[k,c,e,Y x c e _ z];let#[v,z]:=I.cell x c e;exact#[v,Y x c e v z];let#[m,#[o,_,_,C,_],_]:=I.loc;exact free _ o (λz=>(j _ z).2.1 rfl) C I.free;let#[v,o,C,hd]:=I.cell x c e;exact free c o (λz=>(j c z).2.2.1 x c e rfl) C (I.freeC x c e);let#[e,n,ne,nf,d]:=I.pin p hp;have y:p.1∉ch:=λz=>(j p.1 z).2.2.2 p hp rfl;exact#[keep p.1 p.2 ne nf y e n,free p.1 p.2 y e n,ne,nf,d]
theorem Inv.un{t':Nat}(I:Inv X f σ H s)(u:Un X.fs [] H g s.1 h')(y:EL X.prog X.w g h'):Inv X f σ g { s with heap:=h',toks:=t' }:=by let#[m,#[o,K,B,j,r],_]:=id I.loc;let#[Y,q]:=u.any j I.free (by simp);exact I.step (g':=s.gens) (d':=s.drawn) (ch:=[]) (λ_ z=>nomatch z) (λb o _ hb _ e n=>u.keep b o e n hb (by simp)) (λb o _ hb _ e n=>u.slot b o e n hb (by simp)) (λb o _ e n=>u.free b o e n (by simp)) (λb o _ e=>u.there b o e (by simp)) u.tups u.frzs u.tbls (λW p=>by let#[Z,v,k,h,l]:=p;rw[j]at h;cases h;exact#[_,v,k,q,l]) y I.bare
theorem Inv.call{t':Nat}{d':Drawn}(I:Inv X f σ H s)(u:Un (oZ X.stack) ch H g s.1 h')(v:EL X.prog X.w g h')(W:ai g')
  (y:∀b∈ch,(b∈X.ex∨X.s₀.1.1.size<=b)/\b≠X.env.locals/\(∀x c,X.env.cells.lookup x=jr c->c≠b)/\∀p∈X.pn++f,p.1≠b) :
  Inv X f σ g { s with heap:=h',gens:=g',drawn:=d',toks:=t' }:=by
 let#[m,#[o,F,G,q,r],_]:=id I.loc;let#[K,k]:=u.any q I.free λz=>(y _ z).2.1 rfl;exact I.step (ch:=ch) y (λb o k hb hc e n=>u.keep b o e n (λz=>(QL.mp (I.stkSub b z)).elim k hb) hc) (λb o _ _ hc e n=>u.any e n hc) (λb o hc e n=>u.free b o e n hc) (λb o hc e=>u.there b o e hc) u.tups u.frzs u.tbls (λC Z=>by let#[B,j,l,h,Y]:=Z;rw[q]at h;cases h;exact#[_,j,l,k,Y]) v W
theorem Inv.turned{t':Nat}{it:ko}(I:Inv X f σ H s)(k:∀b o,b≠it->s.1.get? b=jr o->h'.get? b=jr o)(j:H it=kv)(y:it≠X.env.locals)
  (W:it∈X.ex∨X.s₀.1.1.size<=it) (Z:∀x c,X.env.cells.lookup x=jr c->c≠it) (Y:∀p∈X.pn++f,p.1≠it):Inv X f σ H { s with heap:=h',toks:=t' }:=by
 have h:∀b u,H b=jr u->b≠it:=λb u e z=>by rw[z,j]at e;cases e
 refine I.step (g':=s.gens) (d':=s.drawn) (ch:=[it]) (λb hb=>?_) (λb o _ _ hc e _=>k b o (λz=>hc (by simp[z])) e) (λb o _ _ hc e _=>#[o.slots,k b o (λz=>hc (by simp[z])) e]) (λ_ _ _ _ n=>n)
  (λb o hc e=>#[o,k b o (λz=>hc (by simp[z])) e]) (λ_ _ e=>e) (λ_ _ _ e=>e) (λ_ _ e=>e) (λm l=>?_) (λb u e=>?_) I.bare
 have e:b=it:=by simpa using hb
 subst e;exact#[W,y,Z,Y];let#[o,K,B,w,r]:=l;exact#[o,K,B,k _ o (qC y) w,r];refine(I.hok b u e).stay (λc v hc q=>k c v ?_ q) (λ_ q=>q) λ_ _ q=>q;rcases hc with z|z;rw[z];exact h b u e;exact h c _ z
theorem Inv.tok(I:Inv X f σ H s)(t:Nat):Inv X f σ H { s with toks:=t }:=I.un (h':=s.1) (t':=t) Un.refl I.hok
theorem Inv.kept{t':Nat}(I:Inv X f σ H s)(k:∀b u,s.1.get? b=jr u->h'.get? b=jr u):Inv X f σ H { s with heap:=h',toks:=t' }:=I.un (Un.kept k) (I.hok.kept k)
theorem Inv.laid{o:HO}{t':Nat}(I:Inv X f σ H s)(k:∀b u,s.1.get? b=jr u->h'.get? b=jr u)(h:s.1.1.size<=a)(new:BA X.prog X.w (DA H a o) h' a o) :
  Inv X f σ (DA H a o) { s with heap:=h',toks:=t' }:=I.un (Un.laid k h (I.hok.fresh h)) (I.hok.laid k h new)
theorem Inv.write{x e:ko}{o:HO}{t':Nat}(I:Inv X f σ H s)(y:zp (H x))(z:e=x∨H e=jr (.own x))(k:∀b u,b≠e->s.1.get? b=jr u->h'.get? b=jr u)(h:∃u,h'.get? e=jr u)
  (new:BA X.prog X.w (DA H x o) h' x o):Inv X f σ (DA H x o) { s with heap:=h',toks:=t' }:=I.un (Un.write y z k h) (I.hok.write y z k h new)
theorem Inv.pins_of{y:AB}(I:Inv X f σ H s)(h:∀p∈y,s.1.get? p.1=jr p.2/\H p.1=kv/\p.1≠X.env.locals/\p.1∉X.fs/\∀v,p.2.data≠.cell v):Inv X y σ H s :=
 #[I.ok,I.os,I.bare,I.base,I.loc,I.cell,I.free,I.freeC,λp w=>(Qf.mp w).elim (λz=>I.pin p (Qm _ z)) (h p),I.hok,I.len]
theorem XT{N:LS}(h:N.Nodup){j:Nat}(a:N[i]?=jr x)(b:N[j]?=jr x):i=j:=by let#[w,z]:=Qh.mp a;let#[v,y]:=Qh.mp b;exact(List.getElem_inj h).mp (z.trans y.symm)
theorem cP{v:V}(I:Inv X f σ H s)(hN:X.N.Nodup)(O:X.N[i]?=jr x)(W:vp X.env.scope x)(r:aA v u)
  (h:∀s',Inv X f (σ.set i (jr v)) H s'->(∃a,qk a s.1 s'.1/\(a=X.env.locals∨X.env.cells.lookup x=jr a))->Q Unit.unit s') (hf:X.fn x=kf∨X.env.scope.names.lookup x=jr .local):ku M A (storeName X.env x u) Q E s:=by
 let#[m,hn,hl]:=id I.loc;have P:(X.env.scope.kind==.class||(X.env.scope.kind==.module&&X.env.locals != X.env.globals))=false:=by rw[I.ok.kind];rfl
 have C:i<σ.length:=by rw[I.len];exact(Qh.mp O).1
 have cne:=I.cne;have Y:∀{a:ko}{h':vu},(∃o,s.1.get? a=jr o/\H a=kv)->qk a s.1 h'->EL X.prog X.w H h':=λ{a h'} ha l b ob e=>by let#[_,_,K]:=ha;refine(I.hok b ob e).stay (λc w' hc q=>(l.2 c ?_).trans q) (λ_ q=>q) λ_ _ q=>q;rintro rfl;rcases hc with rfl|hc;rw[K]at e;cases e;rw[K]at hc;cases hc
 rcases W with hk|hk;refine wpAny_storeName_local hk hn (λh' hn' l=>?_) P;let#[oL,_,_,hoL,_]:=id hn;refine h _ #[I.ok,I.os,I.bare,#[λb o e n hb W=>?_,λb o e n hb W=>?_,I.base.free,λb o e W=>?_,I.base.tups,I.base.frzs,I.base.tbls],#[_,hn',λj y v' Z B e3=>?_],λy c e=>?_,I.free,I.freeC,λp hp=>?_,Y #[oL,hoL,I.free] l,by simpa using I.len] #[_,l,.inl rfl];exact(l.2 b (Qj (Qt (QS e) I.ok.above))).trans (I.base.keep b o e n hb W);let#[sl,Z]:=I.base.slot b o e n hb W;exact#[sl,(l.2 b (Qj (Qt (QS e) I.ok.above))).trans Z];let#[o',Z]:=I.base.there b o e W;exact#[o',(l.2 b (Qj (Qt (QS e) I.ok.above))).trans Z];by_cases F:j=i
 ·subst F
  rw[O]at Z;cases Z;rw[qz C]at B;cases B;exact#[u,r,.inl #[hk,by simp]]
 rw[qY (qC F)]at B;let#[u',r',q]:=hl j y v' Z B e3;refine#[u',r',?_];rcases q with⟨k,e⟩| ⟨k,c,e,z⟩
 refine .inl #[k,?_];have:y≠x:=λe=>F (XT hN Z (e▸O));simp[this,e];exact .inr #[k,c,e,z.sameBut l (cne y c e)];let#[w',z]:=I.cell y c e;exact#[w',z.sameBut l (cne y c e)];let#[e,n,ne,nf,d]:=I.pin p hp;exact#[(l.2 p.1 ne).trans e,n,ne,nf,d];have G:X.fn x=true:=by rcases hf with z|z;exact z;rw[z]at hk;cases hk
 let#[c,hc]:=I.ok.has x (.inl hk);let#[w',z]:=I.cell x c hc;refine wpAny_storeName_cell I.ok.kind hk hc z (λh' S l=>?_);let#[oc,L,J]:=id z;refine h { s with heap:=h' } #[I.ok,I.os,I.bare,#[λb o e n hb W=>?_,λb o e n hb W=>?_,I.base.free,λb o e W=>?_,I.base.tups,I.base.frzs,I.base.tbls],#[m,hn.sameBut l (qC (cne x c hc)),λj y v' Z B e3=>?_],λy c' e=>?_,I.free,I.freeC,λp hp=>?_,Y #[oc,L,I.freeC x c hc] l,by simpa using I.len] #[c,l,.inr hc];exact(l.2 b (Qj (Qt (QS e) (I.ok.cab x c G hc)))).trans (I.base.keep b o e n hb W);let#[sl,Z]:=I.base.slot b o e n hb W;exact#[sl,(l.2 b (Qj (Qt (QS e) (I.ok.cab x c G hc)))).trans Z];let#[o',Z]:=I.base.there b o e W;exact#[o',(l.2 b (Qj (Qt (QS e) (I.ok.cab x c G hc)))).trans Z];by_cases F:j=i
 ·subst F
  rw[O]at Z;cases Z;rw[qz C]at B;cases B;exact#[u,r,.inr #[.inl hk,c,hc,S]]
 rw[qY (qC F)]at B;let#[u',r',q]:=hl j y v' Z B e3;refine#[u',r',?_];rcases q with q|⟨k,c',e,z'⟩
 exact .inl q;refine .inr #[k,c',e,z'.sameBut l ?_];rintro rfl;exact F (XT hN Z (I.ok.inj _ _ _ e hc▸O));by_cases R:c'=c
 ·subst R;exact#[_,S]
 let#[w2,z2]:=I.cell y c' e;exact#[w2,z2.sameBut l R];let#[e,n,ne,nf,d]:=I.pin p hp;refine#[(l.2 p.1 ?_).trans e,n,ne,nf,d];intro q;rw[q,L]at e;have q':oc=p.2:=Qp e;exact d w' (by rw[<- q'];exact J)
theorem AS{v:V}(I:Inv X f σ H s)(k:X.N.Nodup)(z:X.N[i]?=jr x)(y:vp X.env.scope x)(r:aA v u)
  (h:∀s',Inv X f (σ.set i (jr v)) H s'->Q Unit.unit s') (w:X.fn x=kf∨X.env.scope.names.lookup x=jr .local):ku M A (storeName X.env x u) Q E s :=
 cP I k z y r (λs' b _=>h s' b) w
theorem Inv.call'{s':kt}(I:Inv X f σ H s)(v:s'.os=s.os)(u:Un (oZ X.stack) ch H g s.1 s'.1)(h:EL X.prog X.w g s'.1)(k:ai s'.gens)
  (y:∀b∈ch,(b∈X.ex∨X.s₀.1.1.size<=b)/\b≠X.env.locals/\(∀x c,X.env.cells.lookup x=jr c->c≠b)/\∀p∈X.pn++f,p.1≠b):Inv X f σ g s':=by
 let#[h',g',d',t',z]:=s';have e:z=s.os:=v;subst e;exact I.call (g':=g') (t':=t') (d':=d') u h k y
end
end
noncomputable abbrev XK:=kn->Option ko->Hp->Prop
noncomputable abbrev St:=List (Option V)
noncomputable abbrev VK:=V->Hp->Prop
noncomputable abbrev TE:=St->Hp->VK->Prop
noncomputable abbrev TT:=St->Hp->(Bool->Hp->Prop)->Prop
noncomputable abbrev TA:=St->Hp->(LV->Hp->Prop)->Prop
structure Ends where
 nx:St->Hp->Prop
 rt:VK
 bk:St->Hp->Prop:=λ_ _=>False
 ct:St->Hp->Prop:=λ_ _=>False
noncomputable abbrev TS:=Ends->St->Hp->Prop
def EP(X:Cx)(h:AB)(σ:St)(Q:VK)(u:kn)(s':kt):Prop:=∃v x,Inv X h σ x s'/\aA v u/\Q v x
def TP(X:Cx)(h:AB)(σ:St)(Q:Bool->Hp->Prop)(b:Bool)(s':kt):Prop:=∃x,Inv X h σ x s'/\Q b x
def AP(X:Cx)(h:AB)(σ:St)(Q:LV->Hp->Prop)(us:LW)(s':kt):Prop:=∃x y,Inv X h σ y s'/\nA x us/\Q x y
def SP(X:Cx)(x:AB)(D:Ends)(f:Flow)(s':kt):Prop :=
 match f with
 | .next=>∃h y,Inv X x h y s'/\D.nx h y|.brk=>∃h y,Inv X x h y s'/\D.bk h y|.cont=>∃h y,Inv X x h y s'/\D.ct h y|.ret u=>∃v h y,Inv X x h y s'/\aA v u/\D.rt v y
def PE(X:Cx)(e:Expr)(t:TE):Prop :=
 ∀(h:AB) (s:kt) (x:St) (H:Hp) (Q:VK),Inv X h x H s->t x H Q->ku (k0 X.prog X.w) X.A (gp e X.env) (EP X h x Q) X.xe s
def PT(X:Cx)(e:Expr)(t:TT):Prop :=
 ∀(h:AB) (s:kt) (x:St) (H:Hp) (Q:Bool->Hp->Prop),Inv X h x H s->t x H Q->ku (k0 X.prog X.w) X.A (isTrue e X.env (gp e X.env)) (TP X h x Q) X.xe s
def PW(X:Cx)(e:Expr)(t:TT):Prop :=
 ∀(x:Sem kn) (h:AB) (s:kt) (y:St) (H:Hp) (Q:Bool->Hp->Prop),Inv X h y H s->t y H Q->ku (k0 X.prog X.w) X.A (isTrue e X.env x) (TP X h y Q) X.xe s
theorem PW.pt{X:Cx}{e:Expr}{t:TT}(h:PW X e t):PT X e t:=h _
def PA(X:Cx)(es:List Expr)(t:TA):Prop :=
 ∀(y:Pos) (h:AB) (s:kt) (x:St) (H:Hp) (Q:LV->Hp->Prop),Inv X h x H s->t x H Q->ku (k0 X.prog X.w) X.A (bb (fk y (xk es X.env))) (AP X h x Q) X.xe s
def PS(X:Cx)(st:gV)(t:TS):Prop :=
 ∀(h:AB) (s:kt) (x:St) (H:Hp) (D:Ends),Inv X h x H s->t D x H->ku (k0 X.prog X.w) X.A (exec st X.env) (SP X h D) X.xe s
def IX(X:Cx)(st:List gV)(t:TS):Prop :=
 ∀(h:AB) (s:kt) (x:St) (H:Hp) (D:Ends),Inv X h x H s->t D x H->ku (k0 X.prog X.w) X.A (execs st X.env) (SP X h D) X.xe s
theorem FB{α:Type}{t:Sem α}{Q y:α->kt->Prop}{M:Model}{A:x0}{E:mC}{s:kt}(h:ku M A t Q E s)(z:∀a s,Q a s->y a s):ku M A t y E s:=wK h z λ_ _ x=>x
section
variable{X:Cx}
section
variable{z:AB}{s:kt}{σ:St}{H:Hp}{x:Str}{pos:Pos}{E Q:mC}{u:kn}
theorem bin{a b:Expr}{ta g:TE}(Y:PE X a ta)(hb:PE X b g){R:V->V->Hp->Prop}(I:Inv X z σ H s)(h:ta σ H λx l=>g σ l λy k=>R x y k)
  {α:Type}{Q:α->kt->Prop}{f:kn->kn->Sem α}
  (r:∀v u j x y k,Inv X z σ k j->aA x v->aA y u->R x y k->ku (k0 X.prog X.w) X.A (f v u) Q X.xe j) :
  ku (k0 X.prog X.w) X.A (gp a X.env) (λv i=>ku (k0 X.prog X.w) X.A (gp b X.env) (λu e=>ku (k0 X.prog X.w) X.A (f v u) Q X.xe e) X.xe i) X.xe s:=by
 refine FB (Y z s σ H _ I h) λv m #[x,l,W,o,q]=>?_;refine FB (hb z m σ l _ W q) λu j #[y,k,Z,n,p]=>?_;exact r v u j x y k Z o n p
def kw(i:Nat):TE:=λσ H Q=>∃v,σ[i]?=jr (jr v)/\Q v H
def tC(v:V):TE:=λ_ H Q=>Q v H
theorem F6{i:Nat}(f:X.N[i]?=jr x)(hv:ou X.env.scope x)(w:(x==("__debug__":Str))=false:=by decide)(k:(x==("__classdict__":Str))=false:=by decide):PE X (.Name x pos) (kw i):=by
 intro z s σ H Q I h;let#[v,e,h]:=h;let#[m,a,hl]:=I.loc;let#[u,r,l]:=hl i x v f e hv;have fin:EP X z σ Q u s:=#[v,H,I,r,h]
 rcases l with⟨hk,b⟩| ⟨hk,c,hc,y⟩
 exact QBh (QBi I.ok.kind hk a b fin) w;rcases hk with hk|hk
 ·exact QBh (wpAny_loadName_cell I.ok.kind hk hc y fin) w
 exact QBh (QBx I.ok.kind hk hc y fin k) w
theorem mW{i j pos}:PE X (.Constant (.int i) j pos) (tC (.int i)):=λ_ _ _ H _ I h=>QCE #[.int i,H,I.tok _,#[_,rfl],h]
theorem Rf{b j pos}:PE X (.Constant (.bool b) j pos) (tC (.bl b)):=λ_ _ _ H _ I h=>Constant_bool #[.bl b,H,I,rfl,h]
theorem M6{j pos}:PE X (.Constant .none j pos) (tC .non):=λ_ _ _ H _ I h=>Constant_none #[.non,H,I,rfl,h]
theorem jk{x j pos}:PE X (.Constant (.str x) j pos) (tC (.str x)):=λ_ _ _ H _ I h=>Calls.Constant_str #[.str x,H,I.tok _,#[_,rfl],h]
def Gl(X:Cx)(x:Str):Prop:=X.env.kindOf x=jr .globalImplicit
theorem YR(I:Inv X z σ H s)(v:Gl X x)(y:X.mg x=jr u)(h:Q u s)
  (k:(x==("__debug__":Str))=false:=by decide):ku (k0 X.prog X.w) X.A (gp (.Name x pos) X.env) Q E s :=
 QAe I.ok.kind v (Calls.loadGlobal_global (by rw[I.ok.glob];exact I.mod.glob.keeps I.bk) y h) k
theorem ZC(I:Inv X z σ H s)(k:Gl X x)(v:X.mg x=kv)(hv:y1 x=jr u)(h:Q u s)
  (y:x≠"__name__":=by decide) (a:(x==("__debug__":Str))=false:=by decide):ku (k0 X.prog X.w) X.A (gp (.Name x pos) X.env) Q E s:=by
 let#[f,e,b]:=I.mod.blt;exact QAe I.ok.kind k (Calls.loadGlobal_builtin (by rw[I.ok.glob];exact I.mod.glob.keeps I.bk) v (by rw[I.ok.blt];exact e.keeps I.bk) ((b x y).trans hv) h) a
theorem uc{v:V}(w:Gl X x)(y:X.mg x=jr u)(r:aA v u)(k:(x==("__debug__":Str))=false:=by decide):PE X (.Name x pos) (tC v) :=
 λ_ _ _ H _ I h=>YR I w y #[v,H,I,r,h] k
theorem ec{v:V}(k:Gl X x)(w:X.mg x=kv)(hv:y1 x=jr u)(r:aA v u)(y:x≠"__name__":=by decide)(a:(x==("__debug__":Str))=false:=by decide):PE X (.Name x pos) (tC v) :=
 λ_ _ _ H _ I h=>ZC I k w hv #[v,H,I,r,h] y a
end
variable{a b:Expr}{ta g:TE}{pos:Pos}
variable{n o:TT}{k:List Expr}
noncomputable def tw(t u:TT):TT:=λh H Q=>t h H λc x=>if c=kf then u h x Q else Q kd x
noncomputable def jAW(t u:TT):TT:=λh H Q=>t h H λc x=>if c=kf then Q kf x else u h x Q
def fw(t:TT):TT:=λh H Q=>t h H λc x=>Q (!c) x
theorem Pb(z:PT X a n):PW X (.BoolOp .And [a] pos) n:=by
 intro u x s y H Q I h;refine isTrue_and (FB (z x s y H Q I h) λc v e=>?_);cases c with|true=>exact isTrue_and_nil e|false=>exact e
theorem Dj(z:PT X a n):PW X (.BoolOp .Or [a] pos) n:=by
 intro u x s y H Q I h;refine isTrue_or (FB (z x s y H Q I h) λc v e=>?_);cases c with|false=>exact isTrue_or_nil e|true=>exact e
theorem J6(f:PT X a n)(hb:PW X (.BoolOp .And (b::k) pos) o):PW X (.BoolOp .And (a::b::k) pos) (tw n o):=by
 intro w x s y H Q I h;refine isTrue_and (FB (f x s y H _ I h) λc e #[v,u,z]=>?_);cases c with|true=>exact hb w x e y v Q u z|false=>exact#[v,u,z]
theorem Mf(f:PT X a n)(hb:PW X (.BoolOp .Or (b::k) pos) o):PW X (.BoolOp .Or (a::b::k) pos) (jAW n o):=by
 intro w x s y H Q I h;refine isTrue_or (FB (f x s y H _ I h) λc e #[v,u,z]=>?_);cases c with|true=>exact#[v,u,z]|false=>exact hb w x e y v Q u z
theorem Fj(z:PT X a n):PT X (.UnaryOp .Not a pos) (fw n):=by intro x s y H Q I h;exact isTrue_not (z x s y H (λc u=>Q (!c) u) I h)
noncomputable def uq(ta g:TE):TE:=λh H Q=>ta h H λx y=>∃c,x=.bl c/\if c=kf then g h y Q else Q (.bl kd) y
noncomputable def cw(ta g:TE):TE:=λh H Q=>ta h H λx y=>∃c,x=.bl c/\if c=kf then Q (.bl kf) y else g h y Q
theorem L6{op}{t:TE}(h:PE X a t):PE X (.BoolOp op [a] pos) t:=λx s y H Q I z=>BoolOp_one (h x s y H Q I z)
theorem R6(j:PE X a ta)(hb:PE X (.BoolOp .And (b::k) pos) g):PE X (.BoolOp .And (a::b::k) pos) (uq ta g):=by
 intro y s u H Q I h;refine BoolOp_and (FB (j y s u H _ I h) λv f #[x,e,w,i,z]=>?_);let#[c,rfl,z]:=z;cases i;refine wO ?_;cases c with|true=>exact hb y f u e Q w z|false=>exact#[.bl kd,e,w,rfl,z]
theorem Pf(j:PE X a ta)(hb:PE X (.BoolOp .Or (b::k) pos) g):PE X (.BoolOp .Or (a::b::k) pos) (cw ta g):=by
 intro y s u H Q I h;refine BoolOp_or (FB (j y s u H _ I h) λv f #[x,e,w,i,z]=>?_);let#[c,rfl,z]:=z;cases i;refine wO ?_;cases c with|false=>exact hb y f u e Q w z|true=>exact#[.bl kf,e,w,rfl,z]
noncomputable def jAX(t:TT)(ta g:TE):TE:=λh H Q=>t h H λc x=>if c=kf then ta h x Q else g h x Q
theorem O6{c:Expr}(hc:PT X c n)(e:PE X a ta)(hb:PE X b g):PE X (.IfExp c a b pos) (jAX n ta g):=by
 intro x s y H Q I h;refine wpAny_IfExp (FB (hc x s y H _ I h) λd z #[w,v,u]=>?_);cases d with|true=>exact e x z y w Q v u|false=>exact hb x z y w Q v u
end
def uC(K:QC)(H:Hp)(a:ko)(xs:LV):Prop :=
 Rd H a (.lst xs) ∨
  ∃(o:Obj) (h:Array kn) (n:Nat),K.lookup a=jr o/\o.cls=.type "list"/\o.dict=kv/\o.data=.seq h n/\h.size<=kb/\nA xs h.toList
def rD(K:QC)(H:Hp)(a:ko)(xs:LV):Prop :=
 Rd H a (.tup xs) ∨
  ∃(o:Obj) (h:Array kn) (n:Nat),K.lookup a=jr o/\o.cls=.type "tuple"/\o.data=.seq h n/\h.size<=kb/\nA xs h.toList
noncomputable def yO:kn->Option V
 | .none=>jr .non|.bool b=>jr (.bl b)|.int i _=>jr (.int i)|.str x _=>jr (.str x)|.bytes b _=>jr (.byt b)|.float b _=>jr (.flt b)|.ref a=>jr (.ref a)|.type n=>jr (.ty n)|_=>kv
theorem aA.abs{x:V}{u:kn}(r:aA x u):yO u=jr x:=by
 cases x with|non=>cases r;rfl|bl _=>cases r;rfl|int _=>let#[t,rfl]:=r;rfl|str _=>let#[t,rfl]:=r;rfl|byt _=>let#[t,rfl]:=r;rfl|flt _=>let#[t,rfl]:=r;rfl|ref _=>cases r;rfl|ty _=>cases r;rfl
theorem aA.inj{x y:V}{u:kn}(r:aA x u)(q:aA y u):x=y:=Qp (r.abs.symm.trans q.abs)
theorem nA.inj:∀{xs h:LV}{us:LW},nA xs us->nA h us->xs=h
 |_,_,_,.nil,.nil=>rfl|_,_,_,.cons r t,.cons r' t'=>by rw[r.inj r',nA.inj t t']
section
variable{X:Cx}{x:AB}{σ:St}{H:Hp}{s:kt}{a:ko}{xs y:LV}
theorem uC.of{K:QC}(h:H a=jr (.lst xs)):uC K H a xs:=.inl (.inl h)
theorem rD.of{K:QC}(h:H a=jr (.tup xs)):rD K H a xs:=.inl (.inl h)
theorem Inv.list(I:Inv X x σ H s)(h:uC X.K H a xs):∃its:LW,nA xs its/\PlainL s.1 a its.toArray/\xs.9<=sizeLine:=by
 rcases h with h|⟨o,its,n,hk,hc,v,u,w,r⟩
 let#[z,its,n,r,e]:=h.ok I.hok;exact#[its,r,#[_,n,e,rfl,rfl,rfl],z];refine#[its.toList,r,#[o,n,I.kIn a o hk,hc,v,by simpa using u],?_];have e:=r.9;simp only[Q0]at e;omega
theorem Inv.tuple(I:Inv X x σ H s)(h:rD X.K H a xs):∃its:LW,nA xs its/\i3 s.1 a its.toArray/\xs.9<=sizeLine:=by
 rcases h with h|⟨o,its,n,hk,hc,u,v,r⟩
 let#[z,its,r,p]:=h.ok I.hok;exact#[its,r,p,z];refine#[its.toList,r,#[o,I.kIn a o hk,hc,n,by simpa using u],?_];have e:=r.9;simp only[Q0]at e;omega
theorem Inv.list_inj(I:Inv X x σ H s)(h:uC X.K H a xs)(h':uC X.K H a y):xs=y:=by
 let#[u,r,#[o,n,e,_,_,d],_]:=I.list h;let#[z,k,#[b,f,v,_,_,w],_]:=I.list h';rw[e]at v;cases v;rw[d]at w;injection w with d1 _;have:u=z:=by simpa using wy Array.toList d1
 subst this;exact r.inj k
theorem Inv.tuple_inj(I:Inv X x σ H s)(h:rD X.K H a xs)(h':rD X.K H a y):xs=y:=by
 let#[u,r,#[o,e,_,n,d],_]:=I.tuple h;let#[z,k,#[b,v,_,f,w],_]:=I.tuple h';rw[e]at v;cases v;rw[d]at w;injection w with d1 _;have:u=z:=by simpa using wy Array.toList d1
 subst this;exact r.inj k
end
noncomputable abbrev Cx.wish(X:Cx)(E:mC):Cx:={ X with xe:=E }
noncomputable abbrev Cx.nox(X:Cx):Cx:=X.wish λ_ _=>False
theorem Cx.Ok.wish{X:Cx}(ok:X.Ok)(E:mC):(X.wish E).Ok :=
 #[ok.mod,ok.kind,ok.glob,ok.blt,ok.above,ok.inj,ok.has,ok.cab,ok.hd,ok.frames,ok.stk,ok.exf,ok.bs,ok.bsz,ok.noex,ok.exfs,ok.funs,ok.frf,ok.tb]
theorem Cx.Ok.unwish{X:Cx}{E:mC}(ok:(X.wish E).Ok):X.Ok :=
 #[ok.mod,ok.kind,ok.glob,ok.blt,ok.above,ok.inj,ok.has,ok.cab,ok.hd,ok.frames,ok.stk,ok.exf,ok.bs,ok.bsz,ok.noex,ok.exfs,ok.funs,ok.frf,ok.tb]
section
variable{X:Cx}{x:AB}{σ:St}{H:Hp}{s:kt}{E:mC}
theorem Inv.wish(I:Inv X x σ H s)(E:mC):Inv (X.wish E) x σ H s:=#[I.ok.wish E,I.os,I.bare,I.base,I.loc,I.cell,I.free,I.freeC,I.pin,I.hok,I.len]
theorem Inv.unwish(I:Inv (X.wish E) x σ H s):Inv X x σ H s:=#[I.ok.unwish,I.os,I.bare,I.base,I.loc,I.cell,I.free,I.freeC,I.pin,I.hok,I.len]
theorem SP.unwish{D:Ends}{f:Flow}{s':kt}(h:SP (X.wish E) x D f s'):SP X x D f s':=by
 cases f with|next=>let#[y,z,I,q]:=h;exact#[y,z,I.unwish,q]|brk=>let#[y,z,I,q]:=h;exact#[y,z,I.unwish,q]|cont=>let#[y,z,I,q]:=h;exact#[y,z,I.unwish,q]|ret u=>let#[v,y,z,I,r,q]:=h;exact#[v,y,z,I.unwish,r,q]
theorem IX.nox{st:List gV}{t:TS}(h:IX X.nox st t):IX X st t:=λx s σ H D I y =>
 wK (h x s σ H D (I.wish _) y) (λ_ _ q=>q.unwish) λ_ _ z=>Qg z
end
section
variable{X:Cx}{st:gV}{y:List gV}{t u:TS}{e:Expr}{te:TE}{pos:Pos}
def kq:TS:=λD h H=>D.nx h H
def uw(t u:TS):TS:=λD h H=>t { D with nx:=u D } h H
theorem Sb:IX X [] kq:=λ_ _ x H _ I h=>QAU #[x,H,I,h]
theorem Y6(b:PS X st t)(a:IX X y u):IX X (st::y) (uw t u):=by
 intro x s w H D I h;refine QCq (FB (b x s w H { D with nx:=u D } I h) λf k q=>?_);cases f with|next=>let#[z,i,g,q]:=q;exact a x k z i D g q|ret v=>exact q|brk=>exact q|cont=>exact q
theorem BY(w:PS X st t):IX X [st] t:=by
 intro x s z H D I h;refine QCq (FB (w x s z H D I h) λf k q=>?_);cases f with|next=>exact QAU q|ret v=>exact q|brk=>exact q|cont=>exact q
theorem Inv.quiet{h:AB}{σ:St}{H:Hp}{s:kt}(I:Inv X h σ H s):interactive X.env=false:=by simp[interactive,I.ok.kind]
def vq(te:TE):TS:=λD h H=>te h H λ_ x=>D.nx h x
theorem DY(b:PE X e te)(a:lb e kv pos.line X.env=ak false:=by rfl):PS X (.Expr e pos) (vq te):=by intro z s w H D I h;exact wpAny_Expr_any (FB (b z s w H _ I h) λv i #[x,g,f,j,k]=>#[w,g,f,k]) I.quiet a
def bw(te:TE):TS:=λD h H=>te h H D.rt
theorem K6(b:PE X e te):PS X (.Return (jr e) pos) (bw te):=by intro z s w H D I h;exact wpAny_Return_some (FB (b z s w H _ I h) λv i #[x,g,f,k,a]=>#[x,w,g,f,k,a])
noncomputable def lw(c:TT)(t u:TS):TS:=λD h H=>c h H λb x=>if b=kf then t D h x else u D h x
theorem Sq{c:Expr}{a b:List gV}{tc:TT}(hc:PT X c tc)(g:IX X a t)(hb:IX X b u):PS X (.If c a b pos) (lw tc t u):=by
 intro x s z H D I h;refine wpAny_If (FB (hc x s z H _ I h) λd v #[f,k,w]=>?_);cases d with|true=>exact g x v z f D k w|false=>exact hb x v z f D k w
end
noncomputable abbrev TG:=V->St->Hp->(St->Hp->Prop)->Prop
noncomputable abbrev Uy:=LV->St->Hp->(St->Hp->Prop)->Prop
def PG(X:Cx)(h:Expr)(t:TG):Prop :=
 ∀(x:AB) (s:kt) (z:St) (H:Hp) (v:V) (u:kn) (Q:St->Hp->Prop),Inv X x z H s->aA v u->t v z H Q ->
  ku (k0 X.prog X.w) X.A (ef h X.env u) (λ_ a=>∃y k,Inv X x y k a/\Q y k) X.xe s
def Bz(X:Cx)(ts:List Expr)(t:Uy):Prop :=
 ∀(h:AB) (s:kt) (y:St) (H:Hp) (z:LV) (u:LW) (Q:St->Hp->Prop),Inv X h y H s->nA z u->t z y H Q ->
  ku (k0 X.prog X.w) X.A (pu ((hE ts X.env).map (·.2)) u) (λ_ k=>∃x v,Inv X h x v k/\Q x v) X.xe s
noncomputable abbrev Ko:=V->V->V->Hp->(Hp->Prop)->Prop
def zf(X:Cx)(t:Ko):Prop :=
 ∀(h:AB) (s:kt) (x:St) (H:Hp) (o i v:V) (y z u:kn) (Q:Hp->Prop),Inv X h x H s->aA o y->aA i z->aA v u->t o i v H Q ->
  ku (k0 X.prog X.w) X.A (setItem y z u) (λ_ a=>∃k,Inv X h x k a/\Q k) X.xe s
section
variable{X:Cx}{pos:Pos}
section
variable{i:Nat}{x:Str}{e:Expr}{te:TE}
def lZ(i:Nat):TG:=λv h H Q=>Q (h.set i (jr v)) H
theorem HY(a:X.N.Nodup)(w:X.N[i]?=jr x)(z:vp X.env.scope x)(k:X.fn x=kf∨X.env.scope.names.lookup x=jr .local):PG X (.Name x pos) (lZ i):=by intro y s f H v u Q I r h;exact QCR (AS I a w z r (λg b=>#[_,H,b,h]) k)
noncomputable def Ox(K:QC)(n:Nat)(t:Uy):TG:=λv y H Q=>∃a h,v=.ref a/\rD K H a h/\h.9=n/\t h y H Q
theorem Tj{es:List Expr}{k:Nat}{t:Uy}{n:Nat}(hc:X.calm=kf)(h:Bz X es t)
  (Y:(hE es X.env).9=n:=by rfl) (w:(hE es X.env).findIdx? (·.1)=none:=by rfl):PG X (.Tuple es k pos) (Ox X.K n t):=by
 intro y s f H v u Q I r z;let#[a,j,W,q,hl,z]:=z;subst W;cases r;let#[l,g,p,B]:=I.tuple q;refine assign_Tuple_tuple (I.ok.hd hc) p (by simp[Y,<- hl,g.9]) w λZ m=>?_;have A:Inv X y f H { s with heap:=Z }:=I.kept (t':=s.toks) λb o e=>m b o (Qj (QS e)) e;exact h y _ f H j _ Q A (by simpa using g) z
noncomputable def Px(y z:TE)(t:Ko):TG:=λv h H Q=>y h H λo k=>z h k λi w=>t o i v w λu=>Q h u
theorem Aj{o i:Expr}{b f:TE}{t:Ko}(Z:PE X o b)(W:PE X i f)(Y:zf X t)
  (K:∀v,ef (.Subscript o i pos) X.env v=(do
   let w <- sn [v] (gp o X.env)
   let k <- sn [v,w] (gp i X.env)
   standAt pos
   sn [v,w,k] (setItem w k v)
   release [v,w,k] []):=by intro _;rfl):PG X (.Subscript o i pos) (Px b f t):=by
 intro z s a H v u Q I r h;rw[K];refine QA (qg (FB (Z z s a H _ I h) λw j #[x,G,C,m,q]=>?_));refine QA (qg (FB (W z j a G _ C q) λk g #[y,F,B,l,p]=>?_));refine QA (QCF (QA (qg (FB (Y z g a F x y v w k u _ B m l r p) λ_ J #[E,A,n]=>?_))));exact wpAny_release #[a,E,A,n]
def yj(te:TE)(g:TG):TS:=λD h H=>te h H λx y=>g x h y D.nx
theorem Mj{z:Expr}{g:TG}(l:PE X e te)(j:PG X z g)(f:swapsWithSole [z] e pos.line X.env=ak false:=by rfl)(b:swappedStores [z] e X.env=ak none:=by rfl)
  (m:(hE [z] X.env).map (·.2)=[ef z X.env]:=by rfl):PS X (.Assign [z] e pos) (yj te g):=by
 intro y s u H D I h;refine wpAny_Assign_stores (FB (l y s u H _ I h) λv w #[x,o,n,k,a]=>?_) f b;rw[m];exact FB (j y w u o x v _ n k a) λ_ p q=>q
theorem Gj{pos':Pos}(l:X.N.Nodup)(f:X.N[i]?=jr x)(a:vp X.env.scope x)(j:PE X e te)(b:lb e (jr (.Name x pos')) pos.line X.env=ak false:=by rfl)(g:X.fn x=kf∨X.env.scope.names.lookup x=jr .local) :
  PS X (.Assign [.Name x pos'] e pos) (yj te (lZ i)):=by
 intro z s u H D I h;refine wpAny_Assign_Name (FB (j z s u H _ I h) λv q #[y,o,n,w,k]=>?_) b;exact AS n l f a w (λp m=>#[_,o,m,k]) g
end
end
section
variable{X:Cx}{pos:Pos}
def B5(c:TT)(tb:TS):TS:=λD h H=>∃W:Nat->St->Hp->Prop,(∃m,W m h H)/\∀m h H,W m h H ->
 c h H λb z=>if b=kf then ∃N:St->Hp->Prop,(∀x u,N x u->∃y,y < m/\W y x u)/\tb { D with nx:=N,ct:=N,bk:=D.nx } h z else D.nx h z
theorem Z6{c:Expr}{body:List gV}{tc:TT}{tb:TS}(p:ri (k0 X.prog X.w) X.A X.env X.xe)(hc:PT X c tc)(hb:IX X body tb):PS X (.While c body [] pos) (B5 tc tb):=by
 intro y s B H D I h;let#[W,#[L,E],k]:=h;refine wpAny_While (codeAny_whileLoop (λn J=>∃u K,Inv X y u K J/\W n u K) ?_ L #[B,H,I,E]);rintro n G ⟨z,Z,M,C⟩;refine wt p (FB (hc y G z Z _ M (k n z Z C)) λb F #[Y,r,g]=>?_);cases b with
 |true =>
  let#[N,q,g]:=g;rw[Qc rfl];refine wt p (FB (hb y F z Y _ r g) λf O e=>?_);cases f with|next=>let#[x,a,o,j]:=e;let#[l,m,i]:=q x a j;exact#[l,m,x,a,o,i]|cont=>let#[x,a,o,j]:=e;let#[l,m,i]:=q x a j;exact#[l,m,x,a,o,i]|brk=>exact e|ret v=>exact e
 |false=>rw[QB QG];exact QAU #[z,Y,r,g]
end
section
variable{s:kt}{y:Expr}{P:k5}{w:xb}{K:QC}
structure It where
 go:Nat->Hp->Prop
 yld:Nat->Hp->V->Hp->Prop
 stop:Nat->Hp->Prop
def GJ(X:Cx)(h:AB)(H:Hp)(b:ko):Prop :=
 H b=kv/\b≠X.env.locals/\b∉X.fs/\(b∈X.ex∨X.s₀.1.1.size<=b)/\(∀x c,X.env.cells.lookup x=jr c->c≠b)/\∀p∈X.pn++h,p.1≠b
theorem Inv.fpOk{X:Cx}{h:AB}{σ:St}{H u:Hp}{b:ko}(I:Inv X h σ H s)(hb:s.1.1.size<=b)(a:u b=kv):GJ X h u b:=by refine#[a,w8 (Qt I.lt hb),I.nofs hb,.inr (QU I.sz hb),λx c e z=>?_,λp k z=>?_];let#[v,q]:=I.cell x c e;exact Qe (Qt q.lt (by rw[z];exact hb)) (qG _);exact Qe (Qt (QS (I.pin p k).1) (by rw[z];exact hb)) (qG _)
structure Turn0(P:k5)(w:xb)(K:QC)(y:Expr)(J:It)(fp:List ko)(it:ko)(tn:Nat->vu->Prop):Prop where
 mem:it∈fp
 obj:∀i h,tn i h->∀b∈fp,∃o,h.get? b=jr o/\∀v,o.data≠.cell v
 keep:∀i h h',tn i h->(∀b∈fp,∀o,h.get? b=jr o->h'.get? b=jr o)->tn i h'
 item:∀(X:Cx),X.prog=P->X.w=w->X.K=K->X.calm=kf->∀(i:Nat) (pins:AB) (s:kt) (σ:St) (H:Hp) (E:mC),Inv X pins σ H s->(∀b∈fp,GJ X pins H b)->tn i s.1->J.go i H ->
  ku (k0 P w) X.A (mu (.ref it)) (λr s1=>∃u,r=jr u /\
   ku (k0 P w) X.A (dy y (.ref it) u) (λ_ s2=>∃x H',Inv X pins σ H' s2/\aA x u/\J.yld i H x H'/\tn (i+1) s2.1/\∀b∈fp,H' b=kv) E s1) E s
 done:∀(X:Cx),X.prog=P->X.w=w->X.K=K->X.calm=kf->∀(i:Nat) (pins:AB) (s:kt) (σ:St) (H:Hp) (E:mC),Inv X pins σ H s->(∀b∈fp,GJ X pins H b)->tn i s.1->J.stop i H ->
  ku (k0 P w) X.A (mu (.ref it)) (λr s1=>r=kv/\Inv X pins σ H s1) E s
structure Turn(P:k5)(w:xb)(K:QC)(y:Expr)(J:It)(fp:List ko)(it:ko)(tn:Nat->vu->Prop):Prop extends Turn0 P w K y J fp it tn where
 self:∀(A:x0) (i:Nat) (s:kt) (Q:mC) (E:mC),tn i s.1->Q (.ref it) s->ku (k0 P w) A (la (.ref it)) Q E s
noncomputable abbrev TI:=St->Hp->(It->Hp->Prop)->Prop
def Dy(X:Cx)(h:AB)(σ:St)(y:Expr)(R:It->Hp->Prop)(x:kn)(u:kt):Prop :=
 ∃(it:ko) (v:List ko) (tn:Nat->vu->Prop) (J:It) (z:Hp),x=.ref it/\Inv X h σ z u/\Turn X.prog X.w X.K y J v it tn/\tn 0 u.1/\(∀b∈v,GJ X h z b)/\R J z
def PI(X:Cx)(y x:Expr)(u:TI):Prop :=
 ∀(h:AB) (s:kt) (z:St) (H:Hp) (R:It->Hp->Prop),Inv X h z H s->u z H R ->
  ku (k0 X.prog X.w) X.A (gp x X.env) (λv k=>ku (k0 X.prog X.w) X.A (la v) (Dy X h z y R) X.xe k) X.xe s
def Cy(X:Cx)(h:AB)(σ:St)(y:Expr)(R:It->Hp->Prop)(x:kn)(u:kt):Prop :=
 ∃(it:ko) (v:List ko) (tn:Nat->vu->Prop) (J:It) (z:Hp),x=.ref it/\Inv X h σ z u/\Turn0 X.prog X.w X.K y J v it tn/\tn 0 u.1/\(∀b∈v,GJ X h z b)/\R J z
def Zv(X:Cx)(y x:Expr)(u:TI):Prop :=
 ∀(h:AB) (s:kt) (z:St) (H:Hp) (R:It->Hp->Prop),Inv X h z H s->u z H R ->
  ku (k0 X.prog X.w) X.A (gp x X.env) (λv k=>ku (k0 X.prog X.w) X.A (la v) (Cy X h z y R) X.xe k) X.xe s
theorem PI.to0{X:Cx}{z:Expr}{k:TI}(h:PI X y z k):Zv X y z k:=λu s a H R I q =>
 wK (h u s a H R I q) (λv m f=>wK f (λb l #[it,g,tn,J,j,e,i,T,r]=>#[it,g,tn,J,j,e,i,T.toTurn0,r]) λ_ _ x=>x) λ_ _ x=>x
theorem go_of{M:Model}{A:x0}{E:mC}{it:ko}{u:kn}{o:Obj}{n:String}{vs:Array kn}{Q:Unit->kt->Prop}(z:s.1.get? it=jr o)(hc:o.cls=.type n)(k:o.data=.fields vs)
    (v:["enumerate","zip","dict_itemiterator","dict_reverseitemiterator","odict_iterator","itertools.zip_longest","itertools.pairwise"].contains n=kd) (x:Q Unit.unit s):ku M A (dy y (.ref it) u) Q E s:=by
  unfold dy;cases y<;>first
    |exact QK x
    | (cases u<;>first
        |exact QK x
        | (refine QA (QDG z ?_)
           rw[hc,k];show ku M A (if(["enumerate","zip","dict_itemiterator","dict_reverseitemiterator","odict_iterator","itertools.zip_longest","itertools.pairwise"].contains n&&vs[0]?==jr (hQ _))=kf then _ else _) Q E s;rw[QB (by intro h;rw[v,W5]at h;cases h)];exact QK x))
noncomputable def jAG(K:QC)(a:ko):It :=
 #[λi H=>∃h x,uC K H a h/\h[i]?=jr x,λi H x z=>z=H/\∀h,uC K H a h->h[i]?=jr x,λi H=>∃h,uC K H a h/\h.9<=i]
noncomputable def jAE(K:QC)(a:ko):It :=
 #[λi H=>∃h x,rD K H a h/\h[i]?=jr x,λi H x z=>z=H/\∀h,rD K H a h->h[i]?=jr x,λi H=>∃h,rD K H a h/\h.9<=i]
noncomputable def Py(h:Int)(n:Nat):It:=#[λi _=>i<n,λi H x z=>z=H/\x=.int (h+i),λi _=>n<=i]
theorem z0(a it:ko):Turn P w K y (jAG K a) [it] it (λi h=>h.IsListIter it a i) where
 mem:=by simp
 obj:=λi h st b hb=>by
  have e:b=it:=by simpa using hb
  subst e;let#[o,e,c,d]:=st;exact#[o,e,λv z=>by rw[d]at z;cases z]
 keep:=λi h m st k=>st.at λo e=>k it (by simp) o e
 item:=by intro X W Y A hc i f s L H E I l st Z;subst W Y A;let#[M,x,j,r]:=Z;let#[q,n,p,Q]:=I.list j;let#[u,S,O]:=n.get r;let#[J,G,f2,F,C,B]:=l it (by simp);refine wpAny_pyNext_list_item st p.isList (x:=u) (by simpa using S) λm g N=>?_;have I1:Inv X f L H { s with heap:=m }:=I.turned (t':=s.toks) (λb o hb e=>(N.2 b hb).trans e) J G F C B;let#[o,e,c,d]:=id g;exact#[u,rfl,go_of (s:={ s with heap:=m }) e c d (by decide) #[x,H,I1,O,#[rfl,λys R=>by rw[I.list_inj R j];exact r],g,λb hb=>(l b hb).1]]
 done:=by intro X W Y A hc i f s L H E I l st Z;subst W Y A;let#[M,j,r]:=Z;let#[q,n,p,Q]:=I.list j;let#[J,G,f2,F,C,B]:=l it (by simp);have hl:=n.9;exact wpAny_pyNext_list_end (I.ok.hd hc) st p.isList (by simp;omega) λm eb=>#[rfl,I.turned (t':=s.toks) (λb o hb e=>eb b o hb e) J G F C B]
 self:=λ_ _ _ _ _ st h=>wpAny_pyIter_listiter st h
theorem FV(a it:ko):Turn P w K y (jAE K a) [it] it (λi h=>h.IsTupleIter it a i) where
 mem:=by simp
 obj:=λi h st b hb=>by
  have e:b=it:=by simpa using hb
  subst e;let#[o,e,c,d]:=st;exact#[o,e,λv z=>by rw[d]at z;cases z]
 keep:=λi h n st k=>st.at λo e=>k it (by simp) o e
 item:=by intro X W Y A hc i f s L H E I m st Z;subst W Y A;let#[M,x,l,r]:=Z;let#[g,q,p,Q]:=I.tuple l;let#[u,S,O]:=q.get r;let#[J,G,f2,F,C,B]:=m it (by simp);refine wpAny_pyNext_tuple_item st (show s.1.IsTuple a g.toArray from p) (x:=u) (by simpa using S) λn j N=>?_;have I1:Inv X f L H { s with heap:=n }:=I.turned (t':=s.toks) (λb o hb e=>(N.2 b hb).trans e) J G F C B;let#[o,e,c,d]:=id j;exact#[u,rfl,go_of (s:={ s with heap:=n }) e c d (by decide) #[x,H,I1,O,#[rfl,λys R=>by rw[I.tuple_inj R l];exact r],j,λb hb=>(m b hb).1]]
 done:=by intro X W Y A hc i f s L H E I m st Z;subst W Y A;let#[M,l,r]:=Z;let#[g,q,p,Q]:=I.tuple l;let#[J,G,f2,F,C,B]:=m it (by simp);have hl:=q.9;exact wpAny_pyNext_tuple_end (I.ok.hd hc) st (show s.1.IsTuple a g.toArray from p) (by simp;omega) λn eb=>#[rfl,I.turned (t':=s.toks) (λb o hb e=>eb b o hb e) J G F C B]
 self:=λ_ _ _ _ _ st h=>wpAny_pyIter_tupleiter st h
theorem GV(it:ko)(a:Int)(n:Nat):Turn P w K y (Py a n) [it] it (λi h=>IsRangeIter h it (a+(i:Nat) * 1) ((n:Int) - (i:Nat)) 1) where
 mem:=by simp
 obj:=λi h st b hb=>by
  have e:b=it:=by simpa using hb
  subst e;exact#[_,st,λv z=>by have F:Data.fields _=Data.cell v:=z;cases F]
 keep:=λi h g st k=>k it (by simp) _ st
 item:=by intro X m j p hc i x s B H E I f st l;subst m j p;let#[A,Z,J,Y,r,q]:=f it (by simp);have W:=Walks.range (prog:=X.prog) (w:=X.w) (I.ok.hd hc) it a 1 n;refine W.item i s _ _ l st λv g C hv u G=>?_;let#[t,rfl]:=hv;have M:Inv X x B H { s with heap:=g,toks:=C }:=I.turned (λb o hb e=>G b o (by simpa using hb) e) A Z Y r q;refine#[_,rfl,go_of (s:={ s with heap:=g,toks:=C }) (n:="range_iterator") u rfl rfl (by decide) #[.int (a+i),H,M,#[t,?_],#[rfl,rfl],u,λb hb=>(f b hb).1]];rw[Int.mul_one]
 done:=by intro X m j p hc i x s B H E I f st l;subst m j p;let#[A,Z,J,Y,r,q]:=f it (by simp);exact wpAny_pyNext_range_end (I.ok.hd hc) st (by have:n<=i:=l;omega) λg L=>#[rfl,I.turned (t':=s.toks) (λb o hb e=>L b o hb e) A Z Y r q]
 self:=λ_ _ _ _ _ st h=>wpAny_pyIter_rangeiter st h
end
section
variable{X:Cx}{a:Expr}
section
variable{y:AB}{σ:St}{H:Hp}{s:kt}{k:List ko}{h:vu}
theorem n6{R:It->Hp->Prop}{E:mC}{x z:Int}{t u v:Tok}{f:Nat}(I:Inv X y σ H s)(m:-(2 ^ 62)<=x)(l:x<2 ^ 62)(j:-(2 ^ 62)<=z)(i:z<2 ^ 62)
  (q:R (Py x (z - x).toNat) H):ku (k0 X.prog X.w) X.A (la (.ref s.1.1.size)) (Dy X y σ a R) E { s with heap:=s.1.push { cls:=.type "range",data:=.fields (qK [.int x t,.int z u,.int 1 v]) },toks:=f }:=by
 refine wpAny_pyIter_range (IsRange.new ..) (small_one m l j i) ?_;have g:Inv X y σ H { s with heap:=s.1.push { cls:=.type "range",data:=.fields (qK [.int x t,.int z u,.int 1 v]) },toks:=f }:=I.kept λb o e=>QH _ e;refine#[(s.1.push { cls:=.type "range",data:=.fields (qK [.int x t,.int z u,.int 1 v]) }).1.size,[(s.1.push { cls:=.type "range",data:=.fields (qK [.int x t,.int z u,.int 1 v]) }).1.size],_,_,H,rfl,
  g.kept (t':=f) λb o e=>QH _ e,GV _ x (z - x).toNat,?_,λb hb=>?_,q]
 have p:x+((0:Nat):Int) * 1=x:=by simp
 have n:(((z - x).toNat:Nat):Int) - ((0:Nat):Int)=Wg x z 1:=by rw[p0];split<;>omega
 show IsRangeIter _ _ (x+((0:Nat):Int) * 1) ((((z - x).toNat:Nat):Int) - ((0:Nat):Int)) 1;rw[p,n];exact QO _ rfl;have e:b=(s.1.push { cls:=.type "range",data:=.fields (qK [.int x t,.int z u,.int 1 v]) }).1.size:=by simpa using hb
 subst e;exact g.fpOk (QV _) (g.hok.fresh (QV _))
def mw(b:TI)(g:TG)(tb:TS):TS:=λD σ H=>b σ H λJ f=>∃W:Nat->Nat->St->Hp->Prop,(∃m,W 0 m σ f)/\∀i m σ H,W i m σ H ->
 (J.stop i H/\D.nx σ H)∨(J.go i H/\∃N:St->Hp->Prop,(∀z u,N z u->∃w,w < m/\W (i+1) w z u)/\∀x u,J.yld i H x u->g x σ u λv e=>tb { D with nx:=N,ct:=N,bk:=D.nx } v e)
noncomputable def OM(k:List ko)(h:vu):AB:=k.filterMap λb=>(h.get? b).map λo=>(b,o)
theorem fF{b:ko}{o:Obj}(hb:b∈k)(e:h.get? b=jr o):(b,o)∈OM k h:=QCG.mpr #[b,hb,by rw[e];rfl]
theorem M1{p:ko×Obj}(x:p∈OM k h):p.1∈k/\h.get? p.1=jr p.2:=by
 let#[b,hb,e]:=QCG.mp x;cases q:h.get? b with|none=>rw[q]at e;cases e|some o=>rw[q]at e;have z:(b,o)=p:=Qp e;subst z;exact#[hb,q]
theorem Inv.pinned(I:Inv X y σ H s)(f:∀b∈k,GJ X y H b)(w:∀b∈k,∃o,s.1.get? b=jr o/\∀v,o.data≠.cell v):Inv X (y++OM k s.1) σ H s :=
 I.pins_of λp u=>(Qf.mp u).elim (λz=>I.pin p (QT _ z)) λz=>by let#[hb,e]:=M1 z;let#[j,i,g,_]:=f p.1 hb;let#[o,x,d]:=w p.1 hb;rw[e]at x;cases x;exact#[e,j,i,g,d]
theorem Inv.unpinned{x:AB}(I:Inv X (y++x) σ H s):Inv X y σ H s:=I.pins_of λp z=>I.pin p (QT _ (Qm _ z))
theorem Hj{q:Expr}{body:List gV}{wi:TI}{g:TG}{tb:TS}{pos:Pos}(O:ri (k0 X.prog X.w) X.A X.env X.xe)(hc:X.calm=kf)(hi:Zv X a q wi)(hg:PG X a g)(hb:IX X body tb)
  (hs:∀x,hB q X.env x=ak x:=by intro _;rfl):PS X (.For a q body [] pos) (mw wi g tb):=by
 intro y s σ H D I h;refine wpAny_For (FB (hi y s σ H _ I h) λv s1 h1=>FB h1 λitv s2 h2=>?_) hs;let#[it,k,tn,J,H2,e,I2,T,S,f2,W,#[m0,w0],F]:=h2;subst e;have p:∀{B:Hp},(∀b∈k,B b=kv)->∀b∈k,GJ X y B b:=λhn b hb=>#[hn b hb,(f2 b hb).2]
 refine codeAny_forLoop_any (λn s'=>∃i l B,Inv X y l B s'/\tn i s'.1/\(∀b∈k,B b=kv)/\W i n l B) ?_ m0 #[0,σ,H2,I2,S,λb hb=>(f2 b hb).1,w0];rintro n s3 ⟨i,j,Q,I3,L,P,w3⟩;rcases F i n j Q w3 with⟨G,qn⟩| ⟨go,N,hN,step⟩
 refine wt O (FB (T.done X rfl rfl rfl hc i y s3 j Q X.xe I3 (p P) L G) λr s4 #[hr,I4]=>?_);subst hr;exact QAU #[j,Q,I4,qn];refine wt O (FB (T.item X rfl rfl rfl hc i y s3 j Q X.xe I3 (p P) L go) λr s4 #[u,hr,h4]=>?_);subst hr;refine wt O (FB h4 λ_ s5 #[x,H5,I5,r5,y5,E,fr5]=>?_);have I5':=I5.pinned (p fr5) (T.obj _ _ E);refine wt O (FB (hg _ s5 j H5 x u _ I5' r5 (step x H5 y5)) λ_ s6 #[R,H6,I6,q6]=>?_);refine wt O (FB (hb _ s6 R H6 _ I6 q6) λf s7 C=>?_);have Y:∀{z:St}{K:Hp},Inv X (y++OM k s5.1) z K s7->N z K->∃m,m<n/\∃i l B,Inv X y l B s7/\tn i s7.1/\(∀b∈k,B b=kv)/\W i m l B:=λ{z K} Z M=>by let#[m',hm,w7]:=hN z K M;refine#[m',hm,i+1,z,K,Z.unpinned,T.keep _ _ _ E λb hb o e=>(Z.pin (b,o) (QT _ (QT _ (fF hb e)))).1,λb hb=>?_,w7];let#[o,e,d]:=T.obj _ _ E b hb;exact(Z.pin (b,o) (QT _ (QT _ (fF hb e)))).2.1
 cases f with|next=>let#[z,K,Z,M]:=C;exact Y Z M|cont=>let#[z,K,Z,M]:=C;exact Y Z M|brk=>let#[z,K,Z,C]:=C;exact#[z,K,Z.unpinned,C]|ret v=>let#[x7,z,K,Z,r7,C]:=C;exact#[x7,z,K,Z.unpinned,r7,C]
end
end
noncomputable abbrev R2:=V->V->Hp->VK->Prop
def AE(X:Cx)(f:kn->kn->Sem kn)(r:R2):Prop :=
 ∀(h:AB) (s:kt) (z:St) (H:Hp) (x y:V) (v u:kn) (Q:VK),Inv X h z H s->aA x v->aA y u->r x y H Q ->
  ku (k0 X.prog X.w) X.A (f v u) (EP X h z Q) X.xe s
def Vy(X:Cx)(f:kn->Sem kn)(r:V->Hp->VK->Prop):Prop :=
 ∀(h:AB) (s:kt) (y:St) (H:Hp) (x:V) (v:kn) (Q:VK),Inv X h y H s->aA x v->r x H Q ->
  ku (k0 X.prog X.w) X.A (f v) (EP X h y Q) X.xe s
def JC(X:Cx)(f:kn)(r:LV->Hp->VK->Prop):Prop :=
 ∀(h:AB) (s:kt) (x:St) (H:Hp) (y:LV) (z:LW) (Q:VK),Inv X h x H s->nA y z->r y H Q ->
  ku (k0 X.prog X.w) X.A (b8 f z) (EP X h x Q) X.xe s
def Xy(X:Cx)(r:V->Hp->(Bool->Hp->Prop)->Prop):Prop :=
 ∀(h:AB) (s:kt) (y:St) (H:Hp) (x:V) (v:kn) (Q:Bool->Hp->Prop),Inv X h y H s->aA x v->r x H Q ->
  ku (k0 X.prog X.w) X.A (truthy v) (TP X h y Q) X.xe s
noncomputable def yq(r:R2)(ta tb:TE):TE:=λh H Q=>ta h H λx u=>tb h u λy z=>r x y z Q
noncomputable def jAU(r:V->Hp->VK->Prop)(ta:TE):TE:=λh H Q=>ta h H λx y=>r x y Q
noncomputable def rI(C:Int->Int->Prop)(g:Int->Int->V):R2:=λx y H Q=>∃i j,x=.int i/\y=.int j/\C i j/\Q (g i j) H
noncomputable def Mb(g:Int->Int->V):R2:=λx y H Q=>∃i j,x=.int i/\y=.int j/\Q (g i j) H
def rU(g:Int->V):V->Hp->VK->Prop:=λx H Q=>∃i,x=.int i/\Q (g i) H
section
variable{X:Cx}{a b c:Expr}{ta z tc:TE}{pos:Pos}
section
variable{f:kn->kn->Sem kn}{g:Int->Int->Int}
theorem binT(Z:PE X a ta)(hb:PE X b z){k:AB}{s:kt}{σ:St}{H:Hp}{R:V->V->Hp->Prop}(I:Inv X k σ H s)
  (h:ta σ H λx m=>z σ m λy e=>R x y e) {Q:mC}
  (Y:∀v u l x y e,Inv X k σ e l->aA x v->aA y u->R x y e->ku (k0 X.prog X.w) X.A (f v u) Q X.xe l) :
  ku (k0 X.prog X.w) X.A (gp a X.env) (λv j=>ku (k0 X.prog X.w) X.A (gp b X.env) (λu i=>ku (k0 X.prog X.w) X.A (f v u) Q X.xe i) X.xe j) X.xe s:=by
 refine FB (Z k s σ H _ I h) λv n #[x,m,K,p,r]=>?_;refine FB (hb k n σ m _ K r) λu l #[y,e,W,o,q]=>?_;exact Y v u l x y e W p o q
theorem Aq{k:g6}{r:R2}(m:AE X (g7 k) r)(n:PE X a ta)(hb:PE X b z):PE X (.BinOp a k b pos) (yq r ta z):=by intro w s e H Q I h;exact wpAny_BinOp (binT n hb I h λv u i x y p o l j q=>m w i e p x y v u Q o l j q)
theorem Tq{w:tj}{r:V->Hp->VK->Prop}(j:Vy X (unaryOp w) r)(l:PE X a ta):PE X (.UnaryOp w a pos) (jAU r ta):=by intro y s u H Q I h;exact UnaryOp_ (FB (l y s u H _ I h) λv k #[x,n,m,e,i]=>j y k u n x v Q m e i)
theorem jAd{C:Int->Int->Prop}
  (k:∀(i j:Int) (t u:Tok) (s:kt) (Q:mC) (E:mC),C i j->Q (.int (g i j) s.toks) { s with toks:=s.toks+1 }->ku (k0 X.prog X.w) X.A (f (.int i t) (.int j u)) Q E s) :
  AE X f (rI C λi j=>.int (g i j)):=by
 intro e s o H x y v u Q I n m h;let#[i,j,rfl,rfl,hc,q]:=h;let#[t,rfl]:=n;let#[l,rfl]:=m;exact k i j t l s _ _ hc #[.int (g i j),H,I.tok _,#[_,rfl],q]
theorem cr
  (k:∀(i j:Int) (t u:Tok) (s:kt) (Q:mC) (E:mC),Q (.int (g i j) s.toks) { s with toks:=s.toks+1 }->ku (k0 X.prog X.w) X.A (f (.int i t) (.int j u)) Q E s) :
  AE X f (Mb λi j=>.int (g i j)):=by
 intro e s o H x y v u Q I n m h;let#[i,j,rfl,rfl,q]:=h;let#[t,rfl]:=n;let#[l,rfl]:=m;exact k i j t l s _ _ #[.int (g i j),H,I.tok _,#[_,rfl],q]
theorem Uc{g:Int->Int->Bool}
  (k:∀(i j:Int) (t u:Tok) (s:kt) (Q:mC) (E:mC),Q (.bool (g i j)) s->ku (k0 X.prog X.w) X.A (f (.int i t) (.int j u)) Q E s) :
  AE X f (Mb λi j=>.bl (g i j)):=by
 intro e s o H x y v u Q I n m h;let#[i,j,rfl,rfl,q]:=h;let#[t,rfl]:=n;let#[l,rfl]:=m;exact k i j t l s _ _ #[.bl (g i j),H,I,rfl,q]
def JS(i j:Int):Prop:=(-(2 ^ 64)<i/\i<2 ^ 64)∨(-(2 ^ 64)<j/\j<2 ^ 64)
theorem JS.ok{i j:Int}(h:JS i j):l4 i j:=by
 rcases h with⟨y,x⟩| ⟨y,x⟩
 exact .of_left (p5 y x);exact .of_right (p5 y x)
theorem op_add:AE X (g7 .Add) (Mb λi j=>.int (i+j)):=cr λ_ _ _ _ _ _ _ q=>add_int q
theorem op_sub:AE X (g7 .Sub) (Mb λi j=>.int (i - j)):=cr λ_ _ _ _ _ _ _ q=>sub_int q
theorem op_mod:AE X (g7 .Mod) (rI (λ_ j=>0<j) λi j=>.int (i % j)):=jAd λi j _ _ _ _ _ hc q=>by have h:(0:Int)<j:=hc;exact mod_int' () (by rw[Int.fmod_eq_emod_of_nonneg i ()];exact q)
theorem jAT{f:kn->Sem kn}{g:Int->Int}
  (y:∀(i:Int) (t:Tok) (s:kt) (Q:mC) (E:mC),Q (.int (g i) s.toks) { s with toks:=s.toks+1 }->ku (k0 X.prog X.w) X.A (f (.int i t)) Q E s) :
  Vy X f (rU λi=>.int (g i)):=by
 intro u s e H x v Q I k h;let#[i,rfl,q]:=h;let#[t,rfl]:=k;exact y i t s _ _ #[.int (g i),H,I.tok _,#[_,rfl],q]
theorem Ei:Vy X (unaryOp .USub) (rU λi=>.int (-i)):=jAT λ_ _ _ _ _ q=>neg_int q
end
end
noncomputable def Fb:V->V->Bool
 | .non,.non=>kf | .non,.int _=>kf | .int _,.non=>kf | .non,.bl _=>kf | .bl _,.non=>kf | .non,.str _=>kf | .str _,.non=>kf
 | .int _,.int _=>kf | .bl _,.bl _=>kf | .str _,.str _=>kf | .byt _,.byt _=>kf
 | .int _,.str _=>kf | .str _,.int _=>kf | .bl _,.str _=>kf | .str _,.bl _=>kf
 |_,_=>kd
def rEq:R2:=λx y H Q=>Fb x y=kf/\Q (.bl (decide (x=y))) H
def jAb:R2:=λx y H Q=>Fb x y=kf/\Q (.bl (!decide (x=y))) H
theorem YZ{i j:Int}:decide (V.int i=V.int j)=(i==j):=by rw[Q2];simp
theorem g9{i j:Bool}:decide (V.bl i=V.bl j)=(i==j):=by rw[Q2];simp
theorem JZ{i j:Str}:decide (V.str i=V.str j)=(i==j):=by rw[Q2];simp
theorem ZZ{i j:Array UInt8}:decide (V.byt i=V.byt j)=(i.toList==j.toList):=by rw[Q2];cases i;cases j;simp
section
variable{X:Cx}{a b c:Expr}{ta g tc:TE}{pos:Pos}
section
variable{r:R2}{d:fv}{us:LW}
theorem sA{h:AB}{σ:St}{H:Hp}{s:kt}{Q:VK}{k x:Bool}(I:Inv X h σ H s)(q:Q (.bl k) H)(e:k=x):EP X h σ Q (.bool x) s:=by subst e;exact#[.bl k,H,I,rfl,q]
theorem op_eq:AE X (vx .Eq) rEq:=by
 intro f s l H x y v u Q I e z h;let#[k,q]:=h;cases x with
 |non =>
  cases e;cases y with|non=>cases z;exact PySem.EqNone.eq_none_none (sA I q (by simp))|bl j=>cases z;exact PySem.EqNone.eq_none_bool (sA I q (by simp))|int j=>let#[w,rfl]:=z;exact PySem.EqNone.eq_none_int (sA I q (by simp))|str j=>let#[w,rfl]:=z;exact PySem.EqNone.eq_none_str (sA I q (by simp))|_=>exact Qe (show kd=kf from k) QG
 |bl i =>
  cases e;cases y with|non=>cases z;exact PySem.EqNone.eq_bool_none (sA I q (by simp))|bl j=>cases z;exact eq_bool (sA I q g9)|str j=>let#[w,rfl]:=z;exact PySem.EqMixed.eq_bool_str (sA I q (by simp))|_=>exact Qe (show kd=kf from k) QG
 |int i =>
  let#[t,rfl]:=e;cases y with|non=>cases z;exact PySem.EqNone.eq_int_none (sA I q (by simp))|int j=>let#[w,rfl]:=z;exact eq_int (sA I q YZ)|str j=>let#[w,rfl]:=z;exact PySem.EqMixed.eq_int_str (sA I q (by simp))|_=>exact Qe (show kd=kf from k) QG
 |str i =>
  let#[t,rfl]:=e;cases y with|non=>cases z;exact PySem.EqNone.eq_str_none (sA I q (by simp))|bl j=>cases z;exact PySem.EqMixed.eq_str_bool (sA I q (by simp))|int j=>let#[w,rfl]:=z;exact PySem.EqMixed.eq_str_int (sA I q (by simp))|str j=>let#[w,rfl]:=z;exact eq_str (sA I q JZ)|_=>exact Qe (show kd=kf from k) QG
 |byt i =>
  let#[t,rfl]:=e;cases y with|byt j=>let#[w,rfl]:=z;exact PySem.W.eq_bytes (sA I q ZZ)|_=>exact Qe (show kd=kf from k) QG
 |_=>cases y<;>exact Qe (show kd=kf from k) QG
theorem op_ne:AE X (vx .NotEq) jAb:=by
 intro f s l H x y v u Q I e z h;let#[k,q]:=h;cases x with
 |non =>
  cases e;cases y with|non=>cases z;exact PySem.EqNone.ne_none_none (sA I q (by simp))|bl j=>cases z;exact PySem.EqNone.ne_none_bool (sA I q (by simp))|int j=>let#[w,rfl]:=z;exact PySem.EqNone.ne_none_int (sA I q (by simp))|str j=>let#[w,rfl]:=z;exact PySem.EqNone.ne_none_str (sA I q (by simp))|_=>exact Qe (show kd=kf from k) QG
 |bl i =>
  cases e;cases y with|non=>cases z;exact PySem.EqNone.ne_bool_none (sA I q (by simp))|bl j=>cases z;exact ne_bool (sA I q (wy not g9))|str j=>let#[w,rfl]:=z;exact PySem.EqMixed.ne_bool_str (sA I q (by simp))|_=>exact Qe (show kd=kf from k) QG
 |int i =>
  let#[t,rfl]:=e;cases y with|non=>cases z;exact PySem.EqNone.ne_int_none (sA I q (by simp))|int j=>let#[w,rfl]:=z;exact ne_int (sA I q (wy not YZ))|str j=>let#[w,rfl]:=z;exact PySem.EqMixed.ne_int_str (sA I q (by simp))|_=>exact Qe (show kd=kf from k) QG
 |str i =>
  let#[t,rfl]:=e;cases y with|non=>cases z;exact PySem.EqNone.ne_str_none (sA I q (by simp))|bl j=>cases z;exact PySem.EqMixed.ne_str_bool (sA I q (by simp))|int j=>let#[w,rfl]:=z;exact PySem.EqMixed.ne_str_int (sA I q (by simp))|str j=>let#[w,rfl]:=z;exact ne_str (sA I q (wy not JZ))|_=>exact Qe (show kd=kf from k) QG
 |byt i =>
  let#[t,rfl]:=e;cases y with|byt j=>let#[w,rfl]:=z;exact PySem.W.ne_bytes (sA I q (wy not ZZ))|_=>exact Qe (show kd=kf from k) QG
 |_=>cases y<;>exact Qe (show kd=kf from k) QG
theorem op_lt:AE X (vx .Lt) (Mb λi j=>.bl (decide (i<j))):=Uc λ_ _ _ _ _ _ _ q=>lt_int q
theorem op_le:AE X (vx .LtE) (Mb λi j=>.bl (decide (i<=j))):=Uc λ_ _ _ _ _ _ _ q=>le_int q
theorem op_gt:AE X (vx .Gt) (Mb λi j=>.bl (decide (j<i))):=Uc λ_ _ _ _ _ _ _ q=>gt_int q
theorem op_ge:AE X (vx .GtE) (Mb λi j=>.bl (decide (j<=i))):=Uc λ_ _ _ _ _ _ _ q=>ge_int q
theorem U1:AE X (vx .In) (λx y H Q=>∃i j,x=.str i/\y=.str j/\Q (.bl (!(qH j i 0 j.9 1).isEmpty)) H):=by intro z s e H x y v u Q I k w h;let#[i,j,rfl,rfl,q]:=h;let#[t,rfl]:=k;let#[f,rfl]:=w;exact in_str (sA I q rfl)
theorem Jk:AE X (vx .Is) (λx y H Q=>y=.non/\Q (.bl (decide (x=.non))) H):=by
 intro w s e H x y v u Q I z k h;let#[rfl,q]:=h;cases k;refine is_none_gen (sA I q ?_);cases x<;>first
  | (cases z;rfl)
  | (let#[t,rfl]:=z;rfl)
theorem Kc:AE X (vx .IsNot) (λx y H Q=>y=.non/\Q (.bl (!decide (x=.non))) H):=by
 intro w s e H x y v u Q I z k h;let#[rfl,q]:=h;cases k;refine isnot_none_gen (sA I q ?_);cases x<;>first
  | (cases z;rfl)
  | (let#[t,rfl]:=z;rfl)
theorem IQ:AE X (vx .NotIn) (λx y H Q=>∃i j,x=.str i/\y=.str j/\Q (.bl (!(!(qH j i 0 j.9 1).isEmpty))) H):=by intro z s e H x y v u Q I k w h;let#[i,j,rfl,rfl,q]:=h;let#[t,rfl]:=k;let#[f,rfl]:=w;exact notIn_str (sA I q rfl)
theorem AE.or{f:kn->kn->Sem kn}{i:R2}(h:AE X f r)(h':AE X f i):AE X f (λx y H Q=>r x y H Q∨i x y H Q):=by intro z s w H x y v u Q I e k q;rcases q with q|q;exact h z s w H x y v u Q I e k q;exact h' z s w H x y v u Q I e k q
theorem gc(i:AE X (vx d) r)(l:PE X a ta)(hb:PE X b g)(j:lr d b=kd):PE X (.Compare a [d] [b] pos) (yq r ta g):=by intro z s w H Q I h;exact wpAny_Compare1 (binT l hb I h λv u k x y n m f e q=>i z k w n x y v u Q m f e q) j
def Ip(t:TE):TT:=λh H Q=>t h H λx y=>∃k,x=.bl k/\Q k y
theorem Rb(Y:AE X (vx d) r)(W:PE X a ta)(hb:PE X b g)(Z:lr d b=kd):PT X (.Compare a [d] [b] pos) (Ip (yq r ta g)):=by
 intro w s f H Q I h;refine wpAny_isTrue_Compare1 (FB (W w s f H _ I h) λv j #[x,F,B,n,q]=>FB (hb w j f F _ B q) λu i #[y,E,A,m,p] =>
  FB (Y w i f E x y v u _ A n m p) λc G #[z,C,K,l,k,e,o]=>?_) Z
 subst e;cases l;exact wO #[C,K,o]
def Zo(K:QC)(x:V)(H:Hp)(k:Bool):Prop :=
 match x with
 | .non=>k=kd|.bl b=>k=b|.int i=>k=(i != 0)|.str y=>y.9<=kb/\k=((y.9:Int) != 0)|.byt y=>y.size<=kb/\k=((y.size:Int) != 0)|.ref p=>(∃h,uC K H p h/\k=!h.isEmpty)∨(∃h,rD K H p h/\k=!h.isEmpty)∨∃z,H p=jr (.dK z)/\k=!z.isEmpty|_=>False
theorem yX{h:Type}{kvs:List (h×V)}{vs:List (h×kn)}(r:KV kvs vs):(!vs.isEmpty)=!kvs.isEmpty:=by cases r<;>rfl
theorem tN{xs:LV}{its:LW}(r:nA xs its):(!its.toArray.isEmpty)=!xs.isEmpty:=by cases r<;>simp
theorem kI:(kb:Nat)<2 ^ 63:=by rw[qB];decide
theorem U5:Xy X (λx H Q=>∃k,Zo X.K x H k/\Q k H):=by
 intro A s F H x v Q I l h;let#[k,e,q]:=h;have hl:=kI;have G:kb=16777216:=qB;cases x with
 |non=>cases l;have z:k=false:=e;subst z;exact truthy_none #[H,I,q]|bl b=>cases l;have z:k=b:=e;subst z;exact wO #[H,I,q]|int i=>let#[t,rfl]:=l;have z:k=(i != 0):=e;subst z;exact PySem.P.truthy_int #[H,I,q]|str y=>let#[t,rfl]:=l;obtain⟨C,z⟩:y.9<=kb/\k=((y.9:Int) != 0):=e;subst z;exact PySem.P.truthy_str () #[H,I.tok _,q]|byt y=>let#[t,rfl]:=l;obtain⟨C,z⟩:y.size<=kb/\k=((y.size:Int) != 0):=e;subst z;exact PySem.W.truthy_bytes () #[H,I.tok _,q]|ref p =>
  cases l;have z:(∃j,uC X.K H p j/\k=!j.isEmpty)∨(∃j,rD X.K H p j/\k=!j.isEmpty)∨∃u,H p=jr (.dK u)/\k=!u.isEmpty:=e;rcases z with⟨j,n,z⟩| ⟨j,n,z⟩| ⟨u,n,z⟩
  subst z;let#[Z,r,Y,B]:=I.list n;have f:=r.9;exact wpAny_truthy_list Y.isList (by simp only[QM];omega) #[H,I.tok _,by rw[tN r];exact q];subst z;let#[Z,r,Y,B]:=I.tuple n;have f:=r.9;exact truthy_tuple Y (by simp only[QM];omega) #[H,I.tok _,by rw[tN r];exact q];subst z;obtain⟨B,E,o,r,m⟩:u.9<=kb/\(p==zl)=kd/\∃o,KV u o/\s.1.DictOf (zE X.prog X.w) p o:=I.hok p _ n;have f:u.9=o.length:=qP r;exact wpAny_truthy_dict E m () #[H,I.tok _,by rw[yX r];exact q]
 |_=>exact(show False from e).elim
theorem pW:AE X (g7 .Add) (λx y H Q=>∃i j,x=.str i/\y=.str j/\i.9+j.9<=kb/\Q (.str (i++j)) H):=by intro z s l H x y v u Q I e k h;let#[i,j,rfl,rfl,f,q]:=h;let#[t,rfl]:=e;let#[w,rfl]:=k;exact add_str (λw m=>#[.str (i++j),H,I.tok _,#[_,rfl],q]) f
theorem IF{x:V}(r:nA [x] us):∃u,us=[u]/\aA x u:=by
 cases r with|cons y h=>cases h;exact#[_,rfl,y]
theorem i5{x y:V}(r:nA [x,y] us):∃u h,us=[u,h]/\aA x u/\aA y h:=by
 cases r with
 |cons k w =>
  cases w with|cons v z=>cases z;exact#[_,_,rfl,k,v]
theorem v4(hc:X.calm=kf):JC X (.builtin "min") (λxs H Q=>∃i j,xs=[.int i,.int j]/\Q (.int (if j<i then j else i)) H):=by
 intro y s z H xs us Q I r h;let#[i,j,rfl,q]:=h;let#[u,v,rfl,#[t,rfl],#[e,rfl]]:=i5 r;refine min_two_ints (I.ok.hd hc) λf w k=>#[_,H,I.kept k,?_,q]
 by_cases x:j<i;rw[Qc x,Qc x];exact#[_,rfl];rw[QB x,QB x];exact#[_,rfl]
end
end
section
variable{h:vu}{u:ko}{v:Str->Option kn}
structure ObjM(h:vu)(x u C:ko)(v:Str->Option kn):Prop where
 obj:h.get? x=jr (QBW C u)
 ns:h.Ns1 u v
 ne:u≠x
theorem y3(n:h.Ns1 u v):∃w,h.get? u=jr w/\∀name,QBp name w=jr (v name):=by
 let#[o,k,l,f,i,hk,_,g]:=n;refine#[o,f,λname=>?_];have e:=g name;unfold nsFind findBy at e;rw[<- Array.find?_toList]at e;unfold QBp;rw[i];dsimp only;split;rename_i y q;rw[q]at e;exact wy jr e;rename_i q;rw[q]at e;have a:k.toList.any (·.refKey)=false:=by rw[QCS];intro y b;let#[z,t,x]:=hk y (Array.mem_toList_iff.mp b);simp[DictEntry.refKey,x]
 have j:¬ k.toList.any (·.refKey)=true:=by rw[a];exact QG
 rw[QB j];exact wy jr e
theorem ObjM.look{x C:ko}(I:ObjM h x u C v):∃y,PySem.W.InstAt h x (QBW C u) C (jr y)/\∀name,QBp name y=jr (v name) :=
 let#[y,z,hl]:=y3 I.ns
 #[y,#[I.obj,rfl,rfl,z],hl]
end
section
variable{P:k5}{w:xb}{H v:Hp}{h h':vu}{a C y:ko}{x u:List (Str×V)}
theorem je(b:EL P w H h)(e:H a=jr (.ins C y x)):∃k,ObjM h a y C k/\(∀f,mV (x.lookup f) (k f))/\PySem.Within k (x.map (·.1))/\x.9<=1000/\H y=jr (.own a):=by
 let#[d,z,g,ob,k,n,r,q]:=(show BA P w H h a (.ins C y x) from b a _ e)
 exact#[k,#[ob,n,g],r,q,z,d]
end
structure Cls(K:QC)(C:ko):Prop where
 pg:QCr K C Str.empty=kf
 hd:PySem.W.hasDictIn K C=kf
 po:PySem.W.plainOver K C=kf
 sa:PySem.W.findIn K (.ref C) "__setattr__"=jr (jr (.builtin "object.__setattr__"))
theorem Cls.get{K:QC}{C:ko}(c:Cls K C)(f:Str):QCr K C f=true:=c.pg
section
variable{X:Cx}{v:AB}{σ:St}{H:Hp}{s:kt}{A:x0}{E:mC}{Q:mC}{c:kn}{b:Bool}
inductive TyOf(K:QC)(H:Hp):V->kn->Prop where
 |non:TyOf K H .non (.type "NoneType")
 |bl (x:Bool):TyOf K H (.bl x) (.type "bool")
 |int (i:Int):TyOf K H (.int i) (.type "int")
 |str (x:Str):TyOf K H (.str x) (.type "str")
 |flt (x:UInt64):TyOf K H (.flt x) (.type "float")
 |lst {a:ko}{xs:LV}(e:H a=jr (.lst xs)):TyOf K H (.ref a) (.type "list")
 |frz {a:ko}{o:Obj}{xs:LV}(e:H a=jr (.frz o (.lst xs))):TyOf K H (.ref a) (.type "list")
 |tup {a:ko}{xs:LV}(e:H a=jr (.tup xs)):TyOf K H (.ref a) (.type "tuple")
 |dK {a:ko}{kvs:List (Key×V)}(e:H a=jr (.dK kvs)):TyOf K H (.ref a) (.type "dict")
 |dT {a:ko}{ep:Nat}{kvs:List (NK×ko×V)}(e:H a=jr (.dT ep kvs)):TyOf K H (.ref a) (.type "dict")
 |ins {a C dx:ko}{fs:List (Str×V)}(e:H a=jr (.ins C dx fs)) (cl:Cls K C) (ha:PySem.W.findIn K (.ref C) "__class__"=jr (jr (.builtin "object.__class__")))
   (hn:PySem.W.specialIn K (.builtin "object.__class__") "__get__"=jr (jr (.builtin "getset_descriptor.__get__"))) (htk:PySem.W.takesIn K (.builtin "object.__class__")=jr kf)
   (hm:PySem.W.mroIn K C (.type "object")=jr kf):TyOf K H (.ref a) (.ref C)
theorem V3{x:V}{u t:kn}(I:Inv X v σ H s)(k:aA x u)(ty:TyOf X.K H x t)(e:QBq X.K t c=jr b)(h:∀B,Q (.bool b) { s with toks:=B }) :
  ku (k0 X.prog X.w) A (b8 (.builtin "isinstance") [u,c]) Q E s:=by
 cases ty with
 |non=>cases(show u=j2 from k);exact qQ PySem.W.kitx_none I.kIn True.intro e (λz=>nomatch z) h
 |bl y=>cases(show u=Value.bool y from k);exact qQ PySem.W.kitx_bool I.kIn True.intro e (λz=>nomatch z) h
 |int i=>let#[t,q]:=(show ∃t,u=Value.int i t from k);cases q;exact qQ PySem.W.kitx_int I.kIn True.intro e (λz=>nomatch z) h
 |str y=>let#[t,q]:=(show ∃t,u=Value.str y t from k);cases q;exact qQ PySem.W.kitx_str I.kIn True.intro e (λz=>nomatch z) h
 |flt y=>let#[t,q]:=(show ∃t,u=Value.float y t from k);cases q;exact qQ PySem.W.kitx_float I.kIn True.intro e (λz=>nomatch z) h
 |@lst a l f =>
  cases(show u=kx a from k);let#[_,_,n,_,g]:=(show BA X.prog X.w H s.1 a (.lst l) from I.hok a _ f)
  exact qQ QA0 I.kIn #[_,g,rfl] e (λz=>nomatch z) h
 |@frz a ob l f =>
  cases(show u=kx a from k);let#[_,_,_,n,_,g]:=(show BA X.prog X.w H s.1 a (.frz ob (.lst l)) from I.hok a _ f)
  exact qQ QA0 I.kIn #[_,g,rfl] e (λz=>nomatch z) h
 |@tup a l f =>
  cases(show u=kx a from k);let#[_,_,_,p]:=(show BA X.prog X.w H s.1 a (.tup l) from I.hok a _ f)
  let#[o,g,m,_]:=p;exact qQ QCH I.kIn #[o,g,m] e (λz=>nomatch z) h
 |@dK a j f =>
  cases(show u=kx a from k);let#[_,_,N,_,p]:=(show BA X.prog X.w H s.1 a (.dK j) from I.hok a _ f)
  let#[o,M,Y,g,m,_]:=p;exact qQ QCT I.kIn #[o,g,m.1] e (λz=>nomatch z) h
 |@dT a Y j f =>
  cases(show u=kx a from k);let#[_,_,l,_,o,M,g,m,_]:=(show BA X.prog X.w H s.1 a (.dT Y j) from I.hok a _ f)
  exact qQ QCT I.kIn #[o,g,m.1] e (λz=>nomatch z) h
 |@ins a C S fs f Z L F r G=>cases(show u=kx a from k);let#[R,O,_]:=je I.hok f;let#[P,J,_]:=O.look;exact qQ (PySem.W.kitx_own (Z.get _) Z.hd L F r G) I.kIn J e (λz=>nomatch z) h
end
section
variable{k:Nat}{A:x0}
structure Room(k:Nat)(A:x0):Prop where
 hd:A.handled=kv
 dp:A.depth+3 * k+5<d3
 un:A.units+16 * k+200<gl
theorem Room.mono{j:Nat}(r:Room k A)(h:j<=k):Room j A:=#[r.hd,by have:=r.dp;omega,by have:=r.un;omega]
theorem Room.deeper(r:Room (k+1) A)(env:Env):Room k (A.deeper env) :=
 #[r.hd,by have:=r.dp;show A.depth+1+3 * k+5<_;omega,by have:=r.un;show A.units+3+16 * k+200<_;omega]
theorem Room.depth(r:Room k A):A.depth<recursionLimit:=by have:=r.dp;omega
def zq:TA:=λ_ H Q=>Q [] H
noncomputable def xq(ta:TE)(z:TA):TA:=λh H Q=>ta h H λx v=>z h v λy u=>Q (x::y) u
end
section
variable{X:Cx}{e:Expr}{es:List Expr}{te:TE}{t:TA}{pos:Pos}
theorem SQ:PA X [] zq:=λ_ _ _ _ H Q I h=>wP #[[],H,I,.nil,h]
theorem vJ(j:PE X e te)(i:PA X es t)(g:xk (e::es) X.env=(kd,gp e X.env)::xk es X.env:=by rfl):PA X (e::es) (xq te t):=by intro pos y s z H Q I h;rw[g];show ku _ _ (bb ((kd,gp e X.env)::fk pos (xk es X.env))) _ _ s;refine qp (FB (j y s z H _ I h) λu w #[x,o,m,a,f]=>?_);exact FB (i pos y w z o _ m f) λp q #[v,n,l,k,b]=>#[x::v,n,l,.cons a k,b]
def xw(t:TA):TE:=λy H Q=>t y H λh x=>h.9<=kb/\∀p,x p=kv->Q (.ref p) (DA x p (.tup h))
def gw(t:TA):TE:=λy H Q=>t y H λh x=>h.9<=kb/\∀p,x p=kv->Q (.ref p) (DA x p (.lst h))
theorem Ej{x1}(h:PA X es t):PE X (.Tuple es x1 pos) (xw t):=by intro x s k H Q I g;refine QBy (FB (h pos x s k H _ I g) λf y #[a,w,v,r,z,q]=>#[by rw[<- r.9];exact z,?_]);have i:w y.1.1.size=none:=v.hok.fresh (QV _);refine#[.ref y.1.1.size,DA w y.1.1.size (.tup a),v.laid (t':=y.toks) (λb u e=>QH _ e) (QV _) ?_,rfl,q _ i];exact#[z,f,r,#[_,QO _ rfl,rfl,_,rfl]]
theorem zk(h:PA X es t):PE X (.List es pos) (gw t):=by intro x s k H Q I g;refine wpAny_List_spliced (FB (h pos x s k H _ I g) λf y #[a,w,v,r,z,q]=>#[by rw[<- r.9];exact z,?_]);have i:w y.1.1.size=none:=v.hok.fresh (QV _);refine#[.ref y.1.1.size,DA w y.1.1.size (.lst a),v.laid (t':=y.toks) (λb u e=>QH _ e) (QV _) ?_,rfl,q _ i];exact#[z,f,0,r,QO _ rfl]
end
noncomputable abbrev Sp:=LV->Hp->VK->XK->Prop
noncomputable abbrev Xa:=List Env->Hp->kt->XK->kn->kt->Prop
structure Env0(P:k5)(w:xb)(K:QC)(mg:Str->Option kn)(base:vu)(A:x0)(outer:List Env)(s:kt)(H:Hp):Prop where
 frames:A.frames=jr outer
 mod:Mod K mg base
 bs:∀b o,base.get? b=jr o->s.1.get? b=jr o/\H b=kv
 bsz:base.1.size<=s.1.1.size
 funs:s.1.FunFrames base outer
 frf:∀b∈oZ outer,H b=kv
 tb:∀P q,vQ mg base P q->H P=jr (.tbl q)
 hok:EL P w H s.1
 bare:ai s.gens
def CE(outer:List Env)(P:k5)(w:xb)(H:Hp)(s:kt)(Q:VK)(u:kn)(s':kt):Prop :=
 ∃v h,s'.os=s.os/\ai s'.gens/\Un (oZ outer) [] H h s.1 s'.1/\EL P w h s'.1/\aA v u/\Q v h
def CR(h:Xa)(outer:List Env)(P:k5)(w:xb)(H:Hp)(s:kt)(Q:VK)(E:XK)(r:Result)(s':kt):Prop :=
 match r with
 | .ok (.ret u)=>CE outer P w H s Q u s'|.ok _=>False|.error e=>h outer H s E e s'
structure FnOk(P:k5)(w:xb)(K:QC)(mg:Str->Option kn)(base:vu)(CX:Xa)(k:Nat)(f:ko)(fd:zo)(ps:LS)(sp:Sp):Prop where
 len:∀vs H Q E,sp vs H Q E->vs.9=ps.9
 run:∀(A:x0) (outer:List Env) (s:kt) (H:Hp) (args:Args) (us:LW) (vs:LV) (Q:VK) (E:XK),Room k A->Env0 P w K mg base A outer s H->l5 s fd args (ps.zip us)->nA vs us->sp vs H Q E ->
  mi (k0 P w) A (.call (.ref f) args) (CR CX outer P w H s Q E) s
theorem FnOk.mono{P:k5}{w:xb}{K:QC}{mg:Str->Option kn}{x:vu}{a:Xa}{j k:Nat}{f:ko}{v:zo}{u:LS}{z:Sp}(F:FnOk P w K mg x a j f v u z)(h:j<=k) :
  FnOk P w K mg x a k f v u z:=#[F.len,λA y s H args e b Q E g=>F.run A y s H args e b Q E (g.mono h)]
section
variable{X:Cx}{x:AB}{σ:St}{H:Hp}{s s':kt}
theorem Inv.env0(I:Inv X x σ H s):Env0 X.prog X.w X.K X.mg X.base X.A X.stack s H :=
 #[I.ok.frames,I.ok.mod,I.bs,QU I.ok.bsz I.sz,I.stack,I.stkFree,I.tb,I.hok,I.bare]
theorem Inv.after{Q:VK}{u:kn}(I:Inv X x σ H s)(h:CE X.stack X.prog X.w H s Q u s'):EP X x σ Q u s':=by let#[v,f,a,bare,un,k,r,q]:=h;let#[e,g,d,t,y]:=s';obtain rfl:y=s.os:=a;exact#[v,f,I.call (h':=e) (g':=g) (d':=d) (t':=t) (ch:=[]) un k bare (λb z=>Qe z (by simp)),r,q]
end
noncomputable def Kf(z:Sp)(h:LV)(E:XK)(t:TA):TE:=λx H Q=>t x H λy u=>z (y++h) u Q E
def HJ(K:QC)(y:zo)(x:LS)(ds:LW):Prop :=
 ∀(s:kt) (h:LW),K.In s.1->(h++ds).9=x.9->l5 s y #[h,[]] (x.zip (h++ds))
theorem HJ.all{K:QC}{y:zo}{x:LS}(h:∀us:LW,us.9=x.9->ew y #[us,[]]=ak (x.zip us)):HJ K y x []:=λs us _ hl=>by rw[qL]at hl ⊢;exact .of_eq (h us hl)
def vO(z:Xa)(X:Cx)(E:XK):Prop:=∀(h:AB) (y:St) (H:Hp) (s:kt) (e:kn) (x:kt),Inv X h y H s->z X.stack H s E e x->X.xe e x
section
variable{X:Cx}{b:Xa}{k:Nat}{f C:ko}{a:zo}{z:LS}{v:Sp}{y:LV}{ds:LW}{E:XK}{x m:Str}{p pos apos:Pos}{e o:Expr}{es:List Expr}{ta:TE}{t:TA}
theorem v6{g:AB}{σ:St}{H:Hp}{s:kt}{Q:VK}{us:LW}{vs:LV}(F:FnOk X.prog X.w X.K X.mg X.base b k f a z v)(q:Room k X.A)(hb:HJ X.K a z ds)(Y:nA y ds)(n:vO b X E)
  (I:Inv X g σ H s) (r:nA vs us) (h:v (vs++y) H Q E):ku (k0 X.prog X.w) X.A (b8 (.ref f) us) (EP X g σ Q) X.xe s:=by
 have j:nA (vs++y) (us++ds):=r.append Y;have hl:(us++ds).9=z.length:=by rw[<- j.9];exact F.len _ _ _ _ h
 refine wpAny_call (QCi (F.run X.A X.stack s H #[us,[]] (us++ds) (vs++y) Q E q I.env0 (hb s us I.kIn hl) j h) λr l i=>?_);cases r with
 |error e=>exact n g σ H s e l I i|ok fl =>
  cases fl with|ret u=>exact I.after i|next=>exact Qg i|brk=>exact Qg i|cont=>exact Qg i
theorem rc(F:FnOk X.prog X.w X.K X.mg X.base b k f a z v)(Y:Room k X.A)(B:Gl X x)(Z:X.mg x=jr (.ref f))(hk:wf X.K (.ref f)=kf)(hb:HJ X.K a z ds)(J:nA y ds)(n:vO b X E)
  (L:PA X (e::es) t) (i:(x==("__debug__":Str))=false:=by decide) (G:xk (e::es) X.env=(kd,gp e X.env)::xk es X.env:=by rfl) (g:(fk pos (xk es X.env)).any (·.1)=false:=by rfl) :
  PE X (.Call (.Name x p) (e::es) [] pos) (Kf v y E t):=by
 intro u s l H Q I h;refine qb (YR I B Z ?_ i);refine PySem.W.callWith_K (h₀:=X.base) I.ok.mod.kin hk (FB (L pos u s l H _ I h) λN O #[M,P,j,r,q]=>#[j.kIn,?_]) G g;exact v6 F Y hb J n j r q
theorem P6(F:FnOk X.prog X.w X.K X.mg X.base b k f a z v)(j:Room k X.A)(n:Gl X x)(l:X.mg x=jr (.ref f))(hk:wf X.K (.ref f)=kf)(hb:HJ X.K a z ds)(q:nA y ds)(i:vO b X E)
  (u:(x==("__debug__":Str))=false:=by decide):PE X (.Call (.Name x p) [] [] pos) (Kf v y E zq):=by
 intro g s r H Q I h;refine qb (YR I n l ?_ u);exact PySem.W.callWith_K0 I.kIn hk (v6 (us:=[]) F j hb q i I .nil h)
end
section
variable{X:Cx}{c:Xa}{k:Nat}{f C:ko}{b:zo}{v ks:LS}{u:Sp}{E:XK}{x m:Str}{p pos apos h:Pos}{e o:Expr}{es:List Expr}{y:List ll}{te ta:TE}{t z:TA}{w:Option Str}
variable{g:LW->LW->LW}{a:LV->LV->LV}
end
section
variable{l:Xa}{P:k5}{w:xb}{mg:Str->Option kn}{base:vu}{j:LS}{g:Str}{d:hZ}{f:ko}
structure FnScope(N P:LS)(sc:hZ):Prop where
 kind:sc.kind=.function
 co:sc.isCoroutine=kd
 gen:sc.isGenerator=kd
 nd:N.Nodup
 pre:N.take P.9=P
 par:∀x∈P,sc.names.lookup x=jr .local∨sc.names.lookup x=jr .cell
 nofree:∀y∈sc.names,y.2≠.free
theorem PP{y:Str->Option fb}{x:Str}:∀{binds:List (Str×kn)}{m:Str->Option kn},(∀v,(x,v)∉binds)->nc y binds m x=m x
 |[],_,_=>rfl|(n,v)::r,m,h=>by
  unfold nc;rw[PP λw z=>h w (QE _ z)];split;have:x≠n:=by rintro rfl;exact h v QD
  simp[this];rfl
theorem jQ{y:Str->Option fb}{x:Str}:∀{binds:List (Str×kn)}{m:Str->Option kn},(∀v,(x,v)∉binds)->nL y binds m x=m x
 |[],_,_=>rfl|(n,v)::r,m,h=>by
  unfold nL;rw[jQ λw z=>h w (QE _ z)];split;rfl;have:x≠n:=by rintro rfl;exact h v QD
  simp[this]
theorem IP{y:Str->Option fb}{x:Str}{v:kn}:∀{P:LS}{vs:LW}{i:Nat}{m:Str->Option kn},P.Nodup->P[i]?=jr x->vs[i]?=jr v->y x=jr .local ->
  nc y (P.zip vs) m x=jr v
 |[],_,_,_,_,h,_,_=>by simp at h|_::_,[],_,_,_,_,h,_=>by simp at h|p::P,w::vs,0,m,nd,h1,h2,hk=>by simp at h1 h2;subst h1;subst h2;show nc y ((p,w)::P.zip vs) m p=_;unfold nc;rw[PP λv hv=>(Ql.mp nd).1 (Wh hv).1,Qc hk];simp|p::P,w::vs,i+1,m,nd,h1,h2,hk=>by show nc y ((p,w)::P.zip vs) m x=_;unfold nc;exact IP (i:=i) (Ql.mp nd).2 (by simpa using h1) (by simpa using h2) hk
theorem yQ{y:Str->Option fb}{x:Str}{v:kn}:∀{P:LS}{vs:LW}{i:Nat}{m:Str->Option kn},P.Nodup->P[i]?=jr x->vs[i]?=jr v->y x≠jr .local ->
  nL y (P.zip vs) m x=jr v
 |[],_,_,_,_,h,_,_=>by simp at h|_::_,[],_,_,_,_,h,_=>by simp at h|p::P,w::vs,0,m,nd,h1,h2,hk=>by simp at h1 h2;subst h1;subst h2;show nL y ((p,w)::P.zip vs) m p=_;unfold nL;rw[jQ λv hv=>(Ql.mp nd).1 (Wh hv).1,QB hk];simp|p::P,w::vs,i+1,m,nd,h1,h2,hk=>by show nL y ((p,w)::P.zip vs) m x=_;unfold nL;exact yQ (i:=i) (Ql.mp nd).2 (by simpa using h1) (by simpa using h2) hk
noncomputable def sD(N:LS)(vs:LV):St:=vs.map jr++QAr (N.9 - vs.9) kv
noncomputable def oX(l:Xa)(P:k5)(w:xb)(K:QC)(mg:Str->Option kn)(base:vu)(N:LS)(g:Str)(d:hZ)(f:ko)(x:kn)(A:x0)(outer:List Env)(s:kt)(H:Hp)(E:XK):Cx where
 prog:=P
 w:=w
 K:=K
 mg:=mg
 base:=base
 A:=A.deeper (a8 g d s.1.1.size f x)
 N:=N
 s₀:=s
 H₀:=H
 env:=a8 g d s.1.1.size f x
 outer:=outer
 stack:=a8 g d s.1.1.size f x::outer
 ex:=[]
 calm:=kf
 fn:=λ_=>kf
 pn:=[]
 xe:=λe y=>ku (k0 P w) (A.deeper (a8 g d s.1.1.size f x)) (leaving (a8 g d s.1.1.size f x) e) (λ_ h=>l outer H s E e h) (λz h=>l outer H s E z h) y
theorem LU{sc:hZ}{n:Nat}{x:Str}(h:sc.names.lookup x=jr .cell):∃c,(ro n sc.names []).lookup x=jr c:=by have q:=QBM sc.names n [] (.inl h);exact Option.isSome_iff_exists.mp q
theorem B3{K:QC}{N:LS}{F:kn}{A:x0}{outer:List Env}{s G:kt}{H:Hp}{E:XK}{us:LW}{vs:LV}
  (S:FnScope N j d) (M:A.handled=kv) (o:Env0 P w K mg base A outer s H) (hl:vs.9=j.9) (r:nA vs us)
  (x:InCallC s s.1.1.size (nc (a8 g d s.1.1.size f F).kindOf (j.zip us) λ_=>kv) (ro (s.1.1.size+1) d.names []) (nL (a8 g d s.1.1.size f F).kindOf (j.zip us) λ_=>kv) G) :
  Inv (oX l P w K mg base N g d f F A outer s H E) [] (sD N vs) H G:=by
 have L:j.9<=N.length:=by have:=wy qT S.pre;rw[Q8]at this;omega
 let#[C,Q,rfl,hk]:=x.done;have X:∀b:ko,b∉(oX l P w K mg base N g d f F A outer s H E).ex:=λb z=>Qe (show b∈([]:List ko) from z) (by simp);refine#[#[o.mod,S.kind,rfl,rfl,QV _,λy z c C m=>?_,λy Y=>?_,λy c _ h=>?_,λ_=>M,Around.frames_deeper o.frames,.inr #[rfl,rfl],λb z=>Qe z (X b),o.bs,o.bsz,λb _ _=>X b,λb z=>Qe z (X b),o.funs,o.frf,o.tb],
  rfl,o.bare,Un.kept hk,#[_,x.toInCall.ns,λi y v C m R=>?_],λy c h=>#[_,x.cell y c h],o.hok.fresh (QV _),λy c h=>?_,λp W=>Qe (show p∈([]:AB) from W) (by simp),o.hok.kept hk,?_]
 exact name_of_addr x.apart (qU C) (qU m);have Y:d.names.lookup y=jr .cell∨d.names.lookup y=jr .free:=Y;rcases Y with Y|Y;exact LU Y;exact Qe rfl (S.nofree _ (qU Y));exact W8 (x.above y c (qU h));have B:i<vs.length:=by unfold sD at m;by_cases B:i<vs.9;exact B;rw[Qu (by simpa using B)]at m;rw[WA]at m;split at m<;>cases m
 have O:vs[i]?=jr v:=by
  unfold sD at m;rw[qS (by simpa using B),Qd]at m;cases e:vs[i]? with|none=>rw[e]at m;cases m|some a=>rw[e]at m;cases m;rfl
 let#[u,I,J]:=r.get O;have W:j[i]?=jr y:=by rw[<- S.pre,List.getElem?_take_of_lt ()];exact C
 have Z:j.Nodup:=by rw[<- S.pre];exact S.nd.sublist (List.take_sublist _ _)
 refine#[u,J,?_];rcases S.par y (qZ W) with k|k;exact .inl #[k,IP Z W I k];let#[c,e]:=LU (n:=s.1.1.size+1) k;refine .inr #[.inl k,c,e,?_];have q:=x.cell y c e;rw[yQ Z W I (by show d.names.lookup y≠_;rw[k];decide)]at q;exact q;exact o.hok.fresh (W8 (x.above y c (qU h)));unfold sD;show _=N.9;rw[QI,QF,wI];omega
theorem Dg{K:QC}{k:Nat}{name:Str}{z:rn}{body:List gV}{dV kV B pm h ct oc:kn}{an od:Option ko}
  {L:Array (Option kn)}{N:LS}{C:Sp}(lk:K.lookup f=jr #[oc,od,.func (wH name g z body d dV kV B pm an h ct),L]) (R:W6 K h g=kf) (S:FnScope N j d)
  (len:∀vs H Q E,C vs H Q E->vs.9=j.9)
  (p:∀(A:x0) (outer:List Env) (s:kt) (H:Hp) (vs:LV) (Q:VK) (E:XK),Room k (A.deeper (a8 g d s.1.1.size f h))->C vs H Q E ->
   ∃t,IX (oX l P w K mg base N g d f h A outer s H E) body t/\t { nx:=λ_ i=>Q .non i,rt:=Q } (sD N vs) H) :
  FnOk P w K mg base l (k+1) f (wH name g z body d dV kV B pm an h ct) j C:=by
 refine#[len,λA outer s H args us vs Q E O Z hb r Y=>?_];have hl:=len _ _ _ _ Y;have KX:K.In s.heap:=Z.mod.kin.keeps λb o e=>(Z.bs b o e).1;have M:s.1.NoLimit:=Z.mod.nolimit.keeps λb o e=>(Z.bs b o e).1;have m:∀y∈j.zip us,d.names.lookup y.1=jr .local∨(d.names.lookup y.1=jr .cell/\((ro (s.1.1.size+1) d.names []).lookup y.1).isSome=kf):=λ#[n,v] hy=>by rcases S.par n (Wh hy).1 with q|q;exact .inl q;exact .inr #[q,QBM _ _ _ (.inl q)]
 refine codeAny_call_function O.depth (KX _ _ lk) rfl S.co S.gen rfl (PySem.W.codeRec_of KX R) (hb _ _ _ _ ?_);refine wpAny_newFunctionEnv_cells S.kind m λenv he s1 x=>?_;subst he;refine#[M.keeps x.toInCall.keep,codeAny_func ?_];let#[t,ht,hq]:=p A outer s H vs Q E (O.deeper _) Y;have I:Inv (oX l P w K mg base N g d f h A outer s H E) [] (sD N vs) H s1:=B3 S O.hd Z hl r x;refine wK (ht [] s1 (sD N vs) H _ I hq) (λfl F X=>?_) λe F X=>X;have fin:∀{a:St}{i:Hp}{v:V}{u:kn},Inv (oX l P w K mg base N g d f h A outer s H E) [] a i F->aA v u->Q v i->CE outer P w H s Q u F :=
  λ{a i v u} J G q=>#[v,i,J.os,J.bare,J.base,J.hok,G,q]
 cases fl with|ret u=>let#[v,a,i,J,G,q]:=X;exact fin J G q|next=>let#[a,i,J,q]:=X;exact fin (v:=V.non) (u:=j2) J rfl q|brk=>let#[_,_,_,q]:=X;exact Qg q|cont=>let#[_,_,_,q]:=X;exact Qg q
end
section
variable{X:Cx}{x:Str}{p pos:Pos}{e:Expr}{es:List Expr}{t:TA}{y T:String}{r:LV->Hp->VK->Prop}
noncomputable def vz(r:LV->Hp->VK->Prop)(t:TA):TE:=λh H Q=>t h H λz u=>r z u Q
theorem PM(hc:JC X (.builtin y) r)(l:Gl X x)(j:X.mg x=kv)(hv:y1 x=jr (.builtin y))(n:PA X (e::es) t)(i:x≠"__name__":=by decide)(v:(x==("__debug__":Str))=false:=by decide)
  (m:xk (e::es) X.env=(kd,gp e X.env)::xk es X.env:=by rfl) (u:(fk pos (xk es X.env)).any (·.1)=false:=by rfl):PE X (.Call (.Name x p) (e::es) [] pos) (vz r t):=by
 intro z s w H Q I h;refine qb (ZC I l j hv ?_ i v);exact PyProof.Rows.callWith_builtin1 (FB (n pos z s w H _ I h) λa b #[k,q,o,f,g]=>hc z b w q k a Q o f g) m u
theorem K1(hc:JC X (.type T) r)(l:Gl X x)(j:X.mg x=kv)(hv:y1 x=jr (.type T))(n:PA X (e::es) t)(i:x≠"__name__":=by decide)(v:(x==("__debug__":Str))=false:=by decide)
  (m:xk (e::es) X.env=(kd,gp e X.env)::xk es X.env:=by rfl) (u:(fk pos (xk es X.env)).any (·.1)=false:=by rfl):PE X (.Call (.Name x p) (e::es) [] pos) (vz r t):=by
 intro z s w H Q I h;refine qb (ZC I l j hv ?_ i v);exact Q3 (FB (n pos z s w H _ I h) λa b #[k,q,o,f,g]=>hc z b w q k a Q o f g) m u
end
end L2
namespace HT
open PySem PyProof.Rows
section
open PySem.SeqAt
open PySem.AutoSeq1 (wpAny_loadPart')
open PySem.MeetsSeq PySem.MeetsSeq2 PySem.MeetsSeq3
end
section
variable{prog:k5}{w:xb}{A:x0}{E:mC}{s:kt}
section
variable{t sl:ko}{Q:mC}{a u:kn}{y z:Option Int}
theorem cat_tup{b:ko}{vs ws:LW}(q:i3 s.1 t vs.toArray)(hb:i3 s.1 b ws.toArray)(hv:vs≠[])
  (X:ws=[]->Q (.ref t) s) (r:ws≠[]->Q (.ref s.1.1.size) { s with heap:=s.1.push { cls:=.type "tuple",data:=.seq (vs++ws).toArray } })
  (hsz:vs.9+ws.length<=kb):ku (k0 prog w) A (g7 .Add (.ref t) (.ref b)) Q E s:=by
 let#[#[cls,o,data,sl],i,hc,n,m]:=id q;let#[#[p,f,j,x],h,k,l,v]:=id hb;simp only at hc m k v;subst hc m k v;have e:vs.toArray++ws.toArray=(vs++ws).toArray:=by simp
 by_cases g:ws=[];exact QCj #[_,i,rfl] #[_,h,rfl] QCs p6 QBN QBA (QA1 _ _)
  (tuple_addW1 t b vs.toArray ws.toArray n l o f sl x (by simpa using hv) (by simp[g])) #[i,h,X g]
 refine QCj #[_,i,rfl] #[_,h,rfl] QCs p6 QBN QBA (QA1 _ _)
  (tuple_addW2 t b vs.toArray ws.toArray n l o f sl x (by simpa using hv) (by simpa using g) (by rw[QM,QM];exact hsz)) #[i,h,?_]
 rw[e];exact r g
noncomputable def sIx(n d:Nat):Option Int->Nat
 |none=>d|some v=>if v<0 then(v+(n:Int)).toNat else min v.toNat n
theorem sIx_none(n d:Nat):sIx n d kv=d:=rfl
theorem sIx_nat(n d k:Nat):sIx n d (jr (k:Int))=min k n:=by show(if(k:Int)<0 then((k:Int)+(n:Int)).toNat else min (k:Int).toNat n)=min k n;rw[QB (),qN]
theorem Vj(n d:Nat)(h:d<=n)(o:Option Int):sIx n d o<=n:=by
 cases o with|none=>exact h|some v=>show(if v<0 then(v+(n:Int)).toNat else min v.toNat n)<=n;by_cases hv:v<0;rw[Qc hv];omega;rw[QB hv];exact WE _ _
theorem XZ(v:Int)(n d:Nat):(if v<0 then max (v+(n:Int)) 0 else min v (n:Int))=((sIx n d (jr v):Nat):Int):=by show(if v<0 then max (v+(n:Int)) 0 else min v (n:Int))=(((if v<0 then(v+(n:Int)).toNat else min v.toNat n):Nat):Int);by_cases hv:v<0;simp only[Qc hv];omega;simp only[QB hv];omega
theorem EX(y z:Option Int)(n:Nat):WR y z 1 (n:Int)=(((sIx n 0 y:Nat):Int),((sIx n n z:Nat):Int)):=by
 have h:¬ ((1:Int)<0):=()
 unfold WR;simp only[h,if_false];refine QC2 ?_ ?_;cases y with|none=>rfl|some v=>exact XZ v n 0
 cases z with|none=>rfl|some v=>exact XZ v n n
theorem gW(i j:Nat):wg (i:Int) (j:Int) 1=j - i:=by
 unfold wg;have h:(1:Int) > 0:=()
 simp only[h,if_true,Int.ediv_one];split<;>omega
theorem rM{v:kn}{o:Option Int}{Q:Option Int->kt->Prop}(p:li v o)(h:Q o s):ku (k0 prog w) A (Builtin.Slice.slicePartIndex v) Q E s:=by
 cases p with|none=>exact oa h|int i t=>exact slicePart_int h
theorem EJ{n:Nat}{Q:Int×Int×Nat->kt->Prop}(f:s.1.IsSliceOf sl a u .none)(e:li a y)(b:li u z)
  (h:Q (((sIx n 0 y:Nat):Int),1,sIx n n z - sIx n 0 y) s):ku (k0 prog w) A (QAf (.ref sl) (ak (n:Int))) Q E s:=by
 let#[i,v,g,k]:=id f;unfold QAf Builtin.Slice.sliceFields;refine QA (QA (wj v k (x:=a) rfl (QA (wj v k (x:=u) rfl (QA (wj v k (x:=.none) rfl (QK ?_)))))));refine QA (oa ?_);show ku _ _ (if((1:Int)==0)=kf then _ else _) _ _ s;rw[QB (by decide)];refine QA (rM e (QA (rM b (QA (QK ?_)))));show ku _ _ (match WR y z 1 (n:Int) with | (y,z)=>ak (y,(1:Int),wg y z 1)) _ _ s;rw[EX y z n];show ku _ _ (ak (((sIx n 0 y:Nat):Int),(1:Int),wg ((sIx n 0 y:Nat):Int) ((sIx n n z:Nat):Int) 1)) _ _ s;rw[gW];exact QK h
theorem B6(xs:Array kn)(i k:Nat):((Qq k).filterMap λ(m:Nat)=>xs[((i:Int)+(m:Int) * 1).toNat]?).toArray=((xs.toList.drop i).take k).toArray:=by
 have e:(λ(m:Nat)=>xs[((i:Int)+(m:Int) * 1).toNat]?)=λm=>xs[i+m]?:=by
  funext m;have:((i:Int)+(m:Int) * 1).toNat=i+m:=()
  rw[this]
 rw[e];have:=pick_run xs i k;rw[List.filterMap_map]at this;have h:((λx=>xs[x]?)∘λx=>i+x)=λm=>xs[i+m]?:=rfl;rw[h]at this;rw[this]
theorem getItem_tuple_cut{x:Array kn}(k:i3 s.1 t x)(i:s.1.IsSliceOf sl a u .none)(l:li a y)(j:li u z)
  (o:¬ (sIx x.size 0 y=0/\sIx x.size x.size z=x.size))
  (h:Q (.ref s.1.1.size) { s with heap:=s.1.push { cls:=.type "tuple",data:=.seq ((x.toList.drop (sIx x.size 0 y)).take (sIx x.size x.size z - sIx x.size 0 y)).toArray } })
  (hsz:x.size<=kb):ku (k0 prog w) A (l8 (.ref t) (.ref sl)) Q E s:=by
 have v:sizeOk (.seq ((x.toList.drop (sIx x.size 0 y)).take (sIx x.size x.size z - sIx x.size 0 y)).toArray):=by show((x.toList.drop (sIx x.size 0 y)).take (sIx x.size x.size z - sIx x.size 0 y)).toArray.size<=kb;rw[QM,Q8,QAF,Q0];omega
 have Y:sIx x.size x.size z<=x.size:=Vj _ _ (QV _) z;let#[n,b,f,p]:=id i;have g:s.TypeIs (.ref sl) "slice":=#[n,b,f]
 unfold l8
 try with_reducible refine qg ?_
 first|refine QA (QK ?_)|skip
 refine QA (wpAny_sequenceKey k.typeIs (by decide) ?_);refine QA (qV (name:=QY "__getitem__") k.typeIs wu
  (qR wu k.typeIs entry_tuple_getitem ?_ (args_tuple_getitem _ _)))
 show ku _ _ (QAd (.ref t) >>= _) _ _ s;refine QA (tupleItemsOf_ k ?_);refine QA (W9 g ?_);rw[Qc (by decide)];refine QA (EJ i l j ?_);have e:¬ ((((sIx x.size 0 y:Nat):Int)==0&&(1:Int)==1&&(sIx x.size x.size z - sIx x.size 0 y)==x.size)=kf):=by intro q;rw[QZ,QZ]at q;have X:((sIx x.size 0 y:Nat):Int)=0:=qe q.1.1;have r:sIx x.size x.size z - sIx x.size 0 y=x.size:=qe q.2;exact o #[(),()]
 show ku _ _ (if(((sIx x.size 0 y:Nat):Int)==0&&(1:Int)==1&&(sIx x.size x.size z - sIx x.size 0 y)==x.size)=kf then _ else _) _ _ s;rw[QB e,B6];first
  |exact QA (m:=ql _) (Qy (QK #[_,rfl,QK h]) v)
  |exact QA (m:=ql _) (Qy (QA (QK (QK #[_,rfl,QK h]))) v)
  |exact QA (QA (m:=ql _) (Qy (QK (QK #[_,rfl,QK h])) v))
  |exact QA (QA (m:=ql _) (Qy (QK #[_,rfl,QK h]) v))
end
end
end HT
namespace L2
open PySem PySem.Spec PyProof.Rows
noncomputable abbrev TO:=St->Hp->(Option Int->Hp->Prop)->Prop
def PO(X:Cx)(e:Option Expr)(t:TO):Prop :=
 ∀(h:AB) (s:kt) (x:St) (H:Hp) (Q:Option Int->Hp->Prop),Inv X h x H s->t x H Q ->
  ku (k0 X.prog X.w) X.A (evalPart e X.env) (λu z=>∃o y,Inv X h x y z/\li u o/\Q o y) X.xe s
def db:TO:=λ_ H Q=>Q kv H
noncomputable def jq(t:TE):TO:=λh H Q=>t h H λx y=>∃i,x=.int i/\Q (jr i) y
theorem eN{ns:LJ}:∀{us:LW},nA (ns.map V.int) us->ii us ns:=by
 induction ns with
 |nil=>intro us r;rw[wa]at r;cases r;exact .nil|cons n ns y =>
  intro us r;rw[QX]at r;cases r with|cons x h=>let#[t,e]:=x;subst e;exact .cons n t (y h)
section
variable{X:Cx}{e:Expr}{te:TE}{k c:Option Expr}{d f:TO}{pos p2:Pos}
theorem Ib:PO X kv db:=by intro x s y H Q I h;rw[p7];exact QK #[kv,H,I,.none,h]
theorem Eb(h:PE X e te):PO X (jr e) (jq te):=by intro y s z H Q I a;rw[evalPart_some];refine FB (h y s z H _ I a) λu j #[x,g,b,v,w]=>?_;let#[i,rfl,q]:=w;let#[t,rfl]:=v;exact#[jr i,g,b,.int i t,q]
def Bh(X:Cx)(r:V->Option Int->Option Int->Hp->VK->Prop):Prop :=
 ∀(h:AB) (s:kt) (y:St) (H:Hp) (x:V) (v u z:kn) (k c:Option Int) (a:ko) (Q:VK),Inv X h y H s->aA x v->s.1.IsSliceOf a u z .none->li u k->li z c->r x k c H Q ->
  ∃T id,nP (.type T) "__getitem__"=ak (jr (.builtin id))/\s.TypeIs v T/\ku (k0 X.prog X.w) X.A (l8 v (.ref a)) (EP X h y Q) X.xe s
theorem Bh.or{r g:V->Option Int->Option Int->Hp->VK->Prop}(h:Bh X r)(h':Bh X g):Bh X (λx k c H Q=>r x k c H Q∨g x k c H Q):=by intro y s z H x v w u k c a Q I b l j i q;rcases q with q|q;exact h y s z H x v w u k c a Q I b l j i q;exact h' y s z H x v w u k c a Q I b l j i q
noncomputable def jAV(r:V->Option Int->Option Int->Hp->VK->Prop)(te:TE)(d f:TO):TE:=λh H Q=>te h H λx v=>d h v λl z=>f h z λu y=>r x l u y Q
theorem G6{r:V->Option Int->Option Int->Hp->VK->Prop}(E:Bh X r)(G:PE X e te)(hl:PO X k d)(B:PO X c f):PE X (.Subscript e (.Slice k c kv p2) pos) (jAV r te d f):=by intro y s a H Q I h;refine QCU (FB (G y s a H _ I h) λv n #[x,R,O,o,Z]=>?_);refine wpAny_Slice (FB (hl y n a R _ O Z) λi m #[l,P,N,K,Y]=>FB (B y m a P _ N Y) λg z #[u,j,M,W,p]=>?_);rw[p7];refine QK ?_;have L:Inv X y a j { z with heap:=z.1.push { cls:=.type "slice",data:=.fields (qK [i,g,.none]) } }:=M.kept (t':=z.toks) λb ob q=>QH _ q;let#[T,id,J,C,F]:=E y { z with heap:=z.1.push { cls:=.type "slice",data:=.fields (qK [i,g,.none]) } } a j x v i g l u z.1.1.size Q L o (Heap.IsSliceOf.new ..) K W p;show ku (k0 X.prog X.w) X.A (ir e (.Slice k c kv p2) v (.ref z.1.1.size)) (EP X y a Q) X.xe { z with heap:=z.1.push { cls:=.type "slice",data:=.fields (qK [i,g,.none]) } };exact tail_any (ops:=[.ref z.1.1.size,v]) C J F (by with_unfolding_all rfl)
noncomputable def CU(xs:LV)(k c:Option Int):LV:=(xs.drop (HT.sIx xs.9 0 k)).take (HT.sIx xs.9 xs.9 c - HT.sIx xs.9 0 k)
theorem cL(xs:LV)(k c:Option Int):(CU xs k c).9<=xs.length:=by unfold CU;rw[Q8,QAF];omega
def Kq(K:QC):V->Option Int->Option Int->Hp->VK->Prop:=λx k c H Q=>∃a h,x=.ref a/\rD K H a h /\
 ¬ (HT.sIx h.9 0 k=0/\HT.sIx h.9 h.9 c=h.9)/\∀p,H p=kv->Q (.ref p) (DA H p (.tup (CU h k c)))
theorem sj:Bh X (Kq X.K):=by
 intro w s Z H x v A W k c B Q I j Y m l h;let#[a,z,rfl,n,p,q]:=h;cases j;let#[u,r,i,g]:=I.tuple n;have y:u.toArray.size=z.length:=by rw[QM];exact r.length.symm
 refine#["tuple",_,wu.lookup,i.typeIs,?_];refine HT.getItem_tuple_cut i Y m l (by rw[y];exact p) ?_ (by rw[y];exact g);rw[y];refine#[.ref s.1.1.size,_,I.laid (t':=s.toks) (o:=.tup (CU z k c)) (λb ob q=>QH _ q) (QV _) ?_,rfl,q _ (I.hok.fresh (QV _))];exact#[QU (cL z k c) g,_,(r.drop (HT.sIx z.9 0 k)).take (HT.sIx z.9 z.9 c - HT.sIx z.9 0 k),QC3 _ _]
def Hf(K:QC):R2:=λx y H Q=>∃a b z h,x=.ref a/\y=.ref b/\rD K H a z/\rD K H b h/\z≠[]/\z.9+h.9<=kb /\
 (h=[]->Q (.ref a) H)/\(h≠[]->∀p,H p=kv->Q (.ref p) (DA H p (.tup (z++h))))
theorem nA.nil_iff{xs:LV}{us:LW}(r:nA xs us):us=[]↔xs=[]:=by
 cases r with|nil=>simp|cons _ _=>simp
theorem Xc:AE X (g7 .Add) (Hf X.K):=by intro j s F H x y v u Q I Y r h;let#[a,b,p,n,rfl,rfl,E,hb,C,m,W,Z]:=h;cases Y;cases r;let#[B,i,A,_]:=I.tuple E;let#[l,g,p2,_]:=I.tuple hb;refine HT.cat_tup A p2 (λz=>C (i.nil_iff.mp z)) (λz=>#[.ref a,H,I,rfl,W (g.nil_iff.mp z)]) (λz=>?_) (by rw[<- i.9,<- g.9];exact m);refine#[.ref s.1.1.size,_,I.laid (t':=s.toks) (o:=.tup (p++n)) (λb ob q=>QH _ q) (QV _) ?_,rfl,Z (λw=>z (g.nil_iff.mpr w)) _ (I.hok.fresh (QV _))];exact#[by rw[QI];exact m,_,i.append g,QC3 _ _]
end
noncomputable def XS(n:Nat)(i:Int):Option Nat:=if 0<=i then(if i<n then jr i.toNat else kv) else if -(n:Int)<=i then jr (i+n).toNat else kv
def AC{α:Type}(xs:List α)(i:Int):Option α:=(XS xs.9 i).bind λj=>xs[j]?
theorem UR{n:Nat}{i:Int}{j:Nat}(h:XS n i=jr j):seqIndex? i n=jr j/\j<n/\-(n:Int)<=i/\i<n:=by unfold XS at h;by_cases y:0<=i;rw[Qc y]at h;by_cases x:i<n;rw[Qc x]at h;have e:i.toNat=j:=Qp h;exact#[by rw[QBB y x,e],(),(),x];rw[QB x]at h;cases h;rw[QB y]at h;by_cases x:-(n:Int)<=i;rw[Qc x]at h;have e:(i+n).toNat=j:=Qp h;exact#[by rw[QCk () x,e],(),x,()];rw[QB x]at h;cases h
theorem mS{α:Type}{xs:List α}{i:Int}{v:α}(h:AC xs i=jr v):∃j,seqIndex? i xs.9=jr j/\xs[j]?=jr v/\j<xs.9/\-(xs.9:Int)<=i/\i<xs.length:=by
 unfold AC at h;cases e:XS xs.9 i with|none=>rw[e]at h;cases h|some j=>rw[e]at h;let#[u,z,y,x]:=UR e;exact#[j,u,h,z,y,x]
theorem lD{α:Type}{xs:List α}{j:Nat}{v:α}(h:xs[j]?=jr v):AC xs (j:Int)=jr v:=by
 have x:j<xs.length:=(Qh.mp h).1;have e:XS xs.9 (j:Int)=jr j:=by unfold XS;rw[Qc (),Qc ()];simp
 unfold AC;rw[e];exact h
def MZ(b:Expr):Prop:=∀o i,subscripted b kd o i=operate [o,i] (l8 o i)
def aa(X:Cx)(r:R2):Prop :=
 ∀(k h:Expr) (z:AB) (s:kt) (a:St) (H:Hp) (x y:V) (v u:kn) (Q:VK),Inv X z a H s->aA x v->aA y u->r x y H Q ->
  subscripted h kd v u=operate [v,u] (l8 v u)->ku (k0 X.prog X.w) X.A (ir k h v u) (EP X z a Q) X.xe s
def C4(X:Cx)(id:String)(r:V->LV->Hp->VK->Prop):Prop :=
 ∀(h:AB) (s:kt) (y:St) (H:Hp) (x:V) (z:LV) (v:kn) (u:LW) (Q:VK),Inv X h y H s->aA x v->nA z u->r x z H Q ->
  ku (k0 X.prog X.w) X.A (b8 (.builtin id) (v::u)) (EP X h y Q) X.xe s
section
variable{X:Cx}{a b:Expr}{ta Y:TE}{pos:Pos}
section
variable{d:AB}{s:kt}{x:V}{u v:kn}
theorem aa.or{r g:R2}(h:aa X r)(h':aa X g):aa X (λx y H Q=>r x y H Q∨g x y H Q):=by intro z w d s k H x y v u Q I f e q i;rcases q with q|q;exact h z w d s k H x y v u Q I f e q i;exact h' z w d s k H x y v u Q I f e q i
theorem C4.or{g:String}{r e:V->LV->Hp->VK->Prop}(h:C4 X g r)(h':C4 X g e):C4 X g (λx xs H Q=>r x xs H Q∨e x xs H Q):=by intro d s y H x xs v z Q I w k q;rcases q with q|q;exact h d s y H x xs v z Q I w k q;exact h' d s y H x xs v z Q I w k q
theorem Iq{r:R2}(g:aa X r)(i:PE X a ta)(hb:PE X b Y)(f:MZ b):PE X (.Subscript a b pos) (yq r ta Y):=by intro d s z H Q I h;exact QCU (binT i hb I h λv u w x y l j e k q=>g a b d w z l x y v u Q j e k q (f _ _))
def Hq(K:QC):R2:=λx y H Q=>∃p h i v,x=.ref p/\y=.int i/\uC K H p h/\AC h i=jr v/\Q v H
def Fq(K:QC):R2:=λx y H Q=>∃p h i v,x=.ref p/\y=.int i/\rD K H p h/\AC h i=jr v/\Q v H
def Gq:R2:=λx y H Q=>∃z i c,x=.str z/\y=.int i/\z.9<=kb/\AC z.cps.toList i=jr c/\Q (.str #[(qK [c])]) H
theorem Pd:aa X (Hq X.K):=by
 intro e f d s o H x y v u Q I E C h Z;let#[p,N,i,z,rfl,rfl,F,G,q]:=h;cases E;let#[t,rfl]:=C;let#[m,r,l,O]:=I.list F;let#[j,k,M,R,L,J]:=mS G;let#[w,A,g]:=r.get M;have hl:=r.9;have P:=kI;have fin:EP X d o Q w s:=#[z,H,I,g,q]
 by_cases W:0<=i;have n:i.toNat=j:=by rw[QBB W J]at k;exact Qp k
 exact item_listR l.isList W () (by rw[n];simpa using A) fin Z;have n:(i+(m.toArray.size:Int)).toNat=j:=by rw[QCk () L]at k;rw[QM,<- hl];exact Qp k
 exact q0 (x:=w) l.isList.typeIs QCV.lookup
  (wpAny_getItem_list_neg (Q:=λr B=>r=w/\EP X d o Q r B) l.isList () (by rw[QM]<;>omega) () (by rw[n];simpa using A) #[rfl,fin]) Z
theorem Ym:aa X (Fq X.K):=by
 intro k e d s g H x y v u Q I o n h W;let#[p,G,i,z,rfl,rfl,A,B,q]:=h;cases o;let#[t,rfl]:=n;let#[Z,r,l,J]:=I.tuple A;let#[j,E,C,O,N,M]:=mS B;let#[w,F,f]:=r.get C;have hl:=r.9;have L:=kI;have fin:EP X d g Q w s:=#[z,H,I,f,q]
 exact q0 (x:=w) l.typeIs QAh.lookup
  (QCI (j:=j) (Q:=λr m=>r=w/\EP X d g Q r m) l () () (by rw[QM,<- hl];exact E) (by simpa using F) #[rfl,fin]) W
theorem Zm:aa X Gq:=by
 intro w k d s W H x y v u Q I g f h l;let#[z,i,c,rfl,rfl,A,m,q]:=h;let#[t,rfl]:=g;let#[K,rfl]:=f;let#[j,e,p,C,o,n]:=mS m;have hl:z.cps.toList.9=z.length:=by simp[Str.length]
 rw[hl]at e o n;have B:=kI;exact tail_any (QDH s z t) slot_str_getitem.lookup (getItem_str (c:=c) (by have Z:decide (i < -(2 ^ 63:Int))=false:=dF ();have r:decide (i ≥ 2 ^ 63)=false:=dF ();rw[Z,r,QCA]) (by rw[e];simpa using p) #[.str #[(qK [c])],H,I.tok _,#[_,rfl],q]) l
def jAc(K:QC):R2:=λx y H Q=>Hq K x y H Q∨Fq K x y H Q∨Gq x y H Q
theorem Km:aa X (jAc X.K):=Pd.or (Ym.or Zm)
theorem MW(its:LW)(n j:Nat)(u:kn):Q5 (·.setIfInBounds j u) { cls:=.type "list",data:=.seq its.toArray n }={ cls:=.type "list",data:=.seq (its.set j u).toArray n }:=by simp[Q5]
theorem Inv.lst{d:AB}{σ:St}{H:Hp}{s:kt}{p:ko}{xs:LV}(I:Inv X d σ H s)(h:H p=jr (.lst xs)) :
  ∃(its:LW) (n:Nat),nA xs its/\s.1.get? p=jr { cls:=.type "list",data:=.seq its.toArray n }/\xs.9<=sizeLine:=by
 let#[z,its,n,r,e]:=I.hok p _ h;exact#[its,n,r,e,z]
theorem Inv.lstUpd{σ:St}{H:Hp}{p:ko}{xs y:LV}{its its':LW}{n z:Nat}{f:Obj->Obj}(I:Inv X d σ H s)(h:H p=jr (.lst xs))
  (g:s.1.get? p=jr { cls:=.type "list",data:=.seq its.toArray n }) (w:f { cls:=.type "list",data:=.seq its.toArray n }={ cls:=.type "list",data:=.seq its'.toArray z }) (r:nA y its') (k:y.9<=kb) (t:Nat) :
  Inv X d σ (DA H p (.lst y)) { s with heap:=s.1.update p f,toks:=t }:=by
 have e:(s.1.update p f).get? p=jr { cls:=.type "list",data:=.seq its'.toArray z }:=by rw[wb f g (by rw[w]<;>rfl),w]
 refine I.write (x:=p) (e:=p) (by rw[h];trivial) (.inl rfl) (λb u hb q=>(Wr _ _ (qC hb)).trans q) #[_,e] ?_;exact#[k,its',z,r,e]
def Xq:V->V->V->Hp->(Hp->Prop)->Prop:=λo i v H Q=>∃p h k j,o=.ref p/\i=.int k/\H p=jr (.lst h)/\XS h.9 k=jr j/\Q (DA H p (.lst (h.set j v)))
theorem E5:zf X Xq:=by
 intro d s Z H o i v G J u Q I B C A h;let#[p,K,k,j,rfl,rfl,e,F,q]:=h;cases B;let#[t,rfl]:=C;let#[y,n,r,w,E]:=I.lst e;let#[z,M,g,f]:=UR F;have hl:=r.9;have L:=kI;have m:Inv X d Z (DA H p (.lst (K.set j v))) { s with heap:=s.1.update p (Q5 (·.setIfInBounds j u)) } :=
  I.lstUpd e w (MW y n j u) (r.set A j) (by rw[wT];exact E) s.toks
 by_cases l:0<=k;have hk:k.toNat=j:=by rw[QBB l f]at z;exact Qp z
 exact PySem.W.ki_setAt w l () (by rw[QM,<- hl];exact f) (by rw[hk];exact#[_,m,q]);have hk:(k+(y.toArray.size:Int)).toNat=j:=by rw[QCk () g]at z;rw[QM,<- hl];exact Qp z
 exact PySem.W.ki_setBack w () (by rw[QM,<- hl];exact g) () (by rw[hk];exact#[_,m,q])
theorem DQ(y z:Option Int)(n:Nat):(fy y z kv n).1=((HT.sIx n 0 y:Nat):Int)/\(fy y z kv n).2.1=((HT.sIx n n z:Nat):Int)/\(fy y z kv n).2.2=1:=by
 refine#[?_,?_,rfl];cases y with|none=>simp[fy,HT.sIx]|some i=>simp only[fy,HT.sIx,QCt,show(1:Int) > 0 by decide,if_true];by_cases h:i<0;simp only[h,if_true]<;>omega;simp only[h,if_false]<;>omega
 cases z with|none=>simp[fy,HT.sIx]|some i=>simp only[fy,HT.sIx,QCt,show(1:Int) > 0 by decide,if_true];by_cases h:i<0;simp only[h,if_true]<;>omega;simp only[h,if_false]<;>omega
theorem iO(its:LW)(h y:Option Int):slicePick its.toArray h y kv=((its.drop (HT.sIx its.9 0 h)).take (HT.sIx its.9 its.9 y - HT.sIx its.9 0 h)).toArray:=by let#[k,w,z]:=DQ h y its.toArray.size;unfold slicePick;rw[k,w,z];simp only[sliceRange_one,pick_run,QM]<;>rfl
def Vq(K:QC):V->Option Int->Option Int->Hp->VK->Prop:=λx y z H Q=>∃a h,x=.ref a/\uC K H a h/\∀p,H p=kv->Q (.ref p) (DA H p (.lst (CU h y z)))
theorem Cb:Bh X (Vq X.K):=by intro d s p H x v W Z w k A Q I f n i g h;let#[a,y,rfl,m,q]:=h;cases f;let#[j,r,e,l]:=I.list m;have z:=r.9;refine#["list",_,QCV.lookup,e.isList.typeIs,?_];refine wpAny_getItem_list_slice e.isList n i g .none (by simp) ?_ (by rw[QM]<;>omega);rw[iO,<- z];refine#[.ref s.1.1.size,_,I.laid (t':=s.toks) (o:=.lst (CU y w k)) (λb ob q=>QH _ q) (QV _) ?_,rfl,q _ (I.hok.fresh (QV _))];exact#[QU (cL y w k) l,_,0,(r.drop (HT.sIx y.9 0 w)).take (HT.sIx y.9 y.9 k - HT.sIx y.9 0 w),QO _ rfl]
noncomputable def rG:V->Bool
 | .non=>kf|.bl _=>kf|.int _=>kf|.str _=>kf|_=>kd
noncomputable def Ze:V->V->Bool
 | .non,.non=>kf|.bl a,.bl b=>a==b|.bl a,.int b=>(if a then 1 else 0)==b|.int a,.bl b=>a==(if b then 1 else 0)|.int a,.int b=>a==b|.str a,.str b=>a==b|_,_=>kd
theorem Em{A:x0}{y:V}(w:aA y u)(h:aA x v)(k:rG y=kf)(fx:rG x=kf):wB A s u v (Ze y x):=by
 cases y with
 |non =>
  cases w;cases x with|non=>cases h;exact wB.same _|bl b=>cases h;exact wB.none_bool b|int b=>let#[t,rfl]:=h;exact wB.none_int b t|str b=>let#[t,rfl]:=h;exact wB.none_str b t|_=>exact Qe (show kd=kf from fx) QG
 |bl a =>
  cases w;cases x with|non=>cases h;exact wB.bool_none a|bl b=>cases h;exact wB.bool_bool a b|int b=>let#[t,rfl]:=h;exact wB.bool_int a b t|str b=>let#[t,rfl]:=h;exact wB.bool_str a b t|_=>exact Qe (show kd=kf from fx) QG
 |int a =>
  let#[z,rfl]:=w;cases x with|non=>cases h;exact wB.int_none a z|bl b=>cases h;exact wB.int_bool a z b|int b=>let#[t,rfl]:=h;exact wB.int_int a z b t|str b=>let#[t,rfl]:=h;exact QCC a z b t|_=>exact Qe (show kd=kf from fx) QG
 |str a =>
  let#[z,rfl]:=w;cases x with|non=>cases h;exact wB.str_none a z|bl b=>cases h;exact wB.str_bool a z b|int b=>let#[t,rfl]:=h;exact QCD a z b t|str b=>let#[t,rfl]:=h;exact wB.str_str a z b t|_=>exact Qe (show kd=kf from fx) QG
 |_=>exact Qe (show kd=kf from k) QG
def mX(x:V)(u:kn):Bool:=match u with
 | .none=>Ze .non x|.bool b=>Ze (.bl b) x|.int i _=>Ze (.int i) x|.str z _=>Ze (.str z) x|_=>kd
theorem b9{y:V}(r:aA y u)(f:rG y=kf):mX x u=Ze y x:=by
 cases y with|non=>cases r;rfl|bl b=>cases r;rfl|int i=>let#[t,rfl]:=r;rfl|str z=>let#[t,rfl]:=r;rfl|_=>exact Qe (show kd=kf from f) QG
theorem YJ{x:V}:∀{xs:LV}{us:LW},nA xs us->xs.all rG=kf->us.any (mX x)=xs.any λy=>Ze y x
 |_,_,.nil,_=>rfl|y::xs,u::us,.cons r t,f=>by rw[qr,QZ]at f;rw[WL,WL,b9 r f.1,YJ t f.2]
theorem dG{A:x0}{s:kt}{x:V}{v:kn}(z:aA x v)(fx:rG x=kf):∀{xs:LV}{us:LW},nA xs us->xs.all rG=kf->∀u∈us,wB A s u v (mX x u)
 |_,_,.nil,_=>λu h=>by cases h|y::xs,u::us,.cons r t,f=>λw h=>by rw[qr,QZ]at f;rcases QL.mp h with rfl|h;rw[b9 r f.1];exact Em r z f.1 fx;exact dG z fx t f.2 w h
def inV(x:V)(xs:LV):Bool:=xs.any λy=>Ze y x
def Mw(K:QC)(neg:Bool):R2:=λx y H Q=>∃p h,y=.ref p/\(uC K H p h∨rD K H p h)/\rG x=kf/\h.all rG=kf/\Q (.bl (if neg then !inV x h else inV x h)) H
theorem B1:AE X (vx .In) (Mw X.K kd):=by intro d s l H x y v u Q I g i h;let#[p,m,rfl,k,fx,fs,q]:=h;cases i;rcases k with k|k;let#[z,r,e,j]:=I.list k;refine SeqAt.in_listAt (mX x) e.isList (λw f=>dG g fx r fs w (by simpa using f)) #[.bl _,H,I,rfl,?_];rw[show z.toArray.any (mX x)=z.any (mX x) by simp,YJ r fs];exact q;let#[z,r,e,j]:=I.tuple k;refine SeqAt.in_tupleAt (mX x) e (λw f=>dG g fx r fs w (by simpa using f)) #[.bl _,H,I,rfl,?_];rw[show z.toArray.any (mX x)=z.any (mX x) by simp,YJ r fs];exact q
theorem jR:AE X (vx .NotIn) (Mw X.K kf):=by intro d s l H x y v u Q I g i h;let#[p,m,rfl,k,fx,fs,q]:=h;cases i;rcases k with k|k;let#[z,r,e,j]:=I.list k;refine SeqAt.notIn_listAt (mX x) e.isList (λw f=>dG g fx r fs w (by simpa using f)) #[.bl _,H,I,rfl,?_];rw[show z.toArray.any (mX x)=z.any (mX x) by simp,YJ r fs];exact q;let#[z,r,e,j]:=I.tuple k;refine SeqAt.notIn_tupleAt (mX x) e (λw f=>dG g fx r fs w (by simpa using f)) #[.bl _,H,I,rfl,?_];rw[show z.toArray.any (mX x)=z.any (mX x) by simp,YJ r fs];exact q
theorem iJ:JC X (.builtin "len") (λxs H Q=>∃p z,xs=[.ref p]/\(uC X.K H p z∨rD X.K H p z)/\Q (.int z.9) H):=by intro d s j H xs l Q I r h;let#[p,z,rfl,w,q]:=h;let#[u,rfl,g]:=IF r;cases g;have m:=kI;rcases w with w|w;let#[f,k,e,i]:=I.list w;have y:=k.9;exact Calls.call_len_list e.isList (by simp only[QM]<;>omega) #[.int z.9,H,I.tok _,#[s.toks+1,by rw[QM,y]],q];let#[f,k,e,i]:=I.tuple w;have y:=k.9;exact len_tuple e (by simp only[QM]<;>omega) #[.int z.9,H,I.tok _,#[s.toks+1,by rw[QM,y]],q]
theorem cS:JC X (.builtin "len") (λxs H Q=>∃z,xs=[.str z]/\z.9<=kb/\Q (.int z.9) H):=by intro d s y H xs w Q I r h;let#[z,rfl,k,q]:=h;let#[u,rfl,t,rfl]:=IF r;have e:=kI;exact len_str () #[.int z.9,H,I.tok _,#[_,rfl],q]
theorem JC.or{f:kn}{r k:LV->Hp->VK->Prop}(h:JC X f r)(h':JC X f k):JC X f (λxs H Q=>r xs H Q∨k xs H Q):=by intro d s y H xs z Q I w q;rcases q with q|q;exact h d s y H xs z Q I w q;exact h' d s y H xs z Q I w q
theorem bS:JC X (.type "list") (λxs H Q=>∃p k,xs=[.ref p]/\(uC X.K H p k∨rD X.K H p k)/\∀l,H l=kv->Q (.ref l) (DA H l (.lst k))):=by
 intro d s E H xs G Q I r h;let#[p,k,rfl,m,q]:=h;let#[u,rfl,F]:=IF r;cases F;have fin:∀(y:LW),nA k y->k.9<=kb->∀(z:vu) (g:Nat),(∀b C,s.1.get? b=jr C->z.get? b=jr C) ->
   z.get? s.1.1.size=jr { cls:=.type "list",dict:=kv,data:=.seq y.toArray g,slots:=#[] }->EP X d E Q (.ref s.1.1.size) { s with heap:=z }:=λy f j z g i e =>
  #[.ref s.1.1.size,_,I.laid (t':=s.toks) i (QV _) (show BA X.prog X.w _ z _ (.lst k) from#[j,y,g,f,e]),rfl,q _ (I.hok.fresh (QV _))]
 rcases m with m|m;let#[y,f,W,j]:=I.list m;have Z:=f.9;let#[o,A,hc,n,B]:=W.isList;exact p8 p (.inl rfl) A hc B (λz g i e=>fin y f j z g i e) (by simp only[QM]<;>omega);let#[y,f,W,j]:=I.tuple m;have Z:=f.9;let#[o,A,hc,n,B]:=W;exact p8 p (.inr rfl) A hc B (λz g i e=>fin y f j z g i e) (by simp only[QM]<;>omega)
theorem EO:JC X (.type "tuple") (λxs H Q=>∃p z,xs=[.ref p]/\((uC X.K H p z/\∀l,H l=kv->Q (.ref l) (DA H l (.tup z)))∨(rD X.K H p z/\Q (.ref p) H))):=by
 intro d s j H xs C Q I r h;let#[p,z,rfl,h]:=h;let#[u,rfl,W]:=IF r;cases W;rcases h with⟨i,q⟩| ⟨i,q⟩
 let#[y,f,g,m]:=I.list i;have n:=f.9;refine call_tuple_list g.isList (λk A=>?_) (by simp only[QM]<;>omega);have Z:Inv X d j H { s with heap:=k }:=I.kept (t':=s.toks) A;have B:Inv X d j (DA H k.1.size (.tup z)) { s with heap:=k.push { cls:=.type "tuple",data:=.seq y.toArray } } :=
  Z.laid (t':=s.toks) (λb o e=>QH _ e) (QV _) (show BA X.prog X.w _ _ _ (.tup z) from#[m,y,f,QC3 _ _])
 exact#[.ref k.1.size,_,B,rfl,q _ (Z.hok.fresh (QV _))];let#[y,f,g,m]:=I.tuple i;exact call_tuple_same g #[.ref p,H,I,rfl,q]
def K4(K:QC)(T:String)(x:V)(H:Hp):Prop:=match x with
 | .str _=>T="str"|.int _=>T="int"|.ref p=>(T="list"/\∃y,uC K H p y)∨(T="tuple"/\∃o,K.lookup p=jr o/\o.cls=.type "tuple"/\o.dict=kv) ∨
   (T="dict"/\((∃h,H p=jr (.dK h))∨∃z h,H p=jr (.dT z h)))∨(T="set"/\∃S n,H p=jr (.set S n))
 |_=>False
theorem Y5{σ:St}{H:Hp}{T:String}(I:Inv X d σ H s)(r:aA x v)(ty:K4 X.K T x H) :
  s.TypeIs v T/\∀a,v=.ref a->∃ob,s.1.get? a=jr ob/\ob.dict=none:=by
 cases x with
 |str z=>let#[t,rfl]:=r;cases(show T="str" from ty);exact#[QDH s z t,λ_ e=>nomatch e]
 |int i=>let#[t,rfl]:=r;cases(show T="int" from ty);exact#[typeIs_int s i t,λ_ e=>nomatch e]
 |ref p =>
  cases r;rcases ty with⟨rfl,l,j⟩| ⟨rfl,o,hk,hc,w⟩| ⟨rfl,hk⟩| ⟨rfl,S,n,hk⟩
  let#[g,_,f,_]:=I.list j;refine#[f.isList.typeIs,λa e=>?_];cases e;let#[o,n,e,c,w,_]:=f;exact#[o,e,w];refine#[#[o,I.kIn p o hk,hc],λa e=>?_];cases e;exact#[o,I.kIn _ o hk,w];have z:∃o,s.1.get? p=jr o/\o.ExactDict:=by
   rcases hk with⟨y,hk⟩| ⟨m,y,hk⟩
   let#[_,_,_,_,o,_,_,e,h,_]:=I.hok p _ hk;exact#[o,e,h];let#[_,_,_,_,o,_,e,h,_]:=I.hok p _ hk;exact#[o,e,h]
  let#[o,e,h]:=z;refine#[#[o,e,h.1],λa k=>?_];cases k;exact#[o,e,h.2.1];let#[o,_,_,_,e,h,_]:=I.hok p _ hk;refine#[#[o,e,h.1],λa k=>?_];cases k;exact#[o,e,h.2.1]
 |_=>exact Qg ty
noncomputable def sw(K:QC)(T:String)(r:V->LV->Hp->VK->Prop)(m:TE):TE:=λy H Q=>m y H λx h=>K4 K T x h/\r x [] h Q
noncomputable def jAY(K:QC)(T:String)(r:V->LV->Hp->VK->Prop)(m:TE)(t:TA):TE:=λh H Q=>m h H λx y=>K4 K T x y/\t h y λz w=>r x z w Q
end
variable{o e:Expr}{es:List Expr}{m:TE}{t:TA}{name:Str}{apos cpos:Pos}{T g:String}{r:V->LV->Hp->VK->Prop}
theorem ck(p:nt T)(w:Slot T name g)(k:typeOf (.builtin g)=ak (.type "method_descriptor"))(Z:C4 X g r)(q:PE X o m)
  (u:DC o name X.env (gp o X.env)=gp o X.env:=by rfl) (z:(apos.endLine==cpos.line)=true:=by rfl):PE X (.Call (.Attribute o name apos) [] [] cpos) (sw X.K T r m):=by
 intro y s f H Q I h;refine QBC u z (FB (q y s f H _ I h) λv l #[x,B,j,i,ty,n]=>?_);let#[A,W]:=Y5 j i ty;exact#[T,g,p,w,k,A,W,Ws rfl (QBz (Z y l f B x [] v [] Q j i .nil n))]
theorem yr(F:nt T)(k:Slot T name g)(j:typeOf (.builtin g)=ak (.type "method_descriptor"))(L:C4 X g r)(J:PE X o m)(M:PA X (e::es) t)
  (w:DC o name X.env (gp o X.env)=gp o X.env:=by rfl)
  (f:((fk cpos (xk (e::es) X.env)).all (λx=>!x.1)&&(backToKw cpos (keywordEach [] X.env)).all (λx=>x.1.isSome)
   && decide ((e::es).9+([]:List ll).9+(if([]:List ll).isEmpty then 0 else 1)<30))=true:=by rfl)
  (u:(apos.endLine==cpos.line)=true:=by rfl) (G:xk (e::es) X.env=(kd,gp e X.env)::xk es X.env:=by rfl) (z:(fk cpos (xk es X.env)).any (·.1)=false:=by rfl) :
  PE X (.Call (.Attribute o name apos) (e::es) [] cpos) (jAY X.K T r m t):=by
 intro y s i H Q I h;refine wpAny_Call_method_late w f u rfl (FB (J y s i H _ I h) λv A #[x,S,p,l,ty,E]=>?_);let#[O,N]:=Y5 p l ty;refine#[T,g,F,k,j,O,N,?_];have n:=M cpos y A i S _ p E;rw[G]at n ⊢;refine Ws (by show(kd||(fk cpos (xk es X.env)).any (·.1))=kd;rw[z]<;>rfl) (Calls.evalArgs_plain ?_);exact FB n λZ W #[q,R,P,B,C]=>L y W i R x q v Z Q P l B C
end
def Fy(X:Cx)(id:String)(r:V->LV->Hp->VK->Prop):Prop :=
 ∀(h:AB) (s:kt) (y:St) (H:Hp) (x:V) (z:LV) (v:kn) (u:LW) (Q:VK),Inv X h y H s->aA x v->nA z u->r x z H Q ->
  ku (k0 X.prog X.w) X.A (b8 (.builtin id) (v::u)) (EP X h y Q) X.xe s
theorem nA.one:∀{x:V}{us:LW},nA [x] us->∃u,us=[u]/\aA x u
 |_,_,.cons r .nil=>#[_,rfl,r]
theorem nA.eraseIdx:∀{xs:LV}{us:LW}(i:Nat),nA xs us->nA (xs.eraseIdx i) (us.eraseIdx i)
 |_,_,_,.nil=>.nil|_,_,0,.cons _ t=>t|_,_,i+1,.cons r t=>.cons r (nA.eraseIdx i t)
theorem nA.reverse{xs:LV}{us:LW}(h:nA xs us):nA xs.reverse us.reverse:=by
 induction h with|nil=>exact .nil|cons r t x=>rw[wv,wv];exact nA.append x (.cons r .nil)
theorem UP{α:Type}:∀(l:List α) (i:Nat),(l.eraseIdx i).9<=l.9
 |[],_=>QV _|_::_,0=>wU _|_::r,i+1=>QAG (UP r i)
section
variable{X:Cx}{y:AB}{σ:St}{H:Hp}{s:kt}{l b:ko}{xs v w:LV}
theorem Inv.lset{its its':LW}{n:Nat}{f:Array kn->Array kn}{t':Nat}(I:Inv X y σ H s)(a:H l=jr (.lst xs))
  (e:s.1.get? l=jr { cls:=.type "list",data:=.seq its.toArray n }) (k:f its.toArray=its'.toArray) (hv:nA v its') (h:v.9<=kb) :
  Inv X y σ (DA H l (.lst v)) { s with heap:=s.1.update l (Q5 f),toks:=t' }:=by
 have q:=PySem.IsL.update e f;rw[k]at q;refine I.write (x:=l) (e:=l) (by rw[a];exact trivial) (.inl rfl) (λg u hb z=>(Wr s.1 (Q5 f) (qC hb)).trans z) #[_,q] ?_;exact#[h,its',_,hv,q]
theorem Inv.lnew{its:LW}{t':Nat}(I:Inv X y σ H s)(hv:nA v its)(h:v.9<=kb) :
  Inv X y σ (DA H s.1.1.size (.lst v)) { s with heap:=s.1.push { cls:=.type "list",data:=.seq its.toArray },toks:=t' } :=
 I.laid (λ_ _ q=>QH _ q) (QV _) #[h,its,0,hv,QO _ rfl]
theorem Inv.fresh(I:Inv X y σ H s):H s.1.1.size=none:=I.hok.fresh (QV _)
theorem Inv.lstM(I:Inv X y σ H s)(h:H l=jr (.lst xs)):xs.9<=kb/\∃(its:LW) (n:Nat),nA xs its/\xs.9=its.9/\s.1.get? l=jr { cls:=.type "list",data:=.seq its.toArray n }:=by let#[z,its,n,r,e]:=I.hok l _ h;exact#[z,its,n,r,r.9,e]
theorem D7{n:Nat}(h:n<=kb):Wb n=false:=by unfold Wb;exact dF ()
end
section
variable{X:Cx}
def KY:V->LV->Hp->VK->Prop:=λx z H Q=>∃l h y,x=.ref l/\z=[y]/\H l=jr (.lst h)/\h.9<kb/\Q .non (DA H l (.lst (h++[y])))
theorem N2:Fy X "list.append" KY:=by intro k s i H x m v o Q I b f h;let#[l,j,y,rfl,rfl,a,p,q]:=h;cases b;let#[u,rfl,g]:=f.one;let#[z,w,n,r,hl,e]:=I.lstM a;refine QCW F.slot_list_append #[_,e,rfl] F.entry_list_append (F.args_list_append_2 _ _) (PySem.list_append l w.toArray n u (by rw[QM];omega)) #[e,?_];refine#[.non,_,I.lset (its':=w++[u]) a e (by simp) (r.append (.cons g .nil)) ?_,rfl,q];rw[QI,qO];omega
def Nb:V->LV->Hp->VK->Prop:=λx z H Q=>∃l b y h,x=.ref l/\z=[.ref b]/\H l=jr (.lst y)/\H b=jr (.lst h)/\y.9+h.9<=kb/\Q .non (DA H l (.lst (y++h)))
theorem G2:Fy X "list.extend" Nb:=by
 intro f s K H x E v G Q I i j h;let#[l,b,C,A,rfl,rfl,g,Z,J,q]:=h;cases i;let#[u,rfl,m]:=j.one;cases m;let#[z,w,n,r,hl,e]:=I.lstM g;let#[B,y,p,o,Y,W]:=I.lstM Z;have a:w.toArray.size+y.toArray.size<=sizeLine:=by rw[QM,QM];omega
 have k:¬ (!w.toArray.isEmpty&&Wb (w.toArray.size+y.toArray.size))=true:=by rw[D7 a,QAo];exact QG
 refine QCW F.slot_list_extend #[_,e,rfl] F.entry_list_extend (F.args_list_extend_2 _ _)
  (AutoSeq1.list_extend_list_list_0 l w.toArray n b y.toArray p k (by rw[QM];omega) ()) #[e,W,?_]
 refine#[.non,_,I.lset (its':=w++y) g e (by simp) (r.append o) ?_,rfl,q];rw[QI];omega
def Bj:V->LV->Hp->VK->Prop:=λx z H Q=>∃l h i k y,x=.ref l/\z=[.int i]/\H l=jr (.lst h)/\-(2 ^ 63)<=i/\i<2 ^ 63/\seqIndex? i h.9=jr k/\h[k]?=jr y/\Q y (DA H l (.lst (h.eraseIdx k)))
theorem E7:Fy X "list.pop" Bj:=by
 intro f s A H x B v C Q I m o h;let#[l,j,i,k,y,rfl,rfl,g,K,W,hk,Y,q]:=h;cases m;let#[u,rfl,p]:=o.one;let#[t,rfl]:=p;let#[z,a,n,r,hl,e]:=I.lstM g;let#[w,Z,b]:=r.get Y;refine QCW F.slot_list_pop #[_,e,rfl] F.entry_list_pop (F.args_list_pop_2 _ _)
  (MeetsSeq.list_pop_at l a.toArray n i t k w (fitsIndex_both K W) (by rw[QM,<- hl];exact hk) (by rw[<- QAA];exact Z) (by rw[QM];omega)) #[e,?_]
 refine#[y,_,I.lset (its':=a.eraseIdx k) g e ?_ (r.eraseIdx k) ?_,b,q];show a.toArray.eraseIdxIfInBounds k=(a.eraseIdx k).toArray;rw[List.eraseIdxIfInBounds_toArray];have:=UP j k;omega
end
end L2
namespace Att
open PySem PySem.W PySem.Calls PyProof.Rows
theorem YL{P:Params}{h:vu}:∀(ns:LJ) (vs:LW),WellAll P h vs (ns.map WData.int)->ii vs ns:=by
 intro ns;induction ns with
 |nil=>intro vs w;rw[wa]at w;cases w;exact .nil|cons n ns x =>
  intro vs w;rw[QX]at w;cases w with|cons a b=>cases a;exact .cons _ _ (x _ b)
theorem script_of{l:OpenLaw}{n:Nat}(j:l.most=jr n){P:Params}{h:vu}{args:List WData}{x:LW}
  (y:l.row.toRowW.claim.pre args=kf) (k:WellAll P h x args) :
  ∃a vs ns,x=[kx a]/\args=[WData.list (ns.map WData.int)]/\h.get? a=jr { cls:=.type "list",data:=.seq vs.toArray }/\ii vs ns/\ns.9<=n:=by
 have b:WShape.hasAll [] args [.list .int]=true:=(pre_splitW y).1;have hc:l.pre.holds [] { args:=args }=true:=(pre_splitW y).2;let#[d,r,rfl,p,o]:=hasAllW_cons b;obtain rfl:=hasAllW_nil o;let#[s,rfl,m]:=hasW_list p;let#[ns,rfl]:=items_int m;have z:ns.9<=n:=by
  unfold OpenLaw.pre at hc;have w:(WTm.not (.lt (.lit (.int (n:Int))) (.len (.arg 0)))).holds [] { args:=[.list (ns.map .int)] }=true:=by have w:=(holds_andW hc).1;rw[j]at w;exact w
  have v:=condW_of w (w_not (w_lt w_lit (w_len_list (w_arg rfl))));rw[QF]at v;refine Nat.le_of_not_lt λq=>?_;have g:(n:Int)<((ns.9:Nat):Int):=()
  first
   | (rw[dT g]at v;exact Qe v (by decide))
   | (simp at v;omega)
 cases k with
 |cons f e =>
  cases e;cases f with|list i u=>exact#[_,_,ns,rfl,rfl,i,YL ns _ u,z]
theorem post_true(l:OpenLaw)(args:List WData):l.row.toRowW.claim.post args (.bool kf) args=kf :=
 postW_of (r:=l.row.toRowW) (X:=(kf==kf))
  (show WShape.has [] (.bool kf) .bool=kf by first|rfl|decide|simp[WShape.has,WShape.arms,WShape.armsAll])
  (show(WTm.eq .res (.lit (.bool kf))).value [] { args:=args,res:=jr (.bool kf),after:=args }=jr (.bool (kf==kf)) from w_eq_bool (w_res rfl) w_lit) rfl
end Att
namespace L2
open PySem PySem.Spec PyProof.Rows
theorem uP:∀{vs:LW}{ns:LJ},ii vs ns->nA (ns.map V.int) vs
 |_,_,.nil=>.nil|_,_,.cons n t h=>.cons #[t,rfl] (uP h)
def Ku(H:Hp):Prop:=∀b,H b=kv∨(∃o h,H b=jr (.frz o (.lst h)))∨∃q,H b=jr (.tbl q)
theorem g8{P:k5}{w:xb}{K:QC}{mg mb:Str->Option kn}{CX:Xa}{k:Nat}{fa a:ko}{fd:zo}{x:Str}{sp:Sp}{y:kt}{vs:LW}{ns:LJ}{T c:ko}{X:Str}(hT:∀f:vu,K.In f->∀P q,vQ mg f P q->P=T/\q=X)(j:y.1.TableAt c T #[])(hKT:K.lookup T=kv)
  (KX:K.In y.1) (Q:y.1.Ns k4 mg) (hb:y.1.Ns Er mb) (hbb:∀x:Str,x≠"__name__"->mb x=y1 x) (R:y.1.NoLimit) (hg:y.gens=#[])
  (J:y.1.get? a=jr { cls:=.type "list",data:=.seq vs.toArray }) (hi:ii vs ns) (hl:ns.9<=kb) (hr:Room k mx)
  (F:∀f:vu,K.In f->f.Ns k4 mg->FnOk P w K mg f CX k fa fd [x] sp) (B:∀(s:kt) (u:kn),l5 s fd #[[u],[]] [(x,u)])
  (hsp:∀H:Hp,Ku H->uC K H a (ns.map V.int)->sp [.ref a] H (λv _=>v=.bl kf) λ_ _ _=>False)
  (hCX:∀H e s',CX [] H y (λ_ _ _=>False) e s'->False) :
  mi (k0 P w) mx (.call (.ref fa) #[[.ref a],[]]) (λr s'=>r=.ok (.ret (.bool kf))/\OldK y.1 s'.1/\s'.os=y.os/\ai s'.gens) y:=by
 have rv:=uP hi;have O:=hi.9;have W:∀H:Hp,Ku H->uC K H a (ns.map V.int)->EL P w H y.1->(∀b,H b≠kv->b=a∨b=T)->(H a≠kv->K.lookup a=kv)->H T=jr (.tbl X) ->
   mi (k0 P w) mx (.call (.ref fa) #[[.ref a],[]]) (λr s'=>r=.ok (.ret (.bool kf))/\OldK y.1 s'.1/\s'.os=y.os/\ai s'.gens) y:=by
  intro H hO hS A hA hK hP;have l:∀{b:ko}{o:Obj},y.1.get? b=jr o->H b=kv->(LR y.1 H).get? b=jr o:=λe n=>N8 e n;have noA:∀{b:ko}{o:Obj}{L:Array c0}{M:Nat},y.1.get? b=jr o->o.data=.dict L M->H b=none:=λ{b o L M} e d=>by
   cases q:H b with|none=>rfl|some u=>rcases hA b (by rw[q];simp) with e'|e';subst e';rw[J]at e;cases e;have d':Data.seq vs.toArray _=Data.dict L M:=d;cases d';subst e';rw[j.2]at e;cases e;have d':Data.fields #[]=Data.dict L M:=d;cases d'
  have Y:∀{b:ko}{m:Str->Option kn},y.1.Ns b m->(LR y.1 H).Ns b m:=λ{b m} #[o,L,M,e,d,r]=>#[o,L,M,l e (noA e d),d,r]
  have G:K.In (LR y.1 H):=λb o e=>l (KX b o e) (by
   cases q:H b with|none=>rfl|some u=>rcases hA b (by rw[q];simp) with e'|e';subst e';rw[hK (by rw[q];simp)]at e;cases e;subst e';rw[hKT]at e;cases e)
  have hM:Mod K mg (LR y.1 H):=#[G,Y Q,#[mb,Y hb,hbb],let#[mc,h1,h2]:=R;#[mc,Y h1,h2]]
  have e0:Env0 P w K mg (LR y.1 H) mx [] y H:=#[rfl,hM,λb o e=>vd e,WH (M3 _ _),trivial,λb hb=>Qe (show b∈([]:List ko) from hb) (by simp),λP q t=>(by let#[rfl,rfl]:=hT _ G P q t;exact hP),A,.of_eq hg]
  refine QCi ((F _ G (Y Q)).run mx [] y H #[[.ref a],[]] [.ref a] [.ref a] _ _ hr e0 (B y (.ref a)) (.cons rfl .nil) (hsp H hO hS)) λr s' h=>?_;cases r with
  |error e=>exact(hCX H e s' h).elim|ok fl =>
   cases fl with
   |next=>exact Qg h|brk=>exact Qg h|cont=>exact Qg h|ret u =>
    let#[v,H',os,bare,un,Z,r',q]:=h;have q':v=.bl true:=q;subst q';obtain rfl:u=Value.bool true:=r';have nx:∀b,b∉oZ []:=λb z=>Qe (show b∈([]:List ko) from z) (by simp);refine#[rfl,#[λb o e=>?_,λb o e=>un.there b o e (by simp)],os,bare];rcases hO b with z|⟨ob,xs,z⟩| ⟨tq',z⟩
    exact .inl (un.keep b o e z (nx b) (by simp));let#[S,_]:=A b _ z;let#[e2,_]:=Z b _ (un.frzs b ob _ z);rw[e]at S;cases S;exact .inl e2;have hb:b=T:=by rcases hA b (by rw[z];simp) with rfl|h;let#[ps,S,_]:=A b _ z;rw[J]at S;cases S;exact h
    subst hb;let#[ps,e2,_]:=Z b _ (un.tbls b _ z);have e0:=e.symm.trans j.2;cases e0;exact .inr (.inl #[j.isCodeTable,rfl,#[],ps,rfl,by simpa using e2])
 have aT:a≠T:=λz=>by have e:=j.2;rw[<- z,J]at e;cases e
 have N:∀H:Hp,BA P w H y.1 T (.tbl X):=λH=>#[#[],j.2,trivial,λpos cv g=>by cases g]
 cases hk:K.lookup a with
 |some o =>
  have e:=KX a o hk;rw[J]at e;cases e;refine W (λb=>if b=T then jr (.tbl X) else kv) (λb=>?_) (.inr #[_,vs.toArray,_,hk,rfl,rfl,rfl,by rw[QM,O];exact hl,by simpa using rv]) (λb u z=>?_) (λb z=>?_) (λz=>Qe (QB aT) z) (Qc rfl);by_cases hb:b=T
  ·exact .inr (.inr #[_,Qc hb])
  exact .inl (QB hb);by_cases hb:b=T
  ·have p:=(Qc hb).symm.trans z
   cases p;subst hb;exact N _
  have p:=(QB hb).symm.trans z;cases p;by_cases hb:b=T
  ·exact .inr hb
  exact Qe (QB hb) z
 |none =>
  have C:∀b,b=T->(if b=T then jr (.tbl X) else if b=a then jr (.frz { cls:=.type "list",data:=.seq vs.toArray } (.lst (ns.map V.int))) else none:Option HO)=jr (.tbl X):=λb h=>Qc h;have I:∀b,b=a->(if b=T then jr (.tbl X) else if b=a then jr (.frz { cls:=.type "list",data:=.seq vs.toArray } (.lst (ns.map V.int))) else none:Option HO)=jr (.frz { cls:=.type "list",data:=.seq vs.toArray } (.lst (ns.map V.int))):=λb h=>(QB (h▸aT)).trans (Qc h);have E:∀b,b≠T->b≠a->(if b=T then jr (.tbl X) else if b=a then jr (.frz { cls:=.type "list",data:=.seq vs.toArray } (.lst (ns.map V.int))) else none:Option HO)=none:=λb h h2=>(QB h).trans (QB h2);refine W (λb=>if b=T then jr (.tbl X) else if b=a then jr (.frz { cls:=.type "list",data:=.seq vs.toArray } (.lst (ns.map V.int))) else kv) (λb=>?_) (.inl (.inr #[{ cls:=.type "list",data:=.seq vs.toArray },I a rfl])) (λb u z=>?_) (λb z=>?_) (λ_=>hk) (C T rfl);by_cases hb:b=T
  ·exact .inr (.inr #[_,C b hb])
  by_cases i:b=a
  ·exact .inr (.inl #[_,_,I b i])
  exact .inl (E b hb i);by_cases hb:b=T
  ·have p:=(C b hb).symm.trans z
   cases p;subst hb;exact N _
  by_cases i:b=a
  ·have p:=(I b i).symm.trans z
   cases p;subst i;exact#[J,by rw[QF];exact hl,vs,_,rv,J]
  have p:=(E b hb i).symm.trans z;cases p;by_cases hb:b=T
  ·exact .inr hb
  by_cases i:b=a
  ·exact .inl i
  exact Qe (E b hb i) z
noncomputable def uD(s:gV):Arguments:=match s with
 | .FunctionDef _ a _ _ _ _ _ _ _ _=>a|_=>{ posonlyargs:=[],args:=[],vararg:=kv,kwonlyargs:=[],kw_defaults:=[],kwarg:=kv,defaults:=[] }
noncomputable def aC(s:gV):List Stmt:=match s with
 | .FunctionDef _ _ b _ _ _ _ _ _ _=>b|_=>[]
noncomputable def SA(s:gV):Scope:=match s with
 | .FunctionDef _ _ _ _ _ _ sc _ _ _=>sc|_=>{ kind:=.function,names:=[],isGenerator:=kd,isCoroutine:=kd }
noncomputable abbrev L4:Xa:=λ_ _ _ _ _ _=>False
noncomputable abbrev E0:XK:=λ_ _ _=>False
theorem kr{X:Cx}:vO L4 X E0:=λ_ _ _ _ _ _ _ h=>h.elim
structure Fun(K:QC)(x qual:Str)(st:gV)(f:ko)(fd:zo):Prop where
 ex:∃(oc:kn) (od:Option ko) (kV doc pm:kn) (an:Option ko) (cdv ct:kn) (osl:Array (Option kn)),
  fd=wH x qual (uD st) (aC st) (SA st) .none kV doc pm an cdv ct/\K.lookup f=jr #[oc,od,.func fd,osl]/\W6 K cdv qual=kf
 kp:wf K (.ref f)=kf
section
variable{P:k5}{w:xb}{K:QC}{mg:Str->Option kn}{base:vu}
section
variable{x y:Str}{st:gV}{f:ko}{u:zo}{z:LS}
theorem Fun.ok{N:LS}{k:Nat}{b:Sp}(F:Fun K x y st f u)(S:FnScope N z (SA st))(len:∀vs H Q E,b vs H Q E->vs.9=z.9)
  (a:∀(v:kn) (A:x0) (outer:List Env) (s:kt) (H:Hp) (vs:LV) (Q:VK) (E:XK),Room k (A.deeper (a8 y (SA st) s.1.1.size f v))->b vs H Q E ->
   ∃t,IX (oX L4 P w K mg base N y (SA st) f v A outer s H E).nox (aC st) t/\t { nx:=λ_ m=>Q .non m,rt:=Q } (sD N vs) H):FnOk P w K mg base L4 (k+1) f u z b:=by
 let#[p,o,kV,l,n,X,v,r,i,rfl,lk,g]:=F.ex;refine Dg lk g S len λA outer s H vs Q E j e=>?_;let#[t,h,q]:=a v A outer s H vs Q E j e;exact#[t,h.nox,q]
theorem Fun.binds(F:Fun K x y st f u)
  (h:∀(kV v a:kn) (b:Option ko) (k ct:kn) (us:LW),us.9=z.9->ew (wH x y (uD st) (aC st) (SA st) .none kV v a b k ct) #[us,[]]=ak (z.zip us)):HJ K u z []:=by
 let#[j,i,kV,v,a,b,k,ct,e,rfl,lk,g]:=F.ex;exact .all (h kV v a b k ct)
theorem Lm{i:kn}{g e:Option ko}{a:Array (Option kn)}{kV v b h ct:kn}(l:K.lookup f=jr #[i,g,.func (wH x y (uD st) (aC st) (SA st) .none kV v b e h ct),a])
  (c:W6 K h y=kf) (k:wf K (.ref f)=kf):Fun K x y st f (wH x y (uD st) (aC st) (SA st) .none kV v b e h ct):=#[#[i,g,kV,v,b,e,h,ct,a,rfl,l,c],k]
end
end
def Same(H h:Hp):Prop:=∀b o,H b=jr o->h b=jr o
theorem Same.refl(H:Hp):Same H H:=λ_ _ h=>h
theorem Same.trans{H y x:Hp}(a:Same H y)(b:Same y x):Same H x:=λc o h=>b c o (a c o h)
theorem Same.free{H x:Hp}(e:Same H x){l:ko}(h:x l=Option.none):H l=Option.none:=by
 cases q:H l with|none=>rfl|some o=>rw[e l o q]at h;cases h
theorem Same.seq{K:QC}{H x:Hp}{a:ko}{xs:LV}(e:Same H x)(h:uC K H a xs):uC K x a xs:=by rcases h with(h|⟨o,h⟩)|h;exact .inl (.inl (e _ _ h));exact .inl (.inr #[o,e _ _ h]);exact .inr h
noncomputable def GO(env:Env):List (Str×fb)->List (Str×ko)->List (Str×ko)
 |[],cs=>cs|(n,k)::r,cs=>GO env r (if k==.free then(n,(env.cells.lookup n).getD 0)::cs else cs)
theorem aX{u:hZ}{env:Env}(h:∀y∈u.names,y.2=.free->∃c,env.cells.lookup y.1=jr c):l0 u env=ak (GO env u.names []):=by
 have key:∀(l:List (Str×fb)) (v:List (Str×ko)),(∀y∈l,y.2=.free->∃c,env.cells.lookup y.1=jr c) ->
   (forIn l v λ(x:Str×fb) (r:List (Str×ko))=>(if(x.2==NameKind.free)=kf then(do let c <- cellOf env x.1;ak (ForInStep.yield ((x.1,c)::r))) else ak (ForInStep.yield r):Sem (ForInStep (List (Str×ko)))))=ak (GO env l v):=by
  intro l;induction l with
  |nil=>intro v _;rfl|cons y l a =>
   intro v hl;let#[n,k]:=y;rw[QAT];by_cases hk:k=.free;subst hk;let#[c,hc]:=hl (n,.free) QD rfl;have hc:env.cells.lookup n=jr c:=hc;simp only[beq_self_eq_true,if_true,cellOf,hc,pure_bind,GO,QCu];exact a _ λz w=>hl z (QE _ w);have hb:(k==NameKind.free)=false:=by simpa using hk
   simp only[hb,Qw,if_false,pure_bind,GO];exact a _ λz w=>hl z (QE _ w)
 have e:=key u.names [] h;unfold l0;exact(wy (· >>= ak) e).trans (pure_bind _ _)
theorem MP{env:Env}{x:Str}{c:ko}:∀(l:List (Str×fb)) (cs:List (Str×ko)),(∀y∈l,y.2=.free->∃c,env.cells.lookup y.1=jr c)->(∀c,cs.lookup x=jr c->env.cells.lookup x=jr c) ->
  (GO env l cs).lookup x=jr c->env.cells.lookup x=jr c
 |[],cs,_,hc,h=>hc c h|(n,k)::r,cs,hl,hc,h=>by
  refine MP r _ (λz a=>hl z (QE _ a)) (λd u=>?_) h;by_cases hk:k=.free;subst hk;let#[e,v]:=hl (n,.free) QD rfl;have v:env.cells.lookup n=jr e:=v;simp only[beq_self_eq_true,if_true,v,QCu,WF]at u;cases w:x==n with|true=>rw[w]at u;cases u;rw[qe w];exact v|false=>rw[w]at u;exact hc d u
  have hb:(k==NameKind.free)=false:=by simpa using hk
  simp only[hb,Qw,if_false]at u;exact hc d u
theorem FN{env:Env}{x:Str}:∀(l:List (Str×fb)) (cs:List (Str×ko)),((∃c,cs.lookup x=jr c)∨(x,NameKind.free)∈l)->∃c,(GO env l cs).lookup x=jr c
 |[],cs,h=>by rcases h with h|h;exact h;cases h
 | (n,k)::r,cs,h=>by
  refine FN r _ ?_;rcases h with⟨c,h⟩| h;refine .inl ?_;split;rw[WF];split;exact#[_,rfl];exact#[c,h];exact#[c,h];rcases QL.mp h with h|h
  ·cases h
   refine .inl ?_;simp
  exact .inr h
noncomputable def BB:List Bool->Nat->LS->LS
 |b::m,j,x::N=>(if b then#[(qK [46,j])] else x)::BB m (j+1) N|_,_,N=>N
noncomputable def MC:List Bool->St->St
 |b::m,v::σ=>(if b then kv else v)::MC m σ|_,σ=>σ
theorem bK:∀(m:List Bool) (σ:St),(MC m σ).9=σ.9
 |[],σ=>by unfold MC;rfl|_::_,[]=>by unfold MC;rfl|b::m,v::σ=>by unfold MC;rw[QN,QN,bK m σ]
theorem GP:∀(m:List Bool) (j:Nat) (N:LS),(BB m j N).9=N.9
 |[],_,N=>by unfold BB;rfl|_::_,_,[]=>by unfold BB;rfl|b::m,j,x::N=>by unfold BB;rw[QN,QN,GP m (j+1) N]
theorem fN:∀(m:List Bool) (j:Nat) (N:LS) (σ:St) (i:Nat) (v:V),(MC m σ)[i]?=jr (jr v)->σ[i]?=jr (jr v)/\(BB m j N)[i]?=N[i]?
 |[],_,N,σ,i,v,h=>by unfold MC at h;unfold BB;exact#[h,rfl]|_::_,_,N,[],i,v,h=>by unfold MC at h;simp at h|b::m,j,[],w::σ,i,v,h=>by
  unfold MC at h;cases i with
  |zero =>
   cases b with|true=>simp at h|false=>simp at h;subst h;exact#[by simp,by unfold BB;rfl]
  |succ i=>have q:=(fN m (j+1) [] σ i v (by simpa using h)).1;exact#[by simpa using q,by unfold BB;rfl]
 |b::m,j,x::N,w::σ,0,v,h=>by
  unfold MC at h;cases b with|true=>simp at h|false=>simp at h;subst h;exact#[by simp,by unfold BB;simp]
 |b::m,j,x::N,w::σ,i+1,v,h=>by unfold MC at h;have q:=fN m (j+1) N σ i v (by simpa using h);unfold BB;exact#[by simpa using q.1,by simpa using q.2]
noncomputable def JM(h sc:hZ):hZ :=
  { h with names:=h.names.map λ(n,k)=>if(k==.free&&sc.kind==.function&&sc.names.lookup n==jr .cell) then(n,.cell) else(n,k) }
theorem FC(sc:hZ)(x:Str):∀(l:List (Str×fb)),
  (l.map λ(n,k)=>if(k==NameKind.free&&sc.kind==.function&&sc.names.lookup n==jr .cell) then(n,NameKind.cell) else(n,k)).lookup x =
   (l.lookup x).map λk=>if(k==NameKind.free&&sc.kind==.function&&sc.names.lookup x==jr .cell) then NameKind.cell else k
 |[]=>rfl|(n,k)::r=>by
  rw[QX];have e:(if(k==NameKind.free&&sc.kind==.function&&sc.names.lookup n==jr .cell)=kf then(n,NameKind.cell) else(n,k)) =
    (n,if(k==NameKind.free&&sc.kind==.function&&sc.names.lookup n==jr .cell)=kf then NameKind.cell else k):=by split<;>rfl
  show QC4 x ((if(k==NameKind.free&&sc.kind==.function&&sc.names.lookup n==jr .cell)=kf then(n,NameKind.cell) else(n,k))::_)=_;rw[e,WF,WF];cases h:x==n with|true=>rw[qe h];simp|false=>exact FC sc x r
structure CompSt(N:LS)(sc scope:hZ)(tgs:LS)(mask:List Bool):Prop where
 kind:scope.kind=.function
 nocell:∀y∈scope.names,y.2≠.cell
 names:∀y∈scope.names,y.2=.local->scope.names.lookup y.1=jr .local
 free:∀y∈scope.names,y.2=.free->sc.names.lookup y.1=jr .cell∨sc.names.lookup y.1=jr .free
 loc:∀y∈scope.names,y.2=.local->y.1∈tgs∨y.1=(".0":Str)
 nd:(tgs++BB mask 0 N).Nodup
 no0:(".0":Str)∉tgs++BB mask 0 N
def EA(X:Cx)(h:hZ)(y:LS)(x:List Bool)(s:kt)(H:Hp)(ex:List ko):Cx :=
  { X with N:=y++BB x 0 X.N,s₀:=s,H₀:=H,env:=compEnvC h (GO X.env h.names []) s.1.1.size X.env,outer:=X.stack,stack:=X.stack,ex:=ex,fn:=λ_=>kd,pn:=[],xe:=λ_ _=>False }
def tJ(k:Nat)(h:List Bool)(σ:St):St:=QAr k kv++MC h σ
section
variable{X:Cx}{f:AB}{σ:St}{H:Hp}{s:kt}{w:hZ}{d:LS}{a:List Bool}{ex:List ko}
theorem CompSt.cells(C:CompSt X.N X.env.scope w d a)(ok:X.Ok):∀y∈w.names,y.2=.free->∃c,X.env.cells.lookup y.1=jr c:=λy h x =>
 ok.has y.1 (C.free y h x)
theorem CompSt.kindCF(C:CompSt X.N X.env.scope w d a){x:Str}(h:(ln w X.env).names.lookup x=jr .cell∨(ln w X.env).names.lookup x=jr .free):(x,NameKind.free)∈w.names:=by
 have e:=FC X.env.scope x w.names;have u:(ln w X.env).names.lookup x=(w.names.lookup x).map λk=>if(k==NameKind.free&&X.env.scope.kind==.function&&X.env.scope.names.lookup x==jr .cell) then NameKind.cell else k:=e
 rw[u]at h;cases q:w.names.lookup x with
 |none=>rw[q]at h;simp at h|some k =>
  have y:=qU q;have z:=C.nocell _ y;cases k with|free=>exact y|cell=>exact Qe rfl z|«local»=>rw[q]at h;simp at h|_=>rw[q]at h;simp at h
theorem pX(I:Inv X f σ H s)(C:CompSt X.N X.env.scope w d a)(n:∀b∈ex,GJ X f H b/\b<s.1.1.size){h':vu}{t':Nat}
  (hn:h'.Ns s.1.1.size (λ_=>kv)) (hs:qk s.1.1.size (s.1.push { cls:=.type "dict",data:=.dict #[] }) h') :
  Inv (EA X w d a s H ex) [] (tJ d.9 a σ) H { s with heap:=h',toks:=t' }:=by
 have kept:∀b u,s.1.get? b=jr u->h'.get? b=jr u:=λb u e=>hs.extBut b u (Qj (QS e)) (QH _ e);have look:∀x c,(GO X.env w.names []).lookup x=jr c->X.env.cells.lookup x=jr c:=λx c e=>MP w.names [] (C.cells I.ok) (λc z=>by simp at z) e;have nofs:∀b∈ex,b∉oZ X.stack:=λb hb z=>by let#[#[_,f1,f2,_],_]:=n b hb;rcases QL.mp (I.stkSub b z) with e|e;exact f1 e;exact f2 e
 refine#[#[I.ok.mod,C.kind,I.ok.glob,I.ok.blt,QV _,λx y c E j=>I.ok.inj x y c (look x c E) (look y c j),λx hx=>?_,λx c hf _=>Qe (show kd=kf from hf) QG,I.ok.hd,I.ok.frames,.inl rfl,λb hb=>?_,I.bs,QU I.ok.bsz I.sz,λb o e hb=>?_,nofs,I.stack,I.stkFree,I.tb],
  rfl,I.bare,Un.kept kept,#[_,hn,λi x v E j h3=>?_],λx c h=>?_,I.hok.fresh (QV _),λx c h=>I.freeC x c (look x c h),λp hp=>Qe (show p∈([]:AB) from hp) (by simp),I.hok.kept kept,?_]
 exact FN w.names [] (.inr (C.kindCF hx));let#[#[_,_,_,_,f4,_],lt]:=n b hb;exact#[Qj lt,λx c e=>f4 x c (look x c e)];let#[#[_,_,_,f3,_],_]:=n b hb;rcases f3 with z|z;exact I.ok.noex b o e z;exact Qe (Qt (QS (I.ok.bs b o e).1) z) (qG _)
 ·
  have hi:d.9<=i:=by rcases QBX i d.9 with z|z;unfold tJ at j;rw[qS (by simpa using z),WA]at j;split at j<;>cases j;exact z
  have Z:(BB a 0 X.N)[i - d.9]?=jr x:=by have:(d++BB a 0 X.N)[i]?=jr x:=E;rw[Qu hi]at this;exact this
  have O:(MC a σ)[i - d.9]?=jr (jr v):=by unfold tJ at j;rw[Qu (by simpa using hi)]at j;simpa using j
  let#[g1,g2]:=fN a 0 X.N σ _ v O;rw[g2]at Z;have A:x∈d++BB a 0 X.N:=qZ (show(d++BB a 0 X.N)[i]?=jr x from E);have K:x∉d:=λz=>by have nd:=C.nd;rw[qW]at nd;exact nd.2.2 x z x (qZ (by rw[g2];exact Z)) rfl
  have g:(x,NameKind.free)∈w.names:=by
   rcases h3 with z|z|z;exfalso;have e:(ln w X.env).names.lookup x=jr .local:=z;have Q:=FC X.env.scope x w.names;have P:(ln w X.env).names.lookup x=(w.names.lookup x).map λk=>if(k==NameKind.free&&X.env.scope.kind==.function&&X.env.scope.names.lookup x==jr .cell) then NameKind.cell else k:=Q
   rw[P]at e;cases q:w.names.lookup x with
   |none=>rw[q]at e;cases e|some k =>
    rw[q]at e;have L:=qU q;have G:k=.local:=by
     cases k with|«local»=>rfl|free=>simp at e;split at e<;>cases e|_=>simp at e
    subst G;rcases C.loc _ L rfl with z|z;exact K z;exact C.no0 (z▸A)
   exact C.kindCF (.inl z);exact C.kindCF (.inr z)
  let#[m,hnm,hl]:=I.loc;have F:ou X.env.scope x:=.inr (C.free _ g rfl);let#[u,r,l]:=hl _ x v Z g1 F;refine#[u,r,?_];rcases l with⟨k,_⟩| ⟨_,c,hc,Y⟩
  exfalso;have S:X.env.scope.names.lookup x=jr .local:=k;rcases C.free _ g rfl with z|z;have W:X.env.scope.names.lookup x=jr .cell:=z;rw[S]at W;cases W;have W:X.env.scope.names.lookup x=jr .free:=z;rw[S]at W;cases W;let#[R,B]:=FN (env:=X.env) w.names [] (.inr g);have:R=c:=by have:=look x R B;rw[hc]at this;exact(Qp this).symm
  subst this;refine .inr #[?_,R,B,?_];rcases h3 with z|z|z
  ·exfalso
   have e:(ln w X.env).names.lookup x=jr .local:=z;have Q:=FC X.env.scope x w.names;have P:(ln w X.env).names.lookup x=(w.names.lookup x).map λk=>if(k==NameKind.free&&X.env.scope.kind==.function&&X.env.scope.names.lookup x==jr .cell) then NameKind.cell else k:=Q
   rw[P]at e;cases q:w.names.lookup x with
   |none=>rw[q]at e;cases e|some k =>
    rw[q]at e;have L:=qU q;have G:k=.local:=by
     cases k with|«local»=>rfl|free=>simp at e;split at e<;>cases e|_=>simp at e
    subst G;rcases C.loc _ L rfl with z|z;exact K z;exact C.no0 (z▸A)
  exact .inl z;exact .inr z;let#[o,J,M]:=Y;exact#[o,kept _ _ J,M]
 let#[v,o,J,M]:=I.cell x c (look x c h);exact#[v,o,kept _ _ J,M];show(tJ d.9 a σ).9=(d++BB a 0 X.N).9;unfold tJ;rw[QI,QI,wI,bK,GP,I.len]
end
section
variable{X:Cx}{h:AB}{σ a:St}{H k:Hp}{s s':kt}{x:hZ}{d:LS}{w:List Bool}{ex:List ko}{D:ko}{y:LV}{its:LW}
theorem rX(I:Inv X h σ H s)(l:∀b∈ex,GJ X h H b/\b<s.1.1.size)(W:D∈ex)(J:Inv (EA X x d w s H ex) [] a k s')(f:k D=kv)(hv:nA y its)(B:y.9<=kb)
  (hl:s'.1.PlainList D its.toArray) {g:vu}(C:qk s.1.1.size s'.1 g):Inv X h σ (DA k D (.lst y)) { s' with heap:=g }:=by
 have un:Un (oZ X.stack) ex H k s.1 s'.heap:=J.base;have j:∀b o,s.1.get? b=jr o->b≠s.1.1.size:=λb o e=>Qj (QS e);have E:=l D W;have Z:k s.1.1.size=none:=J.free;have N:D≠s.1.1.size:=Qj E.2;have m:∀b u,b≠s.1.1.size->s'.1.get? b=jr u->g.get? b=jr u:=λb u A e=>C.extBut b u A e;refine I.call' (s':={ s' with heap:=g }) (ch:=ex) J.os #[λb o e n hb i=>?_,λb o e n hb i=>?_,λb o e n i=>?_,λb o e i=>?_,λb p e=>?_,λb o u e=>?_,λb r e=>?_] ?_ J.bare λb hb=>?_;exact m b o (j b o e) (un.keep b o e n hb i);let#[K,q]:=un.slot b o e n hb i;exact#[K,m b _ (j b o e) q];have q:=un.free b o e n i;rw[xA (λ(z:b=D)=>i (by rw[z];exact W))];exact q;let#[Y,q]:=un.there b o e i;exact#[Y,m b Y (j b o e) q];rw[xA (iA (un.tups b p e) f)];exact un.tups b p e;rw[xA (iA (un.frzs b o u e) f)];exact un.frzs b o u e;rw[xA (iA (un.tbls b r e) f)];exact un.tbls b r e;intro b u e;by_cases hb:b=D;subst hb;rw[YA]at e;cases e;let#[n,q]:=hl;exact#[B,its,n,hv,m _ _ N q];rw[xA hb]at e;refine(J.hok b u e).stay (λc v hc q=>m c v ?_ q) (λc q=>?_) λc p q=>?_;rintro rfl;rcases hc with z|z;subst z;rw[Z]at e;cases e;rw[Z]at z;cases z;rw[xA (iA q f)];exact q;rw[xA (iA q f)];exact q;let#[#[P,M,O,L,G,F],_]:=l b hb;exact#[L,M,G,F]
end
section
variable{X:Cx}{s:kt}{V Z K:Expr}{U:List Expr}{d:hZ}{pos:Pos}{B:TI}{g:TG}{tc:TT}{te:TE}{Y:LS}{j:List Bool}{l:AB}
def Zu(X:Cx)(U:List Expr)(t:TT):Prop:=∀(l:AB) (s:kt) (h:St) (H:Hp) (Q:Bool->Hp->Prop),Inv X l h H s->t h H Q ->
 ku (k0 X.prog X.w) X.A (forIn U kf λc r=>if r=kf then do let ok <- isTrue c X.env (gp c X.env);ak (ForInStep.yield ok) else ak (ForInStep.yield r)) (TP X l h Q) X.xe s
theorem GY:Zu X [] (λ_ H Q=>Q kf H):=λl s x H Q I h=>by rw[QBr];exact QK #[H,I,h]
theorem FY{c:Expr}{t:TT}(hc:PT X c t):Zu X [c] t:=λl s x H Q I h=>by rw[QAT];simp only[if_true];refine QA (QA (FB (hc l s x H Q I h) λb y q=>QK ?_));dsimp only;rw[QBr];exact QK q
theorem rH{prog:k5}{w:xb}{A:x0}{R:Result->kt->Prop}{y:Expr}{it q:kn}{env:Env}(I:Nat->kt->Prop)
  (W:∀n s,I n s->ku (k0 prog w) A (mu it) (λr k=>match r with
   |none=>R (.ok .next) k|some v=>ku (k0 prog w) A (dy y it v) (λ_ u=>ku (k0 prog w) A (ef y env v) (λ_ f =>
     ku (k0 prog w) A (forIn U kf λc r=>if r=kf then do let ok <- isTrue c env (gp c env);ak (ForInStep.yield ok) else ak (ForInStep.yield r)) (λok z =>
      if ok=kf then ku (k0 prog w) A (gp V env) (λx e =>
       ku (k0 prog w) A (b8 (.builtin "list.append") [q,x]) (λ_ b=>∃m,m<n/\I m b) (λ_ _=>False) e) (λ_ _=>False) z
      else ∃m,m<n/\I m z) (λ_ _=>False) f) (λ_ _=>False) u) (λ_ _=>False) k) (λ_ _=>False) s)
  (n:Nat) (h:I n s) :
  mi (k0 prog w) A (.compLoop (.ListComp V [#[y,Z,U,0]] d pos) 0 it q env) R s:=by
 refine codeAny_loop rfl I (λn s G=>?_) n h;show ku _ A ((compTurn (.ListComp V [#[y,Z,U,0]] d pos) 0 it q env).onRaise (λx=>do noteFrame x env;theTreesLotGoes x)) _ _ s;refine wpAny_noted ?_;rw[compTurn_list];refine QA (QCF (QA (wK (W n s G) (λr k o=>?_) λ_ _ a=>a.elim)));cases r with
 |none=>exact QK o|some v =>
  refine QA (wK o (λ_ u p=>?_) λ_ _ a=>a.elim);refine QA (wK p (λ_ f F=>QA (wK F (λok z i=>?_) λ_ _ a=>a.elim)) λ_ _ a=>a.elim);cases ok with|false=>exact QK #[rfl,i]|true=>exact QA (QA (wK i (λx e E=>QA (wK E (λ_ b C=>QK (QK #[rfl,C])) λ_ _ a=>a.elim)) λ_ _ a=>a.elim))
def C5(B:TI)(g:TG)(tc:TT)(te:TE)(k:Nat)(j:List Bool):TE:=λa H Q=>B a H λJ q=>∃W:Nat->Nat->LV->St->Hp->Prop,(∃m,W 0 m [] (tJ k j a) q) /\
 ∀i m h v u,W i m h v u->(J.stop i u/\h.9<=kb/\∀p,u p=kv->Q (.ref p) (DA u p (.lst h))) ∨
  (J.go i u/\∀x f,J.yld i u x f->g x v f λz o=>tc z o λb e=>if b=kf then te z e λy n=>h.9<kb/\∃w,w < m/\W (i+1) w (h++[y]) z n else ∃w,w < m/\W (i+1) w h z e)
def Hu(X:Cx)(l:AB)(H:Hp)(s:kt)(C:ko):Prop :=
 H C=kv/\C≠X.env.locals/\X.s₀.1.1.size<=C/\(∀x c,X.env.cells.lookup x=jr c->c≠C)/\(∀p∈X.pn++l,p.1≠C)/\∃m,s.1.Ns C m
theorem DU{pos':Pos}{use:Option (kn->Sem Unit)}(hc:X.calm=kf)(hi:PI X K Z B)(C:CompSt X.N X.env.scope d Y j)
  (inner:∀s H ex,PG (EA X d Y j s H ex) K g/\Zu (EA X d Y j s H ex) U tc/\PE (EA X d Y j s H ex) V te)
  (hs:∀x,hB Z X.env x=ak x) {σ:St}{H:Hp}{Q:VK}{QQ:mC}(I:Inv X l σ H s) (h:C5 B g tc te Y.9 j σ H Q)
  (fin:∀(D:ko) (f:Hp) (s6:kt) (F:ko),Inv X l σ f s6->Hu X l f s6 F->Q (.ref D) f->compPost (k0 X.prog X.w) X.A X.xe use QQ (.ref D) F (.ok .next) s6) :
  ku (k0 X.prog X.w) X.A (RB (.ListComp V [#[K,Z,U,0]] d pos) d X.env pos' (tv []) kd (gp Z X.env) use) QQ X.xe s:=by
 refine wpAny_comprehension_free (use:=use) rfl hs (aX (C.cells I.ok)) C.kind C.names (FB (hi l s σ H _ I h) λv s1 h1=>FB h1 λitv s2 h2=>?_);let#[it,a,tn,J,E,e,I2,T,st2,f2,W,#[m0,w0],turn]:=h2;subst e;refine Qy ?_;have I3:Inv X l σ E { s2 with heap:=s2.1.push { cls:=.type "list",data:=.seq ([]:LW).toArray } }:=I2.kept (t':=s2.toks) λb o e=>QH _ e;generalize hS:({ s2 with heap:=s2.1.push { cls:=.type "list",data:=.seq ([]:LW).toArray } }:kt)=s3 at I3;have sz3:s3.1.1.size=s2.1.1.size+1:=by rw[<- hS];exact WG ..
 have lst3:s3.1.PlainList s2.1.1.size ([]:LW).toArray:=#[0,by rw[<- hS];exact QO _ rfl]
 have old3:∀b o,s2.1.get? b=jr o->s3.1.get? b=jr o:=λb o e=>by rw[<- hS];exact QH _ e
 generalize hDd:s2.1.1.size=D at sz3 lst3;have fD:GJ X l E D:=by rw[<- hDd];exact I2.fpOk (QV _) (I2.hok.fresh (QV _))
 have fpl:∀b∈a,b<D:=λb hb=>by let#[o,e,_]:=T.obj _ _ st2 b hb;rw[<- hDd];exact QS e
 have hex:∀b∈D::a,GJ X l E b/\b<s3.1.1.size:=λb hb=>by rcases QL.mp hb with z|z;subst z;exact#[fD,by rw[sz3];exact QCo _];exact#[f2 b z,by rw[sz3];exact WM (fpl b z)]
 refine QBj C.nocell (by intro y hy;simp at hy) (λh' hn hsb=>?_) C.kind;have J0:Inv (EA X d Y j s3 E (D::a)) [] (tJ Y.9 j σ) E { s3 with heap:=h',toks:=s3.toks+([]:List (Str×kn)).9 }:=pX I3 C hex hn hsb;have kept:∀b u,s3.1.get? b=jr u->h'.get? b=jr u:=λb u e=>hsb.extBut b u (Qj (QS e)) (QH _ e);let#[pg,pf,pl]:=inner s3 E (D::a);have loop:∀s4:kt,s4={ s3 with heap:=h',toks:=s3.toks+([]:List (Str×kn)).9 } ->
   mi (k0 X.prog X.w) X.A (.compLoop (.ListComp V [#[K,Z,U,0]] d pos) 0 (.ref it) (.ref D) (compEnvC d (GO X.env d.names []) s3.1.1.size X.env))
    (compPost (k0 X.prog X.w) X.A X.xe use QQ (.ref D) s3.1.1.size) s4:=by
  rintro s4 rfl;have exok:∀{f:Hp},(∀b∈D::a,f b=kv)->∀(pp:AB),(∀p∈pp,p.1∉a)->∀b∈a,GJ (EA X d Y j s3 E (D::a)) pp f b:=λ{f} hn pp hpp b hb=>by have g:=J0.ok.exf b (QE _ hb);exact#[hn b (QE _ hb),g.1,J0.ok.exfs b (QE _ hb),.inl (QE _ hb),g.2,λp G z=>hpp p (by simpa[EA]using G) (z▸hb)]
  have DX:=J0.ok.exf D QD;have Dfp:D∉a:=λz=>qG _ (fpl D z);refine rH (λn M=>∃i m f L k,Inv (EA X d Y j s3 E (D::a)) [] m f M/\tn i M.1/\(∀b∈D::a,f b=kv)/\nA L k/\M.1.PlainList D k.toArray/\W i n L m f) ?_ m0
   #[0,_,E,[],[],J0,T.keep _ _ _ (T.keep _ _ _ st2 λb hb o e=>old3 b o e) λb hb o e=>kept b o e,λb hb=>((hex b hb).1).1,.nil,lst3.at λo e=>kept _ _ e,w0]
  rintro n s5 ⟨i,P,H5,L,k,I5,st5,fr5,va5,ls5,w5⟩;let#[R,lo]:=id ls5;have pinD:∀{m:St}{f:Hp}{M:kt},Inv (EA X d Y j s3 E (D::a)) [] m f M->(∀b∈D::a,f b=kv)->M.1.get? D=jr { cls:=.type "list",dict:=kv,data:=.seq k.toArray R } ->
    Inv (EA X d Y j s3 E (D::a)) [(D,{ cls:=.type "list",dict:=kv,data:=.seq k.toArray R })] m f M:=λ{m f M} I' fr' e' =>
   I'.pins_of λp G=>by
    have e:p=(D,{ cls:=.type "list",dict:=kv,data:=.seq k.toArray R }):=by simpa using G
    subst e;exact#[e',fr' D QD,DX.1,J0.ok.exfs D QD,λv z=>by cases z]
  have S:∀p∈[(D,({ cls:=.type "list",dict:=kv,data:=.seq k.toArray R }:Obj))],p.1∉a:=λp G=>by
   have e:p=(D,{ cls:=.type "list",dict:=kv,data:=.seq k.toArray R }):=by simpa using G
   subst e;exact Dfp
  have I5':=pinD I5 fr5 lo;rcases turn i n L P H5 w5 with⟨stop,hz,qn⟩| ⟨go,step⟩
  refine FB (T.done (EA X d Y j s3 E (D::a)) rfl rfl rfl hc i _ s5 P H5 (λ_ _=>False) I5' (exok fr5 _ S) st5 stop) λr s6 #[hr,I6]=>?_;subst hr;let#[m6,hn6,_]:=I6.loc;have l6:s6.1.PlainList D k.toArray:=#[R,(I6.pin _ (QT _ (QJ.mpr rfl))).1]
  have I6':Inv (EA X d Y j s3 E (D::a)) [] P H5 s6:=I6.pins_of λp G=>by simp at G
  have Iout:Inv X l σ (DA H5 D (.lst L)) s6:=rX I3 hex QD I6' (fr5 D QD) va5 hz l6 (qk.refl _ _);have lC:H5 s3.1.1.size=none:=I6'.free;refine fin D _ s6 s3.1.1.size Iout #[?_,w8 I3.lt,I3.sz,λx c e z=>?_,λp G z=>?_,m6,hn6] (qn D (fr5 D QD));rw[xA (λ(z:s3.1.1.size=D)=>Qe (hex D QD).2 (by rw[z];exact qG _))];exact lC;let#[v,q]:=I3.cell x c e;exact Qe q.lt (by rw[z];exact qG _);exact Qe (QS (I3.pin p G).1) (by rw[z];exact qG _);refine FB (T.item (EA X d Y j s3 E (D::a)) rfl rfl rfl hc i _ s5 P H5 (λ_ _=>False) I5' (exok fr5 _ S) st5 go) λr s6 #[u,hr,h6]=>?_;subst hr;refine FB h6 λ_ s7 #[x,H7,I7,r7,y7,st7,fr7]=>?_;have hD7:=(I7.pin _ (QT _ (QJ.mpr rfl)))
  have fr7':∀b∈D::a,H7 b=none:=λb hb=>by rcases QL.mp hb with z|z;subst z;exact hD7.2.1;exact fr7 b z
  have I7':=I7.pinned (exok fr7' _ S) (T.obj _ _ st7);have bk:∀{m:St}{f:Hp}{M:kt},Inv (EA X d Y j s3 E (D::a)) ([(D,{ cls:=.type "list",dict:=kv,data:=.seq k.toArray R })]++OM a s7.1) m f M ->
    M.1.get? D=jr { cls:=.type "list",dict:=kv,data:=.seq k.toArray R }/\tn (i+1) M.1/\(∀b∈D::a,f b=kv):=λ{m f M} I'=>by
   have hD:=I'.pin (D,{ cls:=.type "list",dict:=kv,data:=.seq k.toArray R }) (QT _ (Qm _ (QJ.mpr rfl)));refine#[hD.1,T.keep _ _ _ st7 λb hb o e=>(I'.pin (b,o) (QT _ (QT _ (fF hb e)))).1,λb hb=>?_];rcases QL.mp hb with z|z;subst z;exact hD.2.1;let#[o,e,_]:=T.obj _ _ st7 b z;exact(I'.pin (b,o) (QT _ (QT _ (fF z e)))).2.1
  refine FB (pg _ s7 P H7 x u _ I7' r7 (step x H7 y7)) λ_ s8 #[O,H8,I8,q8]=>?_;refine FB (pf _ s8 O H8 _ I8 q8) λok s9 #[H9,I9,q9]=>?_;cases ok with
  |false=>let#[m',hm,w']:=q9;let#[b1,b2,b3]:=bk I9;exact#[m',hm,i+1,O,H9,L,k,I9.pins_of λp G=>by simp at G,b2,b3,va5,#[R,b1],w']|true =>
   refine FB (pl _ s9 O H9 _ I9 q9) λy s10 #[yv,H10,I10,r10,hz,m',hm,w']=>?_;let#[b1,b2,b3]:=bk I10;have hlen:=va5.9;refine wpAny_list_append_plain (hsz:=by rw[QM];omega) (show s10.1.PlainList D k.toArray from#[R,b1]) λh11 hl11 hs11=>?_;refine#[m',hm,i+1,O,H10,L++[yv],k++[y],?_,T.keep _ _ _ b2 λb hb o e=>(hs11.2 b (λz=>Dfp (z▸hb))).trans e,b3,va5.append (.cons r10 .nil),by simpa using hl11,w'];have I10':Inv (EA X d Y j s3 E (D::a)) [] O H10 s10:=I10.pins_of λp G=>by simp at G
   exact I10'.turned (t':=s10.toks) (λb o hb e=>(hs11.2 b hb).trans e) (b3 D QD) DX.1 (.inl QD) DX.2 λp G=>by simp[EA]at G
 refine codeAny_compStart_list (loop _ rfl) (T.self X.A 0 _ _ _ (T.keep _ _ _ (T.keep _ _ _ st2 λb hb o e=>old3 b o e) λb hb o e=>kept b o e) (loop _ rfl))
theorem JN{σ:St}{H:Hp}{F:ko}(I:Inv X l σ H s)(f:Hu X l H s F){h':vu}(h:qk F s.1 h'):Inv X l σ H { s with heap:=h' }:=by let#[v,u,z,y,x,_]:=f;exact I.turned (t':=s.toks) (λb o hb e=>(h.2 b hb).trans e) v u (.inr z) y x
theorem fc(hc:X.calm=kf)(w:PI X K Z B)(C:CompSt X.N X.env.scope d Y j)
  (y:∀s H ex,PG (EA X d Y j s H ex) K g/\Zu (EA X d Y j s H ex) U tc/\PE (EA X d Y j s H ex) V te)
  (u:∀x,hB Z X.env x=ak x:=by intro _;rfl):PE X (.ListComp V [#[K,Z,U,0]] d pos) (C5 B g tc te Y.9 j):=by
 intro l s b H Q I h;rw[eval_ListComp];refine DU hc w C y u I h λD a e F k f q=>?_;let#[m,v]:=f.2.2.2.2.2;exact#[m,v,λi z=>#[.ref D,a,JN k f z,rfl,q]]
theorem Tb{cpos u:Pos}{i:Nat}{x:Str}(hc:X.calm=kf)(S:X.N.Nodup)(n:X.N[i]?=jr x)(p:X.env.scope.names.lookup x=jr .local)
  (Q:PI X K Z B) (C:CompSt X.N X.env.scope d Y j)
  (y:∀s H ex,PG (EA X d Y j s H ex) K g/\Zu (EA X d Y j s H ex) U tc/\PE (EA X d Y j s H ex) V te)
  (M:∀x,hB Z X.env x=ak x) (k:lb (.ListComp V [#[K,Z,U,0]] d cpos) (jr (.Name x u)) pos.line X.env=ak kf) :
  PS X (.Assign [.Name x u] (.ListComp V [#[K,Z,U,0]] d cpos) pos) (yj (C5 B g tc te Y.9 j) (lZ i)):=by
 intro l s σ H D0 I h;rw[exec_Assign_Name_used _ _ _ _ k];refine QA (QCF (QA ?_));show ku _ X.A (do let _ <- RB (.ListComp V [#[K,Z,U,0]] d cpos) d X.env _ (tv []) kd (gp Z X.env) (jr (ef (.Name x u) X.env))) _ _ s;refine QA (wK (DU (use:=jr (ef (.Name x u) X.env)) (QQ:=λ_ o=>SP X l D0 .next o) hc Q C y M I h λD H' J F I6 f q=>?_) (λ_ o O=>QK (QK O)) λ_ _ e=>e);show ku _ X.A (ef (.Name x u) X.env (.ref D)) _ _ J;refine QCR (cP I6 S n (.inl p) (v:=.ref D) rfl (λG I7 #[a,E,R]=>?_) (.inr p));let#[f0,W,f2,r,f4,m,P]:=f;have L:F≠a:=by rcases R with z|z;rw[z];exact W;exact λe=>r x a z e.symm
 have w:G.1.Ns F m:=P.sameBut E L;exact#[m,w,λh' b=>#[_,H',JN I7 #[f0,W,f2,r,f4,m,w] b,q]]
end
end L2
namespace L2.L3
open PySem PySem.Spec PyProof.Rows
def Nq(K:QC):R2:=λx y H Q=>match x,y with
 | .int i,.int j=>Q (.int (i+j)) H|.str a,.str b=>a.9+b.9<=kb/\Q (.str (a++b)) H|.ref a,.ref b=>(∃z h,uC K H a z/\uC K H b h/\z.9+h.9<=kb/\∀p,H p=kv->Q (.ref p) (DA H p (.lst (z++h))))∨Hf K (.ref a) (.ref b) H Q|_,_=>False
noncomputable def Zq:R2:=λx y H Q=>match x,y with
 | .int i,.int j=>Q (.int (i - j)) H|_,_=>False
noncomputable def Uq(K:QC):R2:=λx y H Q=>match x,y with
 | .int i,.int j=>l4 i j/\Q (.int (i * j)) H|_,_=>False
noncomputable def Ff:R2:=λx y H Q=>match x,y with
 | .int i,.int j=>(0<j/\j<2 ^ 200)/\Q (.int (i / j)) H|_,_=>False
noncomputable def Bq:R2:=λx y H Q=>match x,y with
 | .int i,.int j=>0<j/\Q (.int (i % j)) H|_,_=>False
section
variable{X:Cx}
theorem op_add:AE X (g7 .Add) (Nq X.K):=by
 intro z s g H x y v u Q I f e h;cases x with
 |int i =>
  cases y with|int j=>exact _root_.L2.op_add z s g H _ _ v u Q I f e #[i,j,rfl,rfl,h]|_=>exact Qg h
 |str a =>
  cases y with|str b=>exact pW z s g H _ _ v u Q I f e #[a,b,rfl,rfl,h.1,h.2]|_=>exact Qg h
 |ref a =>
  cases y with
  |ref b =>
   rcases h with⟨xs,ys,N,M,hz,q⟩| h;cases f;cases e;let#[k,r,#[#[S,R,A,G],L,W,E,d1,p],z1]:=I.list N;let#[w,Y,#[#[B,m,n,l],J,Z,C,d2,o],z2]:=I.list M;simp only at E p C o;subst E p C o;have hl:=r.9;have O:=Y.9;refine QCj #[_,W,rfl] #[_,Z,rfl] noFill_list_add seq_list_add PySem.F.slot_list_add PySem.F.entry_list_add (PySem.F.args_list_add_2 _ _) (list_addW a b k.toArray w.toArray L J R m G l (by simp;omega)) #[W,Z,?_];have P:k.toArray++w.toArray=(k++w).toArray:=by simp
   rw[P];exact#[.ref _,_,I.lnew (t':=s.toks) (r.append Y) (by rw[QI];omega),rfl,q _ I.fresh];exact Xc z s g H _ _ v u Q I f e h
  |_=>exact Qg h
 |_=>exact Qg h
theorem op_sub:AE X (g7 .Sub) Zq:=by
 intro z s w H x y v u Q I a k h;cases x with
 |int i =>
  cases y with|int j=>exact _root_.L2.op_sub z s w H _ _ v u Q I a k #[i,j,rfl,rfl,h]|_=>exact Qg h
 |_=>exact Qg h
theorem Vc:AE X (g7 .FloorDiv) Ff:=by
 intro z s a H x y v u Q I k w h;cases x with
 |int i =>
  cases y with
  |int j =>
   let#[t,rfl]:=k;let#[b,rfl]:=w;let#[#[f,e],q]:=h;refine floordiv_int () ?_ (.inl (PyProof.noPylong_of_log2 ?_));rw[Int.fdiv_eq_ediv_of_nonneg i ()];exact#[.int _,H,I.tok _,#[_,rfl],q];have:j.natAbs<2 ^ 200:=()
   have:=(Nat.log2_lt (show j.natAbs≠0 by omega)).mpr this;omega
  |_=>exact Qg h
 |_=>exact Qg h
theorem op_mod:AE X (g7 .Mod) Bq:=by
 intro z s w H x y v u Q I a k h;cases x with
 |int i =>
  cases y with|int j=>exact _root_.L2.op_mod z s w H _ _ v u Q I a k #[i,j,rfl,rfl,h.1,h.2]|_=>exact Qg h
 |_=>exact Qg h
theorem pk:AE X (g7 .Mult) (Uq X.K):=by
 intro z s a H x y v u Q I k w h;cases x with
 |int i =>
  cases y with|int j=>let#[t,rfl]:=k;let#[b,rfl]:=w;exact mul_int #[.int _,H,I.tok _,#[_,rfl],h.2] h.1|_=>exact Qg h
 |_=>exact Qg h
end
end L2.L3
namespace L2
open PySem PySem.Spec PyProof.Rows
section
variable{x:Type}[DecidableEq x]
section
variable{p:x×V}{r kvs:List (x×V)}{vs:List (x×kn)}{u:kn}
noncomputable def bM(kvs:List (x×V))(k:x):Option V:=(kvs.find? λh=>decide (h.1=k)).map (·.2)
noncomputable def fW(kvs:List (x×V))(k:x)(v:V):List (x×V) :=
 if(kvs.any λh=>decide (h.1=k))=kf then kvs.map (λh=>if h.1=k then(h.1,v) else h) else kvs++[(k,v)]
theorem xM{k:x}(e:p.1=k):bM (p::r) k=jr p.2:=by simp[bM,wV,e]
theorem uM{k:x}(e:¬ p.1=k):bM (p::r) k=bM r k:=by simp[bM,wV,e]
theorem HS(k:x):∀kvs:List (x×V),(kvs.any λh=>decide (h.1=k))=(bM kvs k).isSome
 |[]=>rfl|p::r=>by rw[WL];by_cases e:p.1=k;simp only[xM e,dT e,QCh,Option.isSome_some];rw[uM e,dF e,QA9];exact HS k r
theorem xU(kvs:List (x×V))(k:x)(v:V):(fW kvs k v).9<=kvs.9+1:=by unfold fW;split;rw[QF];omega;rw[QI,QN,wq];omega
theorem mV.isSome_eq{o:Option V}{u:Option kn}(r:mV o u):o.isSome=u.isSome:=by
 cases o with
 |none=>cases u with|none=>rfl|some _=>exact(show False from r).elim
 |some _=>cases u with|none=>exact(show False from r).elim|some _=>rfl
theorem KV.val(r:KV kvs vs)(k:x):mV (bM kvs k) (lp vs k):=by
 unfold KV at r;induction r with
 |nil=>exact True.intro|@cons p q g y h t a =>
  let#[w,f]:=h;by_cases e:p.1=k;have v:q.1=k:=w.symm.trans e;have b:lp (q::y) k=jr q.2:=by simp[lp,wV,v]
  rw[xM e,b];exact f;have v:¬ q.1=k:=λz=>e (w.trans z);have b:lp (q::y) k=lp y k:=by simp[lp,wV,v]
  rw[uM e,b];exact a
theorem KV.any(r:KV kvs vs)(k:x):(kvs.any λy=>decide (y.1=k))=vs.any λy=>decide (y.1=k):=by
 unfold KV at r;induction r with|nil=>rfl|cons h t z=>rw[WL,WL,z,h.1]
theorem KV.repl(r:KV kvs vs)(k:x){y:V}(a:aA y u) :
  KV (kvs.map λv=>if v.1=k then(v.1,y) else v) (vs.map λv=>if v.1=k then(v.1,u) else v):=by
 unfold KV at r ⊢;induction r with|nil=>exact .nil|@cons p q i g h t b=>rw[QX,QX];refine .cons ?_ b;let#[w,f]:=h;by_cases e:p.1=k;rw[Qc e,Qc (w.symm.trans e)];exact#[w,a];rw[QB e,QB (λz=>e (w.trans z))];exact#[w,f]
theorem KV.put(r:KV kvs vs)(k:x){y:V}(h:aA y u):KV (fW kvs k y) (stored vs k u):=by unfold fW stored;rw[r.any k];by_cases e:(vs.any λz=>decide (z.1=k))=kf;rw[Qc e,Qc e];exact r.repl k h;rw[QB e,QB e];exact Paired.snoc r #[rfl,h]
theorem KV.length(r:KV kvs vs):kvs.9=vs.length:=qP r
end
end
theorem sN{P:k5}{w:xb}{k:Key}{u:kn}(r:aA (kV k) u):(zE P w).is k u=true:=by
 cases k with|inl i=>let#[t,e]:=(show ∃t,u=Value.int i t from r);subst e;exact AT P w i t|inr x=>let#[t,e]:=(show ∃t,u=Value.str x t from r);subst e;exact RT P w x t
end L2
namespace L2.L3
open PySem PySem.Spec PyProof.Rows
section
variable{r kvs:List KE}{xs:List (NK×ko×kn)}
noncomputable abbrev KE:=NK×ko×V
noncomputable def lH(kvs:List KE)(k:NK):Option V:=(kvs.find? λp=>decide (p.1=k)).map (·.2.2)
def ZM(kvs:List KE)(k:NK)(b:ko)(v:V):List KE :=
 if(lH kvs k).isSome=kf then kvs.map (λp=>if p.1=k then(p.1,p.2.1,v) else p) else kvs++[(k,b,v)]
noncomputable abbrev KD:List KE->List (NK×ko×kn)->Prop:=xm λ(p:NK×ko×V) (q:NK×ko×kn)=>p.1=q.1/\p.2.1=q.2.1/\aA p.2.2 q.2.2
theorem MS{p:KE}{k:NK}(e:p.1=k):lH (p::r) k=jr p.2.2:=by simp[lH,wV,e]
theorem NS{p:KE}{k:NK}(e:¬ p.1=k):lH (p::r) k=lH r k:=by simp[lH,wV,e]
theorem KD.val(r:KD kvs xs)(k:NK):mV (lH kvs k) ((eH xs k).map (·.2)):=by
 induction r with
 |nil=>exact True.intro|@cons p q a x h t v =>
  let#[u,_,w]:=h;by_cases e:p.1=k;have y:q.1=k:=u.symm.trans e;have b:eH (q::x) k=jr q.2:=by simp[eH,wV,y]
  rw[MS e,b];exact w;have y:¬ q.1=k:=λz=>e (u.trans z);have b:eH (q::x) k=eH x k:=by simp[eH,wV,y]
  rw[NS e,b];exact v
theorem KD.put(r:KD kvs xs)(k:NK)(b:ko){y:V}{u:kn}(v:aA y u):KD (ZM kvs k b y) (th xs k b u):=by
 have e:(lH kvs k).isSome=(eH xs k).isSome:=by rw[(r.val k).isSome_eq,QA2]
 unfold ZM th;rw[e];by_cases q:(eH xs k).isSome=kf;rw[Qc q,Qc q];clear e q;induction r with|nil=>exact .nil|@cons p q i g h t a=>rw[QX,QX];refine .cons ?_ a;let#[x,w,f]:=h;unfold putAt;by_cases e:p.1=k;rw[Qc e,Qc (x.symm.trans e)];exact#[x,w,v];rw[QB e,QB (λz=>e (x.trans z))];exact#[x,w,f]
 rw[QB q,QB q];exact Paired.snoc r #[rfl,rfl,v]
theorem uU(kvs:List KE)(k:NK)(b:ko)(v:V):(ZM kvs k b v).9<=kvs.9+1:=by unfold ZM;split;rw[QF];omega;rw[QI,QN,wq];omega
end
mutual
def Vo(K:QC)(H:Hp):NK->V->Prop
 | .s x,v=>v=.str x|.t ks,v=>∃a h,v=.ref a/\rD K H a h/\KyVs K H ks h
def KyVs(K:QC)(H:Hp):List NK->LV->Prop
 |[],xs=>xs=[]|k::ks,xs=>∃x r,xs=x::r/\Vo K H k x/\KyVs K H ks r
end
def yP(K:QC)(H:Hp)(b:ko)(k:NK):Prop:=Vo K H k (.ref b)/\L7 k<=6
theorem uJ{P:k5}{w:xb}{A:x0}(h:A.units+60<gl):(uF P w).room A.in1:=by show A.in1.units+8<gl;rw[QBI];omega
def HG(K:QC)(H:Hp)(kvs:List KE):Prop:=∀p∈kvs,yP K H p.2.1 p.1
theorem Inv.big{X:Cx}{x:AB}{σ:St}{H:Hp}{s:kt}(I:Inv X x σ H s):zl<s.1.1.size:=by have h:k4<s.1.1.size:=(I.mod.glob.keeps I.bk).lt;exact QAi (by decide) h
section
variable{X:Cx}{y:AB}{σ:St}{H:Hp}{s:kt}{a b:ko}
mutual
theorem Bs(I:Inv X y σ H s):∀{k:NK}{x:V}{u:kn},Vo X.K H k x->aA x u->B4 s.1 k u
 | .s z,x,u,e,r=>by cases(show x=.str z from e);exact r|.t ks,x,u,#[a,xs,e,q,p],r=>by subst e;cases r;let#[h,v,#[o,g,f,n,w],_]:=I.tuple q;exact#[a,h.toArray,rfl,#[o,g,f,n,w],by simpa using ky_vs I p v]
theorem ky_vs(I:Inv X y σ H s):∀{ks:List NK}{xs:LV}{us:LW},KyVs X.K H ks xs->nA xs us->NKvs s.1 ks us
 |[],xs,us,e,r=>by cases(show xs=[] from e);cases r;rfl|k::ks,xs,us,#[x,r,e,p,q],rv=>by
  subst e;cases rv with|cons h t=>exact#[_,_,rfl,Bs I p h,ky_vs I q t]
end
theorem fU{k:NK}(I:Inv X pins σ H s)(h:yP X.K H b k):(uF X.prog X.w).is s.1 k b:=#[Bs I h.1 rfl,h.2]
theorem bL{ep:Nat}{kvs:List KE}(I:Inv X pins σ H s)(e:H a=jr (.dT ep kvs))(hk:HG X.K H kvs):kvs.9<=kb/\(a==zl)=kd/\∃xs,KD kvs xs/\s.1.DictOfH (uF X.prog X.w) a xs:=by
 let#[z,y,xs,r,o,l,j,i,g,k,v]:=(show BA X.prog X.w H s.1 a (.dT ep kvs) from I.hok a _ e)
 refine#[z,y,xs,r,o,l,ep,j,i,g,k,?_,v];clear k v z e;induction r with
 |nil=>intro x h;exact nomatch h
 |@cons p q n m u t b=>intro x h;rcases QL.mp h with e|h;subst e;rw[<- u.1,<- u.2.1];exact fU I (hk p QD);exact b (λp f=>hk p (QE _ f)) x h
theorem UU{kvs:List (Key×V)}(I:Inv X pins σ H s)(e:H a=jr (.dK kvs)):kvs.9<=kb/\(a==zl)=kd/\∃vs,KV kvs vs/\s.1.DictOf (zE X.prog X.w) a vs :=
 show BA X.prog X.w H s.1 a (.dK kvs) from I.hok a _ e
end
theorem l9{X:Cx}{h:AB}{σ:St}{H:Hp}{s:kt}{a:ko}{ep:Nat}(I:Inv X h σ H s)(e:H a=jr (.dT ep [])):(a==zl)=kd/\s.1.DictOf (zE X.prog X.w) a []:=by
 let#[z,y,g,r,o,f,b,k,v,u,i]:=(show BA X.prog X.w H s.1 a (.dT ep []) from I.hok a _ e)
 cases r;have x:f=#[]:=by apply WU.mp;simpa using u
 subst x;exact#[y,o,#[],ep,b,k,v,λe x=>by simp at x,.nil,Q7]
def kD:Key->x2
 | .inl i=>.int i|.inr x=>.str x
mutual
def tD:NK->x2
 | .s x=>.str x|.t h=>.tuple (tDs h)
def tDs:List NK->List x2
 |[]=>[]|k::ks=>tD k::tDs ks
end
theorem Z8{a b:Key}(e:kD a=kD b):a=b:=by
 cases a with
 |inl i=>cases b with|inl j=>injection e with e;rw[e]|inr y=>exact nomatch (show j1 i=j0 y from e)
 |inr x=>cases b with
  |inl j=>exact nomatch (show j0 x=j1 j from e)
  |inr y=>injection e with e;rw[e]
mutual
theorem RV:∀{a b:NK},tD a=tD b->a=b
 | .s x,.s y,e=>by rw[PyData.str.inj e]|.s x,.t l,e=>QCJ e|.t k,.s y,e=>QCJ e|.t k,.t l,e=>by rw[tDs_inj (PyData.tuple.inj e)]
theorem tDs_inj:∀{a b:List NK},tDs a=tDs b->a=b
 |[],[],_=>rfl|[],_::_,e=>(nomatch e)
 |_::_,[],e=>(nomatch e)
 |x::xs,y::ys,e=>by have e:tD x::tDs xs=tD y::tDs ys:=e;injection e with e1 e2;rw[RV e1,tDs_inj e2]
end
def HK(K:QC)(H:Hp)(b:Bool)(o:HO)(ks:List x2)(vs:LV):Prop:=match b with
 |true=>∃x,∃h:List KE,o=.dT x h/\ks=h.map (λp=>tD p.1)/\vs=h.map (·.2.2)/\HG K H h/\(h.map (·.1)).Nodup|false=>(∃h:List (Key×V),h≠[]/\o=.dK h/\ks=h.map (λp=>kD p.1)/\vs=h.map (·.2)/\(h.map (·.1)).Nodup)∨∃x,o=.dT x []/\ks=[]/\vs=[]
theorem HK.len{K:QC}{H:Hp}{b:Bool}{o:HO}{ks:List x2}{vs:LV}(h:HK K H b o ks vs):ks.9=vs.length:=by
 cases b with|true=>let#[y,x,_,rfl,rfl,_]:=h;simp|false=>rcases h with⟨x,_,_,rfl,rfl,_⟩| ⟨_,_,rfl,rfl⟩<;>simp
def iS(K:QC)(H:Hp)(a:ko)(y:V)(r:Option V):Prop:=match y with
 | .str z=>(∃h,H a=jr (.dK h)/\r=bM h (.inr z))∨∃x,H a=jr (.dT x [])/\r=kv|.ref b=>∃x h k,H a=jr (.dT x h)/\HG K H h/\yP K H b k/\r=lH h k|_=>False
def Fo(K:QC)(H:Hp)(a:ko)(y v:V)(Q:Hp->Prop):Prop:=match y with
 | .str z=>(∃h,H a=jr (.dK h)/\h.9<kb/\Q (DA H a (.dK (fW h (.inr z) v))))∨∃u,H a=jr (.dT u [])/\Q (DA H a (.dK [(.inr z,v)]))|.ref b=>∃u h k,H a=jr (.dT u h)/\HG K H h/\yP K H b k/\h.9<kb/\∀x,Q (DA H a (.dT x (ZM h k b v)))|_=>False
theorem oP{v:V}{o:Option kn}(r:mV (jr v) o):∃w,o=jr w/\aA v w:=by
 cases o with|none=>exact(show False from r).elim|some w=>exact#[w,rfl,r]
section
variable{X:Cx}
section
variable{c:AB}{s:kt}{σ:St}{H:Hp}{a:ko}{u:kn}{o:Option V}{h':vu}{pos:Pos}
theorem Sd(P:X.A.units+66<gl):aa X (λx y H Q=>∃a v,x=.ref a/\iS X.K H a y (jr v)/\Q v H):=by
 intro n Y c s σ H x y v u Q I J C h E;let#[a,r,rfl,g,q]:=h;cases J;cases y with
 |str z =>
  rcases g with⟨W,e,l⟩| ⟨N,e,l⟩
  rotate_left
  cases l;let#[_,M,G,f,m]:=UU I e;let#[i,B,w]:=oP (v:=r) (o:=lp G (.inr z)) (by rw[l];exact f.val _);exact q0 (x:=i) m.typeIs QAs.lookup
   (wpAny_getItem_of (Q:=λr Z=>r=i/\EP X c σ Q r Z) (sN (k:=.inr z) C) m.mapOf B #[rfl,r,H,I.tok _,w,q]) E
 |ref b =>
  let#[N,W,k,e,hk,O,l]:=g;cases C;let#[_,M,F,f,m]:=bL I e hk;let#[i,B,w]:=oP (v:=r) (o:=(eH F k).map (·.2)) (by rw[l];exact f.val _);let#[p,L,j]:=Option.map_eq_some_iff.mp B;refine q0 (x:=i) m.typeIs QAs.lookup
   (wpAny_getItem_heap (Q:=λr Z=>r=i/\EP X c σ Q r Z) (uJ ()) (fU I O) m L ?_) E
  exact#[j,r,H,I.tok _,by rw[j];exact w,q]
 |_=>exact Qg g
theorem ye(r:X.A.units+66<gl){y:V}{Q:VK}(I:Inv X c σ H s)(f:aA y u)(g:iS X.K H a y o)(q:Q (.bl o.isSome) H) :
  ku (k0 X.prog X.w) X.A (vx .In u (.ref a)) (EP X c σ Q) X.xe s:=by
 cases y with
 |str z =>
  rcases g with⟨i,e,l⟩| ⟨j,e,l⟩
  rotate_left
  subst l;let#[x,v]:=l9 I e;exact wpAny_in_of (sN (k:=.inr z) f) x v.mapOf #[.bl kd,H,I.tok _,rfl,q];let#[_,x,p,h,v]:=UU I e;refine wpAny_in_of (sN (k:=.inr z) f) x v.mapOf #[.bl o.isSome,H,I.tok _,?_,q];rw[<- (h.val (.inr z)).isSome_eq,<- l];rfl
 |ref b=>let#[j,i,k,e,hk,m,l]:=g;cases f;let#[_,x,n,h,v]:=bL I e hk;refine wpAny_in_heap (uJ ()) (fU I m) x v #[.bl o.isSome,H,I.tok _,?_,q];have q:=(h.val k).isSome_eq;rw[QA2]at q;rw[<- q,<- l];rfl|_=>exact Qg g
theorem JW(r:X.A.units+66<gl){y:V}{Q:VK}(I:Inv X c σ H s)(f:aA y u)(g:iS X.K H a y o)(q:Q (.bl (!o.isSome)) H) :
  ku (k0 X.prog X.w) X.A (vx .NotIn u (.ref a)) (EP X c σ Q) X.xe s:=by
 cases y with
 |str z =>
  rcases g with⟨i,e,l⟩| ⟨j,e,l⟩
  rotate_left
  subst l;let#[x,v]:=l9 I e;exact ni (sN (k:=.inr z) f) x v.mapOf #[.bl kf,H,I.tok _,rfl,q];let#[_,x,p,h,v]:=UU I e;refine ni (sN (k:=.inr z) f) x v.mapOf #[.bl (!o.isSome),H,I.tok _,?_,q];rw[<- (h.val (.inr z)).isSome_eq,<- l];rfl
 |ref b=>let#[j,i,k,e,hk,m,l]:=g;cases f;let#[_,x,n,h,v]:=bL I e hk;refine wpAny_notIn_heap (uJ ()) (fU I m) x v #[.bl (!o.isSome),H,I.tok _,?_,q];have q:=(h.val k).isSome_eq;rw[QA2]at q;rw[<- q,<- l];rfl|_=>exact Qg g
theorem ER{t':Nat}{ob:HO}(I:Inv X c σ H s)(h:zp (H a))(y:qk a s.1 h')(v:∃q,h'.get? a=jr q)(new:BA X.prog X.w (DA H a ob) h' a ob) :
  Inv X c σ (DA H a ob) { s with heap:=h',toks:=t' } :=
 I.write (x:=a) (e:=a) h (.inl rfl) (λb q hb z=>(y.2 b hb).trans z) v new
theorem BN{t':Nat}{kvs:List KE}{xs:List (NK×ko×kn)}(I:Inv X c σ H s)(y:zp (H a))(k:(a==zl)=kd)(z:kvs.9<=kb)(h:KD kvs xs)
  (j:h'.DictOfH (uF X.prog X.w) a xs) (v:qk a s.1 h'):∃ep,Inv X c σ (DA H a (.dT ep kvs)) { s with heap:=h',toks:=t' }:=by
 let#[q,i,ep,x,g,f,e,_,b]:=j;exact#[ep,ER I y v #[q,x] #[z,k,xs,h,q,i,x,g,f,e,b]]
def setD(K:QC)(o y v:V)(H:Hp)(Q:Hp->Prop):Prop:=match o with
 | .ref a=>Fo K H a y v Q|_=>False
theorem xT(M:X.A.units+66<gl):zf X (setD X.K):=by
 intro c s σ H o y v J L u Q I W n m h;cases o with
 |ref a =>
  cases W;cases y with
  |str z =>
   rcases h with⟨f,e,l,q⟩| ⟨B,e,q⟩
   rotate_left
   let#[i,j]:=l9 I e;refine QB0 (hsz:=Qn _) (sN (k:=.inr z) n) j λh' x g=>#[_,?_,q]
   have Y:∃q,h'.get? a=jr q:=let#[q,_,_,r,_]:=x;#[q,r]
   exact ER I (by rw[e];exact True.intro) g Y #[by simp;decide,i,_,.cons #[rfl,m] .nil,x];let#[p,i,G,w,j]:=UU I e;have hl:(fW f (.inr z) v).9<=sizeLine:=by have:=xU f (.inr z) v;omega
   refine QB0 (hsz:=by rw[<- w.9];exact p) (sN (k:=.inr z) n) j λh' x g=>#[_,?_,q]
   have Y:∃q,h'.get? a=jr q:=let#[q,_,_,r,_]:=x;#[q,r]
   exact ER I (by rw[e];exact True.intro) g Y #[hl,i,_,w.put _ m,x]
  |ref b =>
   let#[B,f,k,e,hk,C,l,q]:=h;cases n;let#[p,i,F,w,j]:=bL I e hk;have hl:(ZM f k b v).9<=sizeLine:=by have:=uU f k b v;omega
   refine wpAny_setItem_heap (hsz:=by rw[<- qP w];exact p) (uJ ()) (fU I C) j λh' x g=>?_;let#[Z,E]:=BN (t':=_) I (by rw[e];exact True.intro) i hl (w.put k b m) x g;exact#[_,E,q Z]
  |_=>exact Qg h
 |_=>exact Qg h
theorem Rg{P:k5}{w:xb}(h:vu)(hb:zl<h.1.size):BA P w H (h.push { cls:=.type "dict",data:=.dict #[] }) h.1.size (.dT 0 []) :=
 #[Qn _,beq_eq_false_iff_ne.mpr (qC (Qj hb)),[],.nil,_,#[],QO _ rfl,#[rfl,rfl,rfl],rfl,rfl,Q7]
theorem cc:PE X (.Dict [] [] pos) (λ_ H Q=>∀p,H p=kv->Q (.ref p) (DA H p (.dT 0 []))):=λc s σ H Q I h =>
 wpAny_Dict_empty #[.ref s.1.1.size,_,I.laid (a:=s.1.1.size) (o:=.dT 0 []) (t':=s.toks) (λ_ _ q=>QH _ q) (QV _) (Rg s.1 (Inv.big I)),rfl,h _ (I.hok.fresh (QV _))]
theorem bc(hu:X.A.units+66<gl){k v:Expr}{l j:TE}(hk:PE X k l)(hv:PE X v j) :
  PE X (.Dict [jr k] [v] pos) (λσ H Q=>∀p,H p=kv->l σ (DA H p (.dT 0 [])) λy i=>j σ i λv h=>h p=jr (.dT 0 [])/\∃b ks,y=.ref b/\yP X.K h b ks/\∀ep,Q (.ref p) (DA h p (.dT ep [(ks,b,v)]))):=by
 intro c s σ H Q I q;have E:=I.hok.fresh (QV s.1.1.size);have N:=I.laid (a:=s.1.1.size) (o:=.dT 0 []) (h':=s.1.push { cls:=.type "dict",data:=.dict #[] }) (t':=s.toks) (λ_ _ q=>QH _ q) (QV _) (Rg s.1 (Inv.big I));refine wpAny_Dict_any rfl rfl (by simp) (by simp) (pairTrees_cons_walk (FB (hk c _ σ _ _ N (q _ E)) λu n #[y,i,M,Y,W]=>FB (hv c n σ i _ M W) λm R #[z,h,g,r,e,b,ks,G,J,Z]=>pairTrees_nil_walk ?_));subst G;cases Y;let#[S,F,P,x,L]:=bL g e (λp C=>nomatch C);cases x;show ku _ _ (forIn [(kx b,m)] PUnit.unit _) _ _ _;rw[QAT];refine QA (QA (wpAny_dictSet_heap (hsz:=Qn _) (show X.A.units+8<gl by omega) (fU g J) L λh' f B=>QK ?_));show ku _ _ (forIn ([]:List (kn×kn)) _ _) _ _ _;rw[QBr];let#[w,O]:=BN (t':=_) (kvs:=[(ks,b,z)]) g (by rw[e];exact True.intro) F (by simp;decide) (.cons #[rfl,rfl,r] .nil) f B;exact QK #[.ref _,_,O,rfl,Z w]
end
end
mutual
inductive Rep(K:QC)(H:Hp):V->x2->Prop where
 |non:Rep K H .non .none
 |bl (b:Bool):Rep K H (.bl b) (.bool b)
 |int (i:Int):Rep K H (.int i) (.int i)
 |str (x:Str):Rep K H (.str x) (.str x)
 |lst {a:ko}{xs:LV}{ds:List x2}:uC K H a xs->Reps K H xs ds->Rep K H (.ref a) (.list ds)
 |tup {a:ko}{xs:LV}{ds:List x2}:rD K H a xs->Reps K H xs ds->Rep K H (.ref a) (.tuple ds)
 |dct {b:Bool}{a:ko}{o:HO}{ks:List x2}{xs:LV}{ds:List x2}:H a=jr o->HK K H b o ks xs->Reps K H xs ds->Rep K H (.ref a) (.dict (ks.zip ds))
inductive Reps(K:QC)(H:Hp):LV->List x2->Prop where
 |nil:Reps K H [] []
 |cons {x:V}{d:x2}{xs:LV}{ds:List x2}:Rep K H x d->Reps K H xs ds->Reps K H (x::xs) (d::ds)
end
section
variable{K:QC}{H:Hp}{R:LV->List x2->Prop}{xs:LV}{ds:List x2}
theorem Rep.both{P:V->x2->Prop}(z:P .non .none)(v:∀b,P (.bl b) (.bool b))(int:∀i,P (.int i) (.int i))(str:∀x,P (.str x) (.str x))
    (lst:∀{a:ko}{xs:LV}{ds:List x2},uC K H a xs->Reps K H xs ds->R xs ds->P (.ref a) (.list ds))
    (tup:∀{a:ko}{xs:LV}{ds:List x2},rD K H a xs->Reps K H xs ds->R xs ds->P (.ref a) (.tuple ds))
    (dct:∀{b:Bool}{a:ko}{o:HO}{ks:List x2}{xs:LV}{ds:List x2},H a=jr o->HK K H b o ks xs->Reps K H xs ds->R xs ds->P (.ref a) (.dict (ks.zip ds)))
    (u:R [] []) (y:∀{x:V}{d:x2}{xs:LV}{ds:List x2},Rep K H x d->Reps K H xs ds->P x d->R xs ds->R (x::xs) (d::ds)) :
    (∀{x:V}{d:x2},Rep K H x d->P x d)/\∀{xs:LV}{ds:List x2},Reps K H xs ds->R xs ds :=
  #[λh=>Rep.rec (motive_1:=λx d _=>P x d) (motive_2:=λx d _=>R x d) z v int str @lst @tup @dct u @y h,
   λh=>Reps.rec (motive_1:=λx d _=>P x d) (motive_2:=λx d _=>R x d) z v int str @lst @tup @dct u @y h]
theorem Reps.ind(z:R [] [])(y:∀{x:V}{d:x2}{xs:LV}{ds:List x2},Rep K H x d->R xs ds->R (x::xs) (d::ds))(h:Reps K H xs ds):R xs ds :=
 (Rep.both (P:=λ_ _=>True) trivial (λ_=>trivial) (λ_=>trivial) (λ_=>trivial) (λ_ _ _=>trivial) (λ_ _ _=>trivial) (λ_ _ _ _=>trivial) z λh _ _ r=>y h r).2 h
theorem Reps.length(h:Reps K H xs ds):xs.9=ds.length:=Reps.ind (R:=λxs ds=>xs.9=ds.9) rfl (λ_ e=>wy Nat.succ e) h
end
section
variable{X:Cx}{y:AB}{σ:St}{H:Hp}{s:kt}
mutual
theorem CT{h:vu}:∀{k:NK}{u:kn},B4 h k u->∃z,Reads h u (tD k) z
 | .s x,u,#[t,e]=>by subst e;exact#[_,.str x t]|.t ks,u,#[a,its,e,#[o,e1,c,n,d],q]=>by subst e;let#[z,v]:=nks_reads q;exact#[_,.tuple e1 c d v]
theorem nks_reads{h:vu}:∀{ks:List NK}{us:LW},NKvs h ks us->∃x,lj h us (tDs ks) x
 |[],us,e=>by cases(show us=[] from e);exact#[_,.nil]|k::ks,us,#[v,r,e,p,q]=>by subst e;let#[x,u]:=CT p;let#[bs,z]:=nks_reads q;exact#[_,.cons u z]
end
section
variable{kvs:List (Key×V)}{xs:List (NK×ko×kn)}{vs:List (Key×kn)}
theorem f6(I:Inv X pins σ H s){kvs:List KE}(r:KD kvs xs)(hk:HG X.K H kvs):∃z,lj s.1 (xs.map λx=>.ref x.2.1) (kvs.map λp=>tD p.1) z:=by
 induction r with|nil=>exact#[_,.nil]|@cons p x _ _ h t u=>let#[z,q]:=u λp v=>hk p (QE _ v);let#[bs,y]:=CT (fU I (hk p QD)).1;rw[h.2.1]at y;exact#[_,.cons y q]
theorem mT{P:k5}{w:xb}{es:List c0}(hk:KV kvs vs)(u:Pairs (zE P w) es vs):(∃v,lj s.1 (es.map (·.key)) (kvs.map λp=>kD p.1) v)/\es.map (·.val)=vs.map (·.2):=by
 unfold KV at hk;induction hk generalizing es with
 |nil=>cases u;exact#[#[_,.nil],rfl]|cons h t e =>
  cases u with
  |cons a b c =>
   let#[#[v,q],k]:=e c;refine#[?_,by rw[QX,QX,k,b]];rw[QX,QX];rw[<- h.1]at a;rcases jB a with⟨i,t,z,y⟩| ⟨x,t,z,y⟩
   rw[z,y];exact#[_,.cons (.int i t) q];rw[z,y];exact#[_,.cons (.str x t) q]
theorem jb{kvs:List KE}(r:KD kvs xs):nA (kvs.map (·.2.2)) (xs.map (·.2.2)):=by
 induction r with|nil=>exact .nil|cons h _ x=>exact .cons h.2.2 x
theorem Ia(r:KV kvs vs):nA (kvs.map (·.2)) (vs.map (·.2)):=by
 induction r with|nil=>exact .nil|cons h _ x=>exact .cons h.2 x
theorem j4(I:Inv X pins σ H s){b:Bool}{a:ko}{o:HO}{ks:List x2}{xs:LV}(h:H a=jr o)(q:HK X.K H b o ks xs):∃ob es ep us,s.1.get? a=jr ob/\ob.cls=.type "dict"/\ob.dict=kv/\ob.data=.dict es ep/\(a==zl)=kd /\
  (∃j,lj s.1 (es.toList.map (·.key)) ks j)/\nA xs us/\es.toList.map (·.val)=us:=by
 cases b with
 |true=>let#[e,kvs,rfl,rfl,rfl,hk,_]:=q;let#[_,v,f,x,ob,es,ep,k,y,w,u,_]:=bL I h hk;refine#[ob,es,ep,_,k,y.1,y.2.1,w,v,?_,jb x,?_];rw[u,Qa];exact f6 I x hk;rw[u,Qa];rfl|false =>
  rcases q with⟨kvs,_,rfl,rfl,rfl,_⟩| ⟨e,rfl,rfl,rfl⟩
  rotate_left
  let#[_,v,f,x,ob,es,ep,k,y,w,u,_]:=bL I h λ_ z=>nomatch z;cases x;exact#[ob,es,ep,[],k,y.1,y.2.1,w,v,#[_,by rw[u];exact .nil],.nil,by rw[u];rfl];let#[_,v,vs,x,ob,es,ep,k,y,w,_,u,_]:=UU I h;let#[i,g]:=mT (s:=s) x u;exact#[ob,es,ep,_,k,y.1,y.2.1,w,v,i,Ia x,g]
theorem Rep.reads2(I:Inv X pins σ H s):(∀{x:V}{d:x2},Rep X.K H x d->∀u,aA x u->∃y,Reads s.1 u d y)/\∀{xs:LV}{ds:List x2},Reps X.K H xs ds->∀us,nA xs us->∃y,lj s.1 us ds y:=by
 refine Rep.both (P:=λx d=>∀u,aA x u->∃y,Reads s.1 u d y) (R:=λxs ds=>∀us,nA xs us->∃y,lj s.1 us ds y) (λu r=>?_) (λb u r=>?_) (λi u r=>?_) (λx u r=>?_) (λh q v u r=>?_) (λh q v u r=>?_) (λ{b a o w xs ds} h q r v u l=>?_) (λus r=>?_) λ_ _ p m us r=>?_;cases r;exact#[_,.none];cases r;exact#[_,.bool b];let#[t,rfl]:=r;exact#[_,.int i t];let#[t,rfl]:=r;exact#[_,.str x t];cases r;let#[g,k,#[o,n,e,c,_,d],_]:=I.list h;let#[y,z]:=v _ k;exact#[_,.list e c d (by simpa using z)];cases r;let#[g,k,#[o,e,c,n,d],_]:=I.tuple h;let#[y,z]:=v _ k;exact#[_,.tuple e c d (by simpa using z)];cases l;let#[ob,L,M,us,C,B,J,A,G,#[y,W],Z,Y]:=j4 I h q;let#[bs,f]:=v _ Z;have hl:w.9=ds.length:=by rw[q.len,Reps.length r]
 have F:(w.zip ds).map (λx=>x.1)=w:=QAH (WH hl);have E:(w.zip ds).map (λx=>x.2)=ds:=WV (WH hl.symm);exact#[_,.dict C B A (by rw[F];exact W) (by rw[E,Y];exact f)];cases r;exact#[_,.nil];cases r with|cons r j=>let#[y,z]:=p _ r;let#[bs,f]:=m _ j;exact#[_,.cons z f]
theorem Rep.reads(I:Inv X pins σ H s){x:V}{d:x2}{u:kn}(h:Rep X.K H x d)(r:aA x u):∃y,Reads s.1 u d y:=(Rep.reads2 I).1 h u r
def BE(d:x2):Prop:=d.canLay0=kf/\d.depth<=64
noncomputable def rEq(K:QC)(neg:Bool):R2:=λx y H Q=>match x,y with
 | .int i,.int j=>Q (.bl (if neg then !decide (i=j) else decide (i=j))) H|.str a,.str b=>Q (.bl (if neg then !decide (a=b) else decide (a=b))) H|.bl a,.bl b=>Q (.bl (if neg then !decide (a=b) else decide (a=b))) H|x,y=>∃z h,Rep K H x z/\Rep K H y h/\BE z/\BE h/\Q (.bl (if neg then !PyData.eqv z h else Qo z h)) H
theorem op_eq(C:X.A.units+64<gl):AE X (vx .Eq) (rEq X.K kd):=by
 intro z s g H x y v u Q I o n h;have k:(∃f e,Rep X.K H x f/\Rep X.K H y e/\BE f/\BE e/\Q (.bl (if kd=kf then !PyData.eqv f e else Qo f e)) H)->ku (k0 X.prog X.w) X.A (vx .Eq v u) (EP X z g Q) X.xe s:=by rintro⟨f,e,m,l,⟨Z,B⟩,⟨Y,W⟩,q⟩;let#[E,r]:=m.reads I o;let#[bs,p]:=l.reads I n;exact SeqAt.compareEq_reads r p Z Y () #[.bl _,H,I,rfl,q]
 have sc:Fb x y=kf->Q (.bl (decide (x=y))) H->ku (k0 X.prog X.w) X.A (vx .Eq v u) (EP X z g Q) X.xe s:=λm l=>_root_.L2.op_eq z s g H x y v u Q I o n #[m,l];cases x with
 |int i =>
  cases y with|int j=>exact sc rfl (by simpa[rEq]using h)|_=>exact k h
 |str a =>
  cases y with|str b=>exact sc rfl (by simpa[rEq]using h)|_=>exact k h
 |bl a =>
  cases y with|bl b=>exact sc rfl (by simpa[rEq]using h)|_=>exact k h
 |_=>exact k h
theorem op_ne(C:X.A.units+64<gl):AE X (vx .NotEq) (rEq X.K kf):=by
 intro z s g H x y v u Q I o n h;have k:(∃f e,Rep X.K H x f/\Rep X.K H y e/\BE f/\BE e/\Q (.bl (if kf=kf then !PyData.eqv f e else Qo f e)) H)->ku (k0 X.prog X.w) X.A (vx .NotEq v u) (EP X z g Q) X.xe s:=by rintro⟨f,e,m,l,⟨Z,B⟩,⟨Y,W⟩,q⟩;let#[E,r]:=m.reads I o;let#[bs,p]:=l.reads I n;exact SeqAt.compareNe_reads r p Z Y () #[.bl _,H,I,rfl,q]
 have sc:Fb x y=kf->Q (.bl (!decide (x=y))) H->ku (k0 X.prog X.w) X.A (vx .NotEq v u) (EP X z g Q) X.xe s:=λm l=>_root_.L2.op_ne z s g H x y v u Q I o n #[m,l];cases x with
 |int i =>
  cases y with|int j=>exact sc rfl (by simpa[rEq]using h)|_=>exact k h
 |str a =>
  cases y with|str b=>exact sc rfl (by simpa[rEq]using h)|_=>exact k h
 |bl a =>
  cases y with|bl b=>exact sc rfl (by simpa[rEq]using h)|_=>exact k h
 |_=>exact k h
noncomputable def N0(f:Int->Int->Bool):R2:=λx y H Q=>match x,y with
 | .int i,.int j=>Q (.bl (f i j)) H|_,_=>False
theorem EQ{w:fv}{f:Int->Int->Bool}(e:AE X (vx w) (Mb λi j=>.bl (f i j))):AE X (vx w) (N0 f):=by
 intro z s k H x y v u Q I b a h;cases x with
 |int i =>
  cases y with|int j=>exact e z s k H _ _ v u Q I b a #[i,j,rfl,rfl,h]|_=>exact Qg h
 |_=>exact Qg h
noncomputable def inStr(b a:Str):Bool:=match a.cps.toList with
 |[c]=>decide (c∈b.cps.toList)|_=>!(qH b a 0 b.9 1).isEmpty
theorem pU(b a:Str):inStr b a=!(qH b a 0 b.9 1).isEmpty:=by
 unfold inStr;split;rename_i c e;have x:a=#[(qK [c])]:=by
  let#[h]:=a;have:h=(qK [c]):=by apply WU.mp;simpa using e
  rw[this]
 rw[x];exact(StrLaws.found_one b c).symm;rfl
def pT(K:QC)(neg:Bool):R2:=λx y H Q=>match y with
 | .str b=>match x with
  | .str a=>Q (.bl (if neg then !inStr b a else inStr b a)) H|_=>False
 | .ref p=>Mw K neg x (.ref p) H Q∨(∃d h,Rep K H x d/\(Rep K H (.ref p) (.list h)∨Rep K H (.ref p) (.tuple h))/\BE d/\BE (.list h)/\Q (.bl (if neg then !(h.any λy=>Qo y d) else h.any λy=>Qo y d)) H)∨(∃o,iS K H p x o/\Q (.bl (if neg then !o.isSome else o.isSome)) H)|_=>False
theorem tP{ds:List x2}(h:BE (.list ds)):wC ds=kf/\ww ds<=63:=by let#[x,y]:=h;simp only[QAt]at x;simp only[QBY]at y;exact#[x,()]
theorem br(Y:X.A.units+66<gl):AE X (vx .In) (pT X.K kd):=by
 intro z s i H x y v u Q I e w h;cases y with
 |str b =>
  cases x with|str a=>refine U1 z s i H _ _ v u Q I e w #[a,b,rfl,rfl,?_];rw[<- pU];simpa[pT]using h|_=>exact Qg h
 |ref p =>
  rcases h with h|⟨d,Z,r,k,l,n,q⟩| ⟨o,g,q⟩
  rotate_left 2
  cases w;exact ye Y I e g q;exact B1 z s i H _ _ v u Q I e w h;let#[B,j]:=r.reads I e;let#[m,W]:=tP n;rcases k with k|k;let#[bs,f]:=k.reads I w;exact SeqAt.in_list_reads f j m l.1 () #[.bl _,H,I,rfl,q];let#[bs,f]:=k.reads I w;exact SeqAt.in_tuple_reads f j m l.1 () #[.bl _,H,I,rfl,q]
 |_=>exact Qg h
theorem E6(Y:X.A.units+66<gl):AE X (vx .NotIn) (pT X.K kf):=by
 intro z s i H x y v u Q I e w h;cases y with
 |str b =>
  cases x with|str a=>refine IQ z s i H _ _ v u Q I e w #[a,b,rfl,rfl,?_];rw[<- pU];simpa[pT]using h|_=>exact Qg h
 |ref p =>
  rcases h with h|⟨d,Z,r,k,l,n,q⟩| ⟨o,g,q⟩
  rotate_left 2
  cases w;exact JW Y I e g q;exact jR z s i H _ _ v u Q I e w h;let#[B,j]:=r.reads I e;let#[m,W]:=tP n;rcases k with k|k;let#[bs,f]:=k.reads I w;exact SeqAt.notIn_list_reads f j m l.1 () #[.bl _,H,I,rfl,q];let#[bs,f]:=k.reads I w;exact SeqAt.notIn_tuple_reads f j m l.1 () #[.bl _,H,I,rfl,q]
 |_=>exact Qg h
end
end
section
variable{X:Cx}
theorem SN:∀{bs:List Bool}{us:LW},nA (bs.map V.bl) us->∀(i:Nat) (v:kn),us[i]?=jr v->∃b,bs[i]?=jr b/\v=Value.bool b
 |[],_,.nil,i,v,h=>by simp at h|b::bs,_,.cons r t,0,v,h=>by simp at h;subst h;exact#[b,by simp,r]|b::bs,_,.cons r t,i+1,v,h=>by let#[c,y,x]:=SN (bs:=bs) t i v (by simpa using h);exact#[c,by simpa using y,x]
theorem L0(bs:List Bool):(Qq bs.9).all (λi=>bs.getD i kf)=bs.all id:=by
 rw[Q2,Q1,Q1];constructor;intro h b hb;let#[i,y,e]:=QB1 hb;have:=h i (by simpa using y);simp[QBZ,y,e]at this;simpa using this;intro h i y;have x:i<bs.length:=by simpa using y
 have:=h bs[i] (wY x);simpa[QBZ,x]using this
theorem G0(bs:List Bool):(Qq bs.9).any (λi=>bs.getD i kd)=bs.any id:=by
 rw[Q2,wZ,wZ];constructor;rintro⟨i,x,e⟩;have h:i<bs.length:=by simpa using x
 exact#[bs[i],wY h,by simpa[QBZ,h]using e];rintro⟨b,hb,e⟩;let#[i,x,y]:=QB1 hb;exact#[i,by simpa using x,by simp[QBZ,x,y];simpa using e]
def Mq(K:QC):LV->Hp->VK->Prop:=λh H Q=>match h with
 |[.ref a]=>∃bs:List Bool,uC K H a (bs.map V.bl)/\Q (.bl (bs.all id)) H|_=>False
def Lq(K:QC):LV->Hp->VK->Prop:=λh H Q=>match h with
 |[.ref a]=>∃bs:List Bool,uC K H a (bs.map V.bl)/\Q (.bl (bs.any id)) H|_=>False
theorem V9(l:X.calm=kf):JC X (.builtin "all") (Mq X.K):=by
 intro k s Z H f W Q I r h
 match f,h with
 |[.ref a],#[bs,hq,q] =>
  let#[u,rfl,j]:=IF r;cases j;let#[x,w,p,C]:=I.list hq;have hl:=w.9;rw[QF]at hl;refine call_all_walk (Wv p.isList ?_);have y:a<s.1.1.size:=by let#[o,n,e,_]:=p;exact QS e
  refine#[s.1.1.size,_,_,_,_,_,λi=>bs.getD i kf,rfl,Walks.list (A:=X.A.in1) (I.ok.hd l) s.1.1.size a (Qj y) x.toArray,#[#[_,QO _ rfl,rfl,rfl],?_],?_,?_];let#[o,n,e,c,d,sq]:=p;exact#[o,QH _ e,c,n,sq];intro i v B F G m z;let#[b,hb,rfl]:=SN w i v (by simpa using m);refine wO ?_;have:bs.getD i kf=b:=by simp[QBZ,hb]
  rw[<- this];exact z;intro E g hk;have Y:(Qq x.toArray.size).all (λi=>bs.getD i kf)=bs.all id:=by rw[QM,<- hl,L0]
  rw[Y];exact#[.bl _,H,I.kept (t':=g) (λb o e=>hk b o (by simp;exact Qj (QS e)) (QH _ e)),rfl,q]
theorem K9(l:X.calm=kf):JC X (.builtin "any") (Lq X.K):=by
 intro k s Z H f W Q I r h
 match f,h with
 |[.ref a],#[bs,hq,q] =>
  let#[u,rfl,j]:=IF r;cases j;let#[x,w,p,C]:=I.list hq;have hl:=w.9;rw[QF]at hl;refine call_any_walk (Wv p.isList ?_);have y:a<s.1.1.size:=by let#[o,n,e,_]:=p;exact QS e
  refine#[s.1.1.size,_,_,_,_,_,λi=>bs.getD i kd,rfl,Walks.list (A:=X.A.in1) (I.ok.hd l) s.1.1.size a (Qj y) x.toArray,#[#[_,QO _ rfl,rfl,rfl],?_],?_,?_];let#[o,n,e,c,d,sq]:=p;exact#[o,QH _ e,c,n,sq];intro i v B F G m z;let#[b,hb,rfl]:=SN w i v (by simpa using m);refine wO ?_;have:bs.getD i kd=b:=by simp[QBZ,hb]
  rw[<- this];exact z;intro E g hk;have Y:(Qq x.toArray.size).any (λi=>bs.getD i kd)=bs.any id:=by rw[QM,<- hl,G0]
  rw[Y];exact#[.bl _,H,I.kept (t':=g) (λb o e=>hk b o (by simp;exact Qj (QS e)) (QH _ e)),rfl,q]
def Dq(K:QC):LV->Hp->VK->Prop:=λx H Q=>(∃z,x=[.str z]/\z.9<=kb/\Q (.int z.9) H)∨∃a h,x=[.ref a]/\(uC K H a h∨rD K H a h)/\Q (.int h.9) H
theorem Y9:JC X (.builtin "len") (Dq X.K):=λx s y H z u Q I r h=>h.elim (cS x s y H z u Q I r) (iJ x s y H z u Q I r)
noncomputable def cV:V->Option kn
 | .ty n=>jr (.type n)|.ref C=>jr (.ref C)|_=>kv
def iz(K:QC)(H:Hp)(x:V)(t:kn):Prop:=(∃a h,x=.ref a/\uC K H a h/\t=.type "list")∨∃a h,x=.ref a/\rD K H a h/\t=.type "tuple"
def Cj(K:QC):LV->Hp->VK->Prop:=λy H Q=>match y with
 |[x,c]=>∃t h b,(TyOf K H x t∨iz K H x t)/\cV c=jr h/\QBq K t h=jr b/\Q (.bl b) H|_=>False
theorem Z9:JC X (.builtin "isinstance") (Cj X.K):=by
 intro m s Y H w Z Q I r h
 match w,h with
 |[x,c],#[t,cv,b,ty,hc,hk,q] =>
  let#[u,k,rfl,f,v]:=i5 r;have e:k=cv:=by
   cases c with|ty n=>have l:k=Value.type n:=v;have j:jr (Value.type n)=jr cv:=hc;rw[l];exact Qp j|ref C=>have l:k=kx C:=v;have j:jr (kx C)=jr cv:=hc;rw[l];exact Qp j|_=>cases hc
  subst e;rcases ty with ty|⟨a,w,rfl,i,rfl⟩| ⟨a,w,rfl,i,rfl⟩
  exact V3 I f ty hk λy=>#[.bl b,H,I.tok y,rfl,q]
  cases f;let#[g,p,#[o,n,e,c,_,d],_]:=I.list i;exact qQ QA0 I.kIn #[o,e,c] hk (λz=>nomatch z) λy=>#[.bl b,H,I.tok y,rfl,q]
  cases f;let#[g,p,#[o,e,c,n,d],_]:=I.tuple i;exact qQ QCH I.kIn #[o,e,c] hk (λz=>nomatch z) λy=>#[.bl b,H,I.tok y,rfl,q]
def Lw(K:QC):V->Option Int->Option Int->Hp->VK->Prop:=λx h y H Q=>match x with
 | .str z=>z.9<=kb/\Q (.str (WI z h y)) H|.ref a=>Vq K (.ref a) h y H Q∨Kq K (.ref a) h y H Q|_=>False
theorem ij:Bh X (Lw X.K):=by
 intro y s m H x v E C Y B b Q I p W r e h;cases x with
 |str z =>
  let#[t,rfl]:=p;let#[J,q]:=h;refine#["str",_,F.slot_str_getitem.lookup,QDH _ _ _,?_];have fin:∀l u:Option (Int×Tok),l.map (·.1)=Y->u.map (·.1)=B->s.1.IsSlice b l u kv->ku (k0 X.prog X.w) X.A (l8 (.str z t) (.ref b)) (EP X y m Q) X.xe s:=λl u M L Z=>by refine wpAny_getItem_str_slice Z rfl ?_;subst M L;exact post_val_or_str #[QU (Txt.slice_le z _ _) J,λN k=>#[.str (WI z _ _),H,I.tok k,#[_,rfl],q]]
  let#[o,f,hc,g]:=W;cases r with
  |none =>
   cases e with|none=>exact fin kv kv rfl rfl #[o,f,hc,g]|int j n=>exact fin kv (jr (j,n)) rfl rfl #[o,f,hc,g]
  |int i G =>
   cases e with|none=>exact fin (jr (i,G)) kv rfl rfl #[o,f,hc,g]|int j n=>exact fin (jr (i,G)) (jr (j,n)) rfl rfl #[o,f,hc,g]
 |ref a=>rcases h with h|h;exact Cb y s m H _ v E C Y B b Q I p W r e h;exact sj y s m H _ v E C Y B b Q I p W r e h
 |_=>exact Qg h
end
section
variable{h h':vu}{j:ko}{z:Src}{k:Nat}{xs:Array kn}
inductive Src where
 |l (a:ko)|t (a:ko)
def Src.adr:Src->ko
 | .l a=>a|.t a=>a
def YC(h:vu)(j:ko):Src->Nat->Prop
 | .l a,k=>h.IsListIter j a k|.t a,k=>h.IsTupleIter j a k
def YB(h:vu):Src->Array kn->Prop
 | .l a,xs=>h.IsList a xs|.t a,xs=>h.IsTuple a xs
theorem YC.keep(x:YC h j z k)(e:∀o,h.get? j=jr o->h'.get? j=jr o):YC h' j z k:=by
 cases z with|l a=>let#[o,u,y]:=x;exact#[o,e o u,y]|t a=>let#[o,u,y]:=x;exact#[o,e o u,y]
theorem YC.obj(x:YC h j z k):∃o,h.get? j=jr o/\∀v,o.data≠.cell v:=by
 cases z with|l a=>let#[o,u,w,y]:=x;exact#[o,u,λv q=>by rw[y]at q;cases q]|t a=>let#[o,u,w,y]:=x;exact#[o,u,λv q=>by rw[y]at q;cases q]
theorem YB.ext{b:ko}(x:YB h z xs)(e:QAV b h h')(n:z.adr≠b):YB h' z xs:=by
 cases z with|l a=>exact QC5.extBut x e n|t a=>exact Heap.IsTuple.extBut x e n
theorem YB.lt(x:YB h z xs):z.adr<h.1.size:=by
 cases z with|l a=>let#[o,y,_]:=x;exact QS y|t a=>let#[o,y,_]:=x;exact QS y
theorem YC.lt(x:YC h j z k):j<h.1.size:=by let#[o,y,_]:=x.obj;exact QS y
end
section
variable{prog:k5}{w:xb}{A:x0}{E:mC}{s:kt}
section
variable{j t:ko}{k:Nat}{xs:Array kn}{x:kn}{Q:mC}{z:Src}
theorem Kl(p:s.1.IsTupleIter j t k)(pt:s.1.IsTuple t xs)(v:xs[k]?=jr x)
  (q:∀h',h'.IsTupleIter j t (k+1)->qk j s.1 h'->Q x { s with heap:=h' }):ku (k0 prog w) A (qf (.ref j)) Q E s:=by
 let#[ob,y,a,h]:=id p;let#[b,u,_,e,t3]:=pt;unfold qf;refine QA (qV (name:=QY "__next__") p.typeIs qy (qR qy p.typeIs Wi ?_ (Wc _)));show ku _ _ (aj (.ref j) 0 >>= _) _ _ _;refine QA (wj y h (x:=.ref t) rfl ?_);show ku _ _ (if(kx t==j2)=kf then _ else _) _ _ _;rw[QB (show ¬ (kx t==j2)=kf from QG)];show ku _ _ (aj (.ref j) 1 >>= _) _ _ _;refine QA (wj y h (x:=.int k 0) rfl ?_);show ku _ _ (seqItems? (.ref t) >>= _) _ _ _;refine QA (QAq u t3 ?_);simp only[qN,v];refine QA (QAu y h (by simp) (QK #[x,rfl,QK (q _ ?_ (qA ..))]));refine#[_,wb _ y (QBa (Wj h _)),(QCX ..).trans a,?_];rw[Wj h];simp[hQ]
theorem iW(u:A.handled=kv)(p:s.1.IsTupleIter j t k)(pt:s.1.IsTuple t xs)(b:xs[k]?=kv)
  (q:∀h' e,QAV j s.1 h'->(∃o,h'.get? e=jr o/\o.cls=.type "StopIteration")->E (.ref e) { s with heap:=h' }):ku (k0 prog w) A (qf (.ref j)) Q E s:=by
 let#[ob,y,i,h]:=id p;let#[f,v,_,g,t3]:=pt;unfold qf;refine QA (qV (name:=QY "__next__") p.typeIs qy (qR qy p.typeIs Wi ?_ (Wc _)));show ku _ _ (aj (.ref j) 0 >>= _) _ _ _;refine QA (wj y h (x:=.ref t) rfl ?_);show ku _ _ (if(kx t==j2)=kf then _ else _) _ _ _;rw[QB (show ¬ (kx t==j2)=kf from QG)];show ku _ _ (aj (.ref j) 1 >>= _) _ _ _;refine QA (wj y h (x:=.int k 0) rfl ?_);show ku _ _ (seqItems? (.ref t) >>= _) _ _ _;refine QA (QAq v t3 ?_);simp only[qN,b];refine QA (QCY (QA (QAu y h (by simp) ?_)));refine QA (m:=n7 (.type "StopIteration") []) ?_;simp only[n7,P0];refine QA (Qy ?made (by size_fits));refine QA (m:=h7 _ _) (QB2 (a:=j2) (by first|rfl | (rw[h7];rfl)) ?arg);refine Qy ?made2 (by size_fits);simp only[ax];refine QA (QCK ?_);first|rw[show A.in1.handled=kv from u]|rw[u]
 refine QA (QK (QC6 (q _ _ (((qA ..).extBut.push _).push _) #[_,QO _ rfl,rfl])))
theorem Jd(p:YC s.1 j z k)(pt:YB s.1 z xs)(h:xs[k]?=jr x)
  (q:∀h',YC h' j z (k+1)->qk j s.1 h'->Q x { s with heap:=h' }):ku (k0 prog w) A (qf (.ref j)) Q E s:=by
 cases z with|l a=>exact wpAny_nextOf_list_item p pt h q|t a=>exact Kl p pt h q
theorem U7(y:A.handled=kv)(p:YC s.1 j z k)(pt:YB s.1 z xs)(h:xs[k]?=kv)
  (q:∀h' e,QAV j s.1 h'->(∃o,h'.get? e=jr o/\o.cls=.type "StopIteration")->E (.ref e) { s with heap:=h' }):ku (k0 prog w) A (qf (.ref j)) Q E s:=by
 cases z with|l a=>exact wpAny_nextOf_list_end y p pt h q|t a=>exact iW y p pt h q
noncomputable def Src.it:Src->Obj
 | .l a=>{ cls:=.type "list_iterator",data:=.fields (qK [.ref a,.int 0 0]) }|.t a=>{ cls:=.type "tuple_iterator",data:=.fields (qK [.ref a,.int 0 0]) }
theorem yT(pt:YB s.1 z xs)(q:Q (.ref s.1.1.size) { s with heap:=s.1.push z.it }):ku (k0 prog w) A (la (.ref z.adr)) Q E s:=by
 cases z with|l a=>exact Wv pt q|t a=>exact QCL pt q
theorem Jb(h:vu)(z:Src):YC (h.push z.it) h.1.size z 0:=by
 cases z with|l a=>exact#[_,QO _ rfl,rfl,rfl]|t a=>exact#[_,QO _ rfl,rfl,rfl]
end
end
section
variable{prog:k5}{w:xb}{A:x0}{E:mC}{s:kt}
theorem Zj{h h':vu}{b:ko}{z:Src}{xs:Array kn}(x:YB h z xs)(e:qk b h h')(n:z.adr≠b):YB h' z xs:=x.ext e.extBut n
end
section
variable{X:Cx}{w:AB}{σ:St}{H:Hp}{s:kt}{h':vu}
theorem _root_.L2.Inv.turnedL{t':Nat}{ch:List ko}(I:Inv X w σ H s)(k:∀b o,b∉ch->s.1.get? b=jr o->h'.get? b=jr o)(f:∀b∈ch,GJ X w H b):Inv X w σ H { s with heap:=h',toks:=t' }:=by
 have h:∀b u,H b=jr u->b∉ch:=λb u e z=>by rw[(f b z).1]at e;cases e
 have a:X.env.locals∉ch:=λz=>(f _ z).2.1 rfl;refine I.step (g':=s.gens) (d':=s.drawn) (ch:=ch) (λb hb=>?_) (λb o _ _ hc e _=>k b o hc e) (λb o _ _ hc e _=>#[o.slots,k b o hc e]) (λ_ _ _ _ n=>n)
  (λb o hc e=>#[o,k b o hc e]) (λ_ _ e=>e) (λ_ _ _ e=>e) (λ_ _ e=>e) (λm y=>?_) (λb u e=>?_) I.bare
 let#[_,l,_,j,i,g]:=f b hb;exact#[j,l,i,g];let#[o,p,Y,x,r]:=y;exact#[o,p,Y,k _ o a x,r];refine(I.hok b u e).stay (λc v hc q=>k c v ?_ q) (λ_ q=>q) λ_ _ q=>q;rcases hc with z|z;rw[z];exact h b u e;exact h c _ z
def rO(K:QC)(H:Hp):Src->LV->Prop
 | .l a,xs=>uC K H a xs|.t a,xs=>rD K H a xs
theorem _root_.L2.Inv.src(I:Inv X w σ H s){z:Src}{xs:LV}(h:rO X.K H z xs):∃its:LW,nA xs its/\YB s.1 z its.toArray/\xs.9<=sizeLine:=by
 cases z with|l a=>let#[its,x,p,y]:=I.list h;exact#[its,x,p.isList,y]|t a=>let#[its,x,p,y]:=I.tuple h;exact#[its,x,p,y]
theorem _root_.L2.Inv.src_inj(I:Inv X w σ H s){z:Src}{xs x:LV}(h:rO X.K H z xs)(h':rO X.K H z x):xs=x:=by
 cases z with|l a=>exact I.list_inj h h'|t a=>exact I.tuple_inj h h'
theorem _root_.L2.Inv.pair{p:ko}{a b:kn}{x y:V}{t':Nat}(I:Inv X w σ H s)(k:∀b u,s.1.get? b=jr u->h'.get? b=jr u)(v:s.1.1.size<=p)(e:h'.get? p=jr { cls:=.type "tuple",data:=.seq (qK [a,b]) })(z:aA x a)(h:aA y b) :
  Inv X w σ (DA H p (.tup [x,y])) { s with heap:=h',toks:=t' } :=
 I.laid k v #[by rw[qB];show 2<=_;decide,[a,b],.cons z (.cons h .nil),_,e,rfl,_,rfl]
end
def jAC(K:QC)(w u:Src):It :=
  #[λi H=>∃z h x y,rO K H w z/\rO K H u h/\z[i]?=jr x/\h[i]?=jr y,
   λi H v k=>∃p x y,H p=kv/\v=.ref p/\k=DA H p (.tup [x,y])/\∀z h,rO K H w z->rO K H u h->z[i]?=jr x/\h[i]?=jr y,
   λi H=>∃z h,rO K H w z/\rO K H u h/\(z.9<=i∨h.9<=i)]
def GZ(z TI TO y x:ko)(v u:Src)(w:kn)(i:Nat)(h:vu):Prop:=IsZip h z TI TO w/\IsPair h TI (.ref y) (.ref x)/\(∃a b,IsPair h TO a b)/\YC h y v i/\YC h x u i
theorem GZ.keep{z TI TO y x:ko}{a w:Src}{f:kn}{i:Nat}{h h':vu}(st:GZ z TI TO y x a w f i h)(k:∀b∈[z,TI,TO,y,x],∀o,h.get? b=jr o->h'.get? b=jr o):GZ z TI TO y x a w f i h':=by let#[n,m,#[u,v,l],j,g]:=st;exact#[k z (by simp) _ n,k TI (by simp) _ m,#[u,v,k TO (by simp) _ l],j.keep λo e=>k y (by simp) o e,g.keep λo e=>k x (by simp) o e]
theorem V5{P:k5}{w:xb}{K:QC}{es:List Expr}{kk:Nat}{pp:Pos}{z TI TO n m:ko}{N M:ko}(D:ZipApart z TI TO n m N M) :
  Turn P w K (.Tuple es kk pp) (jAC K (.l N) (.l M)) [z,TI,TO,n,m] z (GZ z TI TO n m (.l N) (.l M) .none) where
 mem:=by simp
 obj:=λi h st b hb=>by let#[B,r,#[u,v,A],W,Z]:=st;simp only[QL,qh,or_false]at hb;rcases hb with rfl|rfl|rfl|rfl|rfl;exact#[_,B,λv q=>by cases(show Data.fields _=Data.cell v from q)];exact#[_,r,λv q=>by cases(show Data.seq _ _=Data.cell v from q)];exact#[_,A,λv q=>by cases(show Data.seq _ _=Data.cell v from q)];exact W.obj;exact Z.obj
 keep:=λi h h' st k=>st.keep k
 item:=by
  intro X hP hw hK hc i F s σ H E I O st hg;subst hP hw hK;let#[xs,ys,x,y,R,Q,ex,ey]:=hg;let#[L,rv,g,_]:=I.src R;let#[J,j,f,_]:=I.src Q;let#[u,hu,ru]:=rv.get ex;let#[v,hv,S]:=j.get ey;let#[B,r,#[c,d,A],W,Z]:=st;refine wpAny_pyNext_zip_item D B r A W Z g f (x:=u) (y:=v) (by simpa using hu) (by simpa using hv) λh' b1 b2 b3 b4 b5 b6 b7=>?_;refine#[_,rfl,wpAny_letOwnedTupleGo_zip b1 λp c1 Y=>?_];have kept:∀b o,b∉[z,TI,TO,n,m]->s.1.get? b=jr o->p.get? b=jr o:=λb o hb e=>by simp only[QL,qh,or_false,not_or]at hb;exact(Y.2 b hb.1).trans (b7 b o hb.1 hb.2.2.1 hb.2.2.2.1 hb.2.2.2.2 e)
  have hp:=I.hok.fresh (QV s.1.1.size);have C:z<s.1.1.size:=QS B;have a:p.get? s.1.1.size=jr { cls:=.type "tuple",data:=.seq (qK [u,v]) }:=(Y.2 _ (w8 C)).trans b5;have G:∀b∈[z,TI,TO,n,m],b<s.1.1.size:=λb hb=>by simp only[QL,qh,or_false]at hb;rcases hb with rfl|rfl|rfl|rfl|rfl;exact C;exact QS r;exact QS A;exact W.lt;exact Z.lt
  have I1:=I.pair (h':=s.1.push { cls:=.type "tuple",data:=.seq (qK [u,v]) }) (t':=s.toks) (λb o e=>QH _ e) (QV _) (QO _ rfl) ru S;have I2:=I1.turnedL (h':=p) (t':=s.toks) (ch:=[z,TI,TO,n,m]) (λb o hb e=>by
   rcases QAK e with⟨q1,q2⟩| q;subst q1 q2;exact a;exact kept b o hb q) λb hb=>by
   let#[f0,f1,f2,f3,f4,f5]:=O b hb;exact#[by rw[xA (Qj (G b hb))];exact f0,f1,f2,f3,f4,f5]
  refine#[.ref s.1.1.size,_,I2,rfl,#[s.1.1.size,x,y,hp,rfl,rfl,λxs' ys' g1 g2=>?_],#[c1,?_,#[_,_,(Y.2 _ D.TOz).trans b2],YC.keep (z:=.l N) b3 λo e=>(Y.2 _ D.i1z).trans e,YC.keep (z:=.l M) b4 λo e=>(Y.2 _ D.i2z).trans e],λb hb=>?_];rw[I.src_inj g1 R,I.src_inj g2 Q];exact#[ex,ey];exact(Y.2 _ D.TIz).trans (b7 _ _ D.TIz D.TITO D.TIi1 D.TIi2 r);rw[xA (Qj (G b hb))];exact(O b hb).1
 done:=by
  intro X hP hw hK hc i F s σ H E I O st hg;subst hP hw hK;let#[xs,ys,R,Q,en]:=hg;let#[L,rv,g,_]:=I.src R;let#[J,j,f,_]:=I.src Q;let#[B,r,#[c,d,A],W,Z]:=st;have q1:=rv.9;have q2:=j.9;have en':L.toArray[i]?=kv∨J.toArray[i]?=none:=by rcases en with q|q;exact .inl (by simp;omega);exact .inr (by simp;omega)
  refine wpAny_pyNext_zip_end (I.ok.hd hc) D B r A W Z g f en' λh' kp=>#[rfl,I.turnedL (t':=s.toks) (ch:=[z,TI,TO,n,m]) (λb o hb e=>?_) O]
  simp only[QL,qh,or_false,not_or]at hb;exact kp b o hb.1 hb.2.2.1 hb.2.2.2.1 hb.2.2.2.2 e
 self:=λ_ _ _ _ _ st h=>QCv st.1 h
section
variable{prog:k5}{w:xb}{A:x0}{E:mC}{s:kt}
section
variable{z d:ko}{u:Obj}{es:Array c0}{i ep:Nat}{f c:kn}{Q:Option kn->kt->Prop}
theorem iD:QAQ "dict_itemiterator"=true:=by decide +kernel
theorem zK(l:List String)(h:(l.contains "dict_itemiterator" || l.contains "object")=kd):(l.any λt=>[Value.type "dict_itemiterator",Value.type "object"].contains (.type t))=false:=by
 rw[QCS];intro t x;rw[Bool.or_eq_false_iff]at h;have v:t≠"dict_itemiterator":=λe=>by subst e;rw[Qr.mpr x]at h;cases h.1
 have y:t≠"object":=λe=>by subst e;rw[Qr.mpr x]at h;cases h.2
 simp[v,y]
theorem X7{e:c0}
  (n:ej s.1 z d i es.size ep f c) (Y:s.1.get? d=jr u) (C:u.data=.dict es ep) (J:es[i]?=jr e)
  (q:∀h',Rt h' z d (i+1) es.size ep e.key e.val s.1.1.size->h'.get? s.1.1.size=jr { cls:=.type "tuple",data:=.seq (qK [e.key,e.val]) } ->
   h'.1.size=s.1.1.size+1->(∀b o,b≠z->s.1.get? b=jr o->h'.get? b=jr o)->Q (jr (.ref s.1.1.size)) { s with heap:=h' }) :
  ku (k0 prog w) A (mu (.ref z)) Q E s:=by
 have G:s.TypeIs (.ref z) "dict_itemiterator":=#[_,n,rfl]
 show ku _ _ (bind _ _) _ _ _;refine QA (QAR (qV G qi (qR qi G QAB ?_ (Ww _))));show ku _ _ (bind _ _) _ _ _;refine QA (QK (QA (QA (QA (wJ G (QK (QA (QAv n rfl ?_))))))));rw[iD];show ku _ _ (if(kx d==j2)=kf then _ else _) _ _ _;rw[QB (show ¬ (kx d==j2)=kf from QG)];show ku _ _ (wk (.ref d) >>= _) _ _ _;refine QA (QK (QA (wQ Y C ?_)));rw[QB (show ¬ (((es.size:Nat):Int) != ((es.size:Nat):Int))=kf by simp)];refine QA (QK (QA (WJ Y C ?_)));rw[QB (show ¬ (((ep:Nat):Int) != ((ep:Nat):Int))=kf by simp)];refine QK ?_;have L:(if((i:Nat):Int)<0 then kv else es[((i:Nat):Int).toNat]?)=jr e:=by rw[QB (),qN];exact J
 simp only[L];refine QA ?_;show ku _ _ (dt (.ref z) >>= _) _ _ _;refine QA (wJ G (QK (QA (Wt G ?_))));rw[iD,Qc rfl];rw[show(List.any _ λt=>[Value.type "dict_itemiterator",Value.type "object"].contains (.type t))=kd from zK _ (by decide +kernel),QB QG];refine QA (wc n (by simp) λa h X=>?_);have h:ej a z d (i+1) es.size ep f c:=h;refine QA (qg ?_);have F:({ s with heap:=a }:kt).TypeIs (.ref z) "dict_itemiterator":=#[_,h,rfl]
 show ku _ _ (Builtin.Dict_items.isOneOf (.ref z) _ >>= _) _ _ _;refine QA (Wt F ?_);rw[zK _ (by decide +kernel),QB QG];refine QA (Wt F ?_);rw[zK _ (by decide +kernel),QB QG];show ku _ _ (P0 [e.key,e.val] >>= _) _ _ _;refine QA (QBs ?_);have r:a.1.size=s.1.1.size:=X.1;have y:ej (a.push { cls:=.type "tuple",data:=.seq (qK [e.key,e.val]) }) z d (i+1) es.size ep f c:=QH _ h;show ku _ _ (Builtin.Dict_items.ownedTupleIsFree (.ref z) >>= _) _ _ _;refine QA ?_;show ku _ _ (aj (.ref z) 0 >>= _) _ _ _;refine QA (wj y rfl (x:=.none) rfl (QK ?_));rw[Qc rfl];show ku _ _ (aj (.ref z) 6 >>= _) _ _ _;refine QA (wj y rfl (x:=f) rfl ?_);refine QA (wj y rfl (x:=c) rfl ?_);refine QA (wc y (by simp) λO B m=>?_);refine QA (wc B (by simp) λN K l=>?_);refine QA (wc K (by simp) λM W j=>?_);refine QA (wc W (by simp) λI Z g=>?_);refine QA (QC7 (QK ?_));refine QK #[_,rfl,QK ?_];have k:z<a.1.size:=QS h;have pt:I.get? a.1.size=jr { cls:=.type "tuple",data:=.seq (qK [e.key,e.val]) } :=
  g.extBut _ _ (w8 k) (j.extBut _ _ (w8 k) (l.extBut _ _ (w8 k) (m.extBut _ _ (w8 k) (QO _ rfl))))
 have p:I.1.size=a.1.size+1:=by rw[g.1,j.1,l.1,m.1,WG]
 have v:Rt I z d (i+1) es.size ep e.key e.val a.1.size:=Z;rw[r]at pt p v;have:=q I v pt p λb o hb x=>g.extBut _ _ hb (j.extBut _ _ hb (l.extBut _ _ hb (m.extBut _ _ hb (QH _ (X.extBut _ _ hb x)))));show Q (jr (.ref a.1.size)) _;rw[r];exact this
theorem xR(g:A.handled=kv)
  (h:ej s.1 z d i es.size ep f c) (x:s.1.get? d=jr u) (y:u.data=.dict es ep) (j:es[i]?=kv)
  (q:∀h',QAV z s.1 h'->Q kv { s with heap:=h' }) :
  ku (k0 prog w) A (mu (.ref z)) Q E s:=by
 have v:s.TypeIs (.ref z) "dict_itemiterator":=#[_,h,rfl]
 show ku _ _ (bind _ _) _ _ _;refine QA (QAR (qV v qi (qR qi v QAB ?_ (Ww _))));show ku _ _ (bind _ _) _ _ _;refine QA (QK (QA (QA (QA (wJ v (QK (QA (QAv h rfl ?_))))))));rw[iD];show ku _ _ (if(kx d==j2)=kf then _ else _) _ _ _;rw[QB (show ¬ (kx d==j2)=kf from QG)];show ku _ _ (wk (.ref d) >>= _) _ _ _;refine QA (QK (QA (wQ x y ?_)));rw[QB (show ¬ (((es.size:Nat):Int) != ((es.size:Nat):Int))=kf by simp)];refine QA (QK (QA (WJ x y ?_)));rw[QB (show ¬ (((ep:Nat):Int) != ((ep:Nat):Int))=kf by simp)];refine QK ?_;have l:(if((i:Nat):Int)<0 then kv else es[((i:Nat):Int).toNat]?)=none:=by rw[QB (),qN];exact j
 simp only[l];refine QA ?_;show ku _ _ (dt (.ref z) >>= _) _ _ _;refine QA (wJ v (QK ?_));rw[iD,Qc rfl];refine QA (wc h (by simp) λn e k=>?_);refine QA (m:=n7 (.type "StopIteration") []) ?_;simp only[n7,P0];refine QA (Qy ?made (by size_fits));refine QA (m:=h7 _ _) (QB2 (a:=j2) (by first|rfl | (rw[h7];rfl)) ?arg);refine Qy ?made2 (by size_fits);simp only[ax];refine QA (QCK ?_);first|rw[show A.in1.handled=kv from g]|rw[g]
 refine QA (QK (QC6 ?_));refine QA (WT (T:="StopIteration") (b:=kf) #[_,QO _ rfl,rfl] (by kernel_rfl) ?_);rw[Qc rfl];exact QK (q _ ((k.extBut.push _).push _))
theorem B8{v:ko}{Q:mC}(hv:s.1.IsItemsView v d)(h:s.1.get? d=jr u)(x:u.data=.dict es ep)
  (q:Q (.ref s.1.1.size) { s with heap:=s.1.push { cls:=.type "dict_itemiterator",data:=.fields (qK [.none,.bool kd,.ref d,.int 0 0,.int es.size 0,.int ep 0,.none,.none]) } }) :
  ku (k0 prog w) A (la (.ref v)) Q E s:=by
 have a:=Heap.IsItemsView.typeIs hv;let#[c,y,b,k]:=id hv;refine QCZ a QBO (qR QBO a F.entry_dict_items_iter ?_ (F.args_dict_items_iter_1 _));show ku _ _ (bind _ _) _ _ _;refine QA (QK (QA ?_));show ku _ _ (bind _ _) _ _ _;refine QA (wj y k rfl (QK (QA ?_)));show ku _ _ (bind _ _) _ _ _;refine QA (wQ h x (QA (WJ h x ?_)));simp only[iD,if_true];refine Qy (QK #[_,rfl,"dict_itemiterator",_,#[_,QO _ rfl,rfl],qi.lookup,q]) (show _<=kb+2 by simp[Builtin.Dict_items.ownedTupleFields,qB])
theorem HX{Q:mC}(h:s.1.get? d=jr u)(x:u.cls=.type "dict")(v:(d==zl)=kd)
  (q:Q (.ref s.1.1.size) { s with heap:=s.1.push { cls:=.type "dict_items",data:=.fields (qK [.ref d]) } }):ku (k0 prog w) A (b8 (.builtin "dict.items") [.ref d]) Q E s:=by
 have y:s.TypeIs (.ref d) "dict":=#[_,h,x]
 refine qR F.slot_dict_items y F.entry_dict_items ?_ (F.args_dict_items_1 _);show ku _ _ (bind _ _) _ _ _;refine QA ?_;show ku _ _ (bind _ _) _ _ _;refine QA (QAC y ?_);refine QK ?_;show ku _ _ ((if(d==zl)=kf then _ else _) >>= _) _ _ _;rw[v,QB QG];exact QA (QK (QA (Qy (QK #[_,rfl,q]) (show _<=kb+2 by simp[qB]))))
theorem EZ{Y:Type}[DecidableEq Y]{h:u0 prog w Y}{d a:ko}{xs:List (Y×ko×kn)}{k:Y}{v:kn}{Q:mC}(B:h.room A)(g:h.is s.1 k a)(F:s.1.DictOfH h d xs)(hsz:xs.9<=kb)
  (I:∀p,eH xs k=jr p->Q p.2 { s with toks:=s.toks+h.draws k })
  (G:eH xs k=kv->∀h',h'.DictOfH h d (th xs k a v)->qk d s.1 h'->Q v { s with heap:=h',toks:=s.toks+h.draws k }) :
  ku (k0 prog w) A (pd d (.ref a) v) Q E s:=by
 let#[o,es,ep,n,hc,m,Z,X,W]:=id F;have J:es.size=xs.length:=by have:=wy qT Z;simpa using this
 unfold pd;refine qg (QA (h.pyHash B g (QA (wpAny_dictFind_heap B g n m Z X W (λr=>?_) λj p C=>?_))));have b:=atKey_none_of_get r;have q:=not_mem_keys_of_get r;refine QA (QCY (QA (wpAny_updateDictKeys n m (QK (G b _ ?_ (qA ..))) () (by simp))));refine#[_,_,ep+1,wb _ n (Obj.isFreed_of_dict (QBk m _)),Obj.ExactDict.mapDictKeys hc _,QBk m _,?_,?_,?_];rw[QC8 b];simp[Z,h8];rw[QC8 b];intro x l;rcases Qf.mp l with l|l;exact h.keeps (X x l) n m (qA ..);rw[QJ.mp l];exact h.keeps g n m (qA ..);rw[QC8 b,QR];exact qW.mpr #[W,by simp,λx l y K e=>by rw[QX,wa,QJ]at K;rw[e,K]at l;exact q l];have b:=atKey_of_get W C;have L:es[j]?=jr (h8 h (k,p)):=by
  have:es.toList[j]?=jr (h8 h (k,p)):=by rw[Z,Qd,C];rfl
  simpa using this
 refine QA (wQ n m ?_);rw[L];exact QA (QCY (QK (I p b)))
theorem yV{y:Type}[DecidableEq y]{h:u0 prog w y}{d a:ko}{xs:List (y×ko×kn)}{k:y}{v:kn}{Q:mC}(g:h.room A.in1)(x:h.is s.1 k a)(b:s.1.DictOfH h d xs)(hsz:xs.9<=kb)(m:(d==zl)=kd)
  (o:∀p,eH xs k=jr p->Q p.2 { s with toks:=s.toks+h.draws k })
  (n:eH xs k=kv->∀h',h'.DictOfH h d (th xs k a v)->qk d s.1 h'->Q v { s with heap:=h',toks:=s.toks+h.draws k }) :
  ku (k0 prog w) A (b8 (.builtin "dict.setdefault") [.ref d,.ref a,v]) Q E s:=by
 have e:s.TypeIs (.ref d) "dict":=Heap.DictOfH.typeIs b;refine qR F.slot_dict_setdefault e F.entry_dict_setdefault ?_ (F.args_dict_setdefault_3 _ _ _);show ku _ _ (bind _ _) _ _ _;refine QA ?_;show ku _ _ (bind _ _) _ _ _;refine QA (QAC e ?_);refine QK ?_;show ku _ _ (if(d==zl)=kf then _ else _) _ _ _;rw[m,QB QG];exact QA (EZ g x b hsz (λp j=>QK #[_,rfl,o p j]) λl h' r q=>QK #[_,rfl,n l h' r q])
end
end
def HL(K:QC):V->LV->Hp->VK->Prop:=λx z H Q=>∃a b v w h k,x=.ref a/\z=[.ref b,v]/\H a=jr (.dT w h)/\HG K H h/\yP K H b k/\h.9<kb /\
   (∀u,lH h k=jr u->Q u H)/\(lH h k=kv->∀y,Q v (DA H a (.dT y (ZM h k b v))))
theorem D2{X:Cx}(R:X.A.units+66<gl):C4 X "dict.setdefault" (HL X.K):=by
 intro m s L H x N v P Q I o r h;let#[a,b,y,ep,f,k,rfl,rfl,e,hk,F,l,Z,Y]:=h;cases o;let#[u,O,rfl,q,g]:=i5 r;cases q;let#[W,n,M,w,G]:=bL I e hk;have hl:(ZM f k b y).9<=sizeLine:=by have:=uU f k b y;omega
 refine yV (uJ ()) (fU I F) G (by rw[<- qP w];exact W) n (λp C=>?_) λE S j B=>?_;have z:=w.val k;rw[C]at z;cases ev:lH f k with|none=>rw[ev]at z;exact(show False from z).elim|some u=>rw[ev]at z;exact#[u,H,I.tok _,z,Z u ev]
 have z:=w.val k;rw[E]at z;cases ev:lH f k with|some u=>rw[ev]at z;exact(show False from z).elim|none=>let#[i,J]:=BN (t':=_) I (by rw[e];exact True.intro) n hl (w.put k b g) j B;exact#[y,_,J,g,Y ev i]
def jAF(ep n:Nat)(a:ko):It :=
  #[λi H=>∃h p,H a=jr (.dT ep h)/\h.9=n/\h[i]?=jr p,
   λi H v x=>∃q p,H q=kv/\v=.ref q/\x=DA H q (.tup [.ref p.2.1,p.2.2])/\∀h,H a=jr (.dT ep h)->h[i]?=jr p,
   λi H=>∃h,H a=jr (.dT ep h)/\h.9=n/\n<=i]
theorem AH{α h:Type}{R:α->h->Prop}:∀{l:List α}{m:List h}{i:Nat}{x:α},xm R l m->l[i]?=jr x->∃y,m[i]?=jr y/\R x y
 |_,_,i,_,.nil,e=>by simp at e|_,_,0,_,.cons r _,e=>by simp at e;subst e;exact#[_,rfl,r]|_,_,i+1,x,.cons _ t,e=>by let#[y,u,z]:=AH (i:=i) (x:=x) t (by simpa using e);exact#[y,by simpa using u,z]
theorem HV{P:k5}{w:xb}{K:QC}{es:List Expr}{kk:Nat}{pp:Pos}{a it:ko}{n ep:Nat}:Turn0 P w K (.Tuple es kk pp) (jAF ep n a) [it] it (λi h=>∃ok Y,ej h it a i n ep ok Y) where
 mem:=by simp
 obj:=λi h st b hb=>by let#[ok,Y,st]:=st;rw[QJ]at hb;subst hb;exact#[_,st,λv q=>by cases(show Data.fields _=Data.cell v from q)]
 keep:=λi h h' st k=>by let#[ok,Y,st]:=st;exact#[ok,Y,k it (by simp) _ st]
 item:=by
  intro X J C L hc i Z s σ H E I A st G;subst J C L;let#[j,p,e,F,ep]:=G;let#[ok,Y,st]:=st;let#[z,y,xs,r,o,u,N,h2,M,B,h5]:=(show BA X.prog X.w H s.1 a (.dT _ j) from I.hok a _ e)
  have l:u.size=n:=by have:=wy qT B;rw[QF,Q0]at this;rw[this,<- qP r,F]
  let#[q,hq,rq]:=AH r ep;have he:u[i]?=jr (h8 (uF X.prog X.w) q):=by
   have:u.toList[i]?=jr (h8 (uF X.prog X.w) q):=by rw[B,Qd,hq];rfl
   simpa using this
  subst l;refine X7 st N M he λh' b1 b3 b4 b5=>#[_,rfl,wpAny_letOwnedTupleGo_items b1 λm c1 sb=>?_]
  have hp:=I.hok.fresh (QV s.1.1.size);have W:it<s.1.1.size:=QS st;have g:∀b∈[it],b<s.1.1.size:=λb hb=>by rw[QJ]at hb;subst hb;exact W
  have kept:∀b o,b∉[it]->s.1.get? b=jr o->m.get? b=jr o:=λb o hb q=>by rw[QJ]at hb;exact(sb.2 b hb).trans (b5 b o hb q)
  have f:m.get? s.1.1.size=jr { cls:=.type "tuple",data:=.seq (qK [.ref q.2.1,q.2.2]) }:=(sb.2 _ (w8 W)).trans b3;have I1:=I.pair (x:=.ref p.2.1) (y:=p.2.2) (h':=s.1.push { cls:=.type "tuple",data:=.seq (qK [.ref q.2.1,q.2.2]) }) (t':=s.toks) (λb o e=>QH _ e) (QV _) (QO _ rfl) (show kx q.2.1=kx p.2.1 by rw[rq.2.1]) rq.2.2;have I2:=I1.turnedL (h':=m) (t':=s.toks) (ch:=[it]) (λb o hb e=>by
   rcases QAK e with⟨q1,q2⟩| q;subst q1 q2;exact f;exact kept b o hb q) λb hb=>by
   let#[f0,S,f2,R,Q,O]:=A b hb;exact#[by rw[xA (Qj (g b hb))];exact f0,S,f2,R,Q,O]
  refine#[.ref s.1.1.size,_,I2,rfl,#[s.1.1.size,p,hp,rfl,rfl,λkvs' g1=>?_],#[_,_,c1],λb hb=>?_];rw[e]at g1;cases g1;exact ep;rw[xA (Qj (g b hb))];exact(A b hb).1
 done:=by
  intro X J C L hc i Z s σ H E I A st G;subst J C L;let#[j,e,F,ep]:=G;let#[ok,Y,st]:=st;let#[z,y,xs,r,o,u,N,h2,M,B,h5]:=(show BA X.prog X.w H s.1 a (.dT _ j) from I.hok a _ e)
  have l:u.size=n:=by have:=wy qT B;rw[QF,Q0]at this;rw[this,<- qP r,F]
  subst l;let#[f0,S,f2,R,Q,O]:=A it (by simp);exact xR (I.ok.hd hc) st N M (QBP ep) λh' eb=>#[rfl,I.turned (t':=s.toks) (λb o hb e=>eb b o hb e) f0 S R Q O]
section
variable{prog:k5}{w:xb}{A:x0}{E:mC}{s:kt}
section
variable{d h:ko}{x:Obj}{es:Array c0}{ep i:Nat}{Q:Option kn->kt->Prop}
theorem kH:QAQ "dict_keyiterator"=false:=by decide +kernel
theorem Ad{Q:mC}(v:(d==zl)=kd)(y:s.1.get? d=jr x)(hc:x.cls=.type "dict")(z:x.data=.dict es ep)
  (q:Q (.ref s.1.1.size) { s with heap:=s.1.push { cls:=.type "dict_keyiterator",data:=.fields (qK [.ref d,.int 0 0,.int es.size 0,.int ep 0]) } }) :
  ku (k0 prog w) A (la (.ref d)) Q E s:=by
 have u:s.TypeIs (.ref d) "dict":=#[_,y,hc]
 refine QCZ u QCw (qR QCw u F.entry_dict_iter ?body (F.args_dict_iter_1 _))
 case body =>
  show ku _ _ (bind _ _) _ _ _;refine QA ?sl
  case sl =>
   show ku _ _ (bind _ _) _ _ _;refine QA (QAC u (QK ?go))
   case go =>
    have e:QAD d=ak PUnit.unit:=by unfold QAD;rw[v];rfl
    show ku _ _ (QAD d >>= _) _ _ _;rw[e];refine QA (QK (QA (wQ y z (QA (WJ y z (QA (Qy (QK #[_,rfl,"dict_keyiterator",_,#[_,QO _ rfl,rfl],qm.lookup,?_]))))))));simpa[hQ]using q
theorem td{e:c0}
  (v:s.1.IsKeyIter h d i es.size ep) (u:s.1.get? d=jr x) (k:x.data=.dict es ep) (g:es[i]?=jr e)
  (q:∀h',h'.IsKeyIter h d (i+1) es.size ep->qk h s.1 h'->Q (jr e.key) { s with heap:=h' }) :
  ku (k0 prog w) A (mu (.ref h)) Q E s:=by
 have a:=v.typeIs;let#[l,b,f,y]:=id v;show ku _ _ (bind _ _) _ _ _;refine QA (QAR (qV a qm (qR qm a QAI ?_ (QAE _))));show ku _ _ (bind _ _) _ _ _;refine QA (QK (QA (QA (QA (wL a (QK (QA (QAv b y ?_))))))));rw[kH];show ku _ _ (if(kx d==j2)=kf then _ else _) _ _ _;rw[QB (show ¬ (kx d==j2)=kf from QG)];show ku _ _ (wk (.ref d) >>= _) _ _ _;refine QA (QK (QA (wQ u k ?_)));rw[QB (show ¬ (((es.size:Nat):Int) != ((es.size:Nat):Int))=kf by simp)];refine QA (QK (QA (WJ u k ?_)));rw[QB (show ¬ (((ep:Nat):Int) != ((ep:Nat):Int))=kf by simp)];refine QK ?_;have j:(if((i:Nat):Int)<0 then kv else es[((i:Nat):Int).toNat]?)=jr e:=by rw[QB (),qN];exact g
 simp only[j];refine QA ?_;show ku _ _ (dt (.ref h) >>= _) _ _ _;refine QA (wL a (QK (QA (QBb a ?_))));rw[kH];show ku _ _ (setField (.ref h) 1 _ >>= _) _ _ _;refine QA (QAu b y (by simp) ?_);have z:(s.1.update h (Obj.mapFields (·.setIfInBounds 1 (hQ ((i:Int)+1))))).IsKeyIter h d (i+1) es.size ep :=
  #[_,wb _ b (QBa (Wj y _)),(QCX ..).trans f,by rw[Wj y];simp[hQ]]
 refine QA (qg (QA (QBb (s:={ s with heap:=s.1.update h (Obj.mapFields (·.setIfInBounds 1 (hQ ((i:Int)+1)))) }) z.typeIs ?_)));show ku _ _ (ak e.key) _ _ _;exact QK (QK #[_,rfl,QK (q _ z (qA ..))])
theorem VT(f:A.handled=kv)
  (z:s.1.IsKeyIter h d i es.size ep) (y:s.1.get? d=jr x) (v:x.data=.dict es ep) (g:es[i]?=kv)
  (q:∀h',QAV h s.1 h'->Q kv { s with heap:=h' }) :
  ku (k0 prog w) A (mu (.ref h)) Q E s:=by
 have k:=z.typeIs;let#[n,e,j,u]:=id z;show ku _ _ (bind _ _) _ _ _;refine QA (QAR (qV k qm (qR qm k QAI ?_ (QAE _))));show ku _ _ (bind _ _) _ _ _;refine QA (QK (QA (QA (QA (wL k (QK (QA (QAv e u ?_))))))));rw[kH];show ku _ _ (if(kx d==j2)=kf then _ else _) _ _ _;rw[QB (show ¬ (kx d==j2)=kf from QG)];show ku _ _ (wk (.ref d) >>= _) _ _ _;refine QA (QK (QA (wQ y v ?_)));rw[QB (show ¬ (((es.size:Nat):Int) != ((es.size:Nat):Int))=kf by simp)];refine QA (QK (QA (WJ y v ?_)));rw[QB (show ¬ (((ep:Nat):Int) != ((ep:Nat):Int))=kf by simp)];refine QK ?_;have l:(if((i:Nat):Int)<0 then kv else es[((i:Nat):Int).toNat]?)=none:=by rw[QB (),qN];exact g
 simp only[l];refine QA ?_;show ku _ _ (dt (.ref h) >>= _) _ _ _;refine QA (wL k (QK ?_));rw[kH];show ku _ _ (setField (.ref h) 0 .none >>= _) _ _ _;refine QA (QAu e u (by simp) ?_);refine QA (m:=n7 (.type "StopIteration") []) ?_;simp only[n7,P0];refine QA (Qy ?made (by size_fits));refine QA (m:=h7 _ _) (QB2 (a:=j2) (by first|rfl | (rw[h7];rfl)) ?arg);refine Qy ?made2 (by size_fits);simp only[ax];refine QA (QCK ?_);first|rw[show A.in1.handled=kv from f]|rw[f]
 refine QA (QK (QC6 ?_));refine QA (WT (T:="StopIteration") (b:=kf) #[_,QO _ rfl,rfl] (by kernel_rfl) ?_);rw[Qc rfl];exact QK (q _ (((qA ..).extBut.push _).push _))
end
end
noncomputable def jAH(ep n:Nat)(a:ko):It :=
  #[λi H=>∃h p,H a=jr (.dT ep h)/\h.9=n/\h[i]?=jr p,
   λi H v x=>x=H/\∀h,H a=jr (.dT ep h)->∃p,h[i]?=jr p/\v=.ref p.2.1,
   λi H=>∃h,H a=jr (.dT ep h)/\h.9=n/\n<=i]
theorem d0{P:k5}{w:xb}{K:QC}{S:Expr}{a it:ko}{n ep:Nat}:Turn P w K S (jAH ep n a) [it] it (λi h=>h.IsKeyIter it a i n ep) where
 mem:=by simp
 obj:=λi h st b hb=>by let#[o,e,c,d]:=st;rw[QJ]at hb;subst hb;exact#[o,e,λv z=>by rw[d]at z;cases z]
 keep:=λi h Y st k=>st.at λo e=>k it (by simp) o e
 item:=by
  intro X B Z C hc i u s Q H E I l st A;subst B Z C;let#[f,p,e,W,ep]:=A;let#[z,y,R,r,o,x,G,h2,F,m,h5]:=(show BA X.prog X.w H s.1 a (.dT _ f) from I.hok a _ e)
  have g:x.size=n:=by have:=wy qT m;rw[QF,Q0]at this;rw[this,<- qP r,W]
  let#[q,hq,rq]:=AH r ep;have he:x[i]?=jr (h8 (uF X.prog X.w) q):=by
   have:x.toList[i]?=jr (h8 (uF X.prog X.w) q):=by rw[m,Qd,hq];rfl
   simpa using this
  subst g;let#[O,N,f2,M,L,J]:=l it (by simp);refine td st G F he λY j sb=>?_;have I1:Inv X u Q H { s with heap:=Y }:=I.turned (t':=s.toks) (λb o hb e=>(sb.2 b hb).trans e) O N M L J;let#[oi,ei,ci,di]:=id j;exact#[_,rfl,go_of (s:={ s with heap:=Y }) ei ci di (by decide) #[.ref p.2.1,H,I1,show kx q.2.1=kx p.2.1 by rw[rq.2.1],#[rfl,λks hk=>by rw[e]at hk;cases hk;exact#[p,ep,rfl]],j,λb hb=>(l b hb).1]]
 done:=by
  intro X B Z C hc i u s Q H E I l st A;subst B Z C;let#[f,e,W,ep]:=A;let#[z,y,R,r,o,x,G,h2,F,m,h5]:=(show BA X.prog X.w H s.1 a (.dT _ f) from I.hok a _ e)
  have g:x.size=n:=by have:=wy qT m;rw[QF,Q0]at this;rw[this,<- qP r,W]
  subst g;let#[O,N,f2,M,L,J]:=l it (by simp);exact VT (I.ok.hd hc) st G F (QBP ep) λY eb=>#[rfl,I.turned (t':=s.toks) (λb o hb e=>eb b o hb e) O N M L J]
 self:=λ_ _ _ _ _ st h=>wpAny_pyIter_keyiter st h
open PySem.SeqAt
open AutoSeq1 (wpAny_loadPart')
open MeetsSeq MeetsSeq2 MeetsSeq3
noncomputable def So:LS->LS->Bool
 |[],[]=>kd|[],_::_=>kf|_::_,[]=>kd|x::a,y::b=>if(x==y)=kf then So a b else decide (x.cps.toList<y.cps.toList)
theorem tQ{vs:LW}{z:LS}(h:ac vs z):vs.9=z.9/\∀(i:Nat) (x:Str),z[i]?=jr x->∃t:Tok,vs[i]?=jr (Value.str x t):=by
 induction h with
 |nil=>exact#[rfl,λi x e=>by simp at e]|cons y t _ u =>
  refine#[by rw[QN,QN,u.1],λi x e=>?_];cases i with|zero=>simp at e;subst e;exact#[t,rfl]|succ i=>simp at e;simpa using u.2 i x e
theorem j3(l b:ko)(v x:Array kn)(n B:Nat)(L X:Option ko)(W o:Array (Option kn))(a ts:LS)(I:ac v.toList a)(G:ac x.toList ts)(k:Nat) :
  ∀i:Nat,v.size - i=k->i<=v.size->i<=x.size->Meets (Builtin.«list.__eq__.loop» #[[.ref l,.ref b,hQ i,hQ 0],[]])
   (λA R s=>s.1.get? l=jr { cls:=.type "list",dict:=L,data:=.seq v n,slots:=W }/\s.1.get? b=jr { cls:=.type "list",dict:=X,data:=.seq x B,slots:=o } /\
    R (.ok (.ret (.bool (So (a.drop i) (ts.drop i))))) s):=by
 let#[S,Q]:=tQ I;let#[O,N]:=tQ G;rw[Q0]at S O;induction k with
 |zero =>
  intro i hk F p e w A R s h;let#[E,g,d,Z,K]:=s;let#[hl,hb,h]:=h;wp_walk using qM hl,qM hb;have m:v[((i:Nat):Int).toNat]?=none:=by simp;omega
  rw[m];wp_walk using qM hl,qM hb;have Y:a.drop i=[]:=by simp;omega
  rw[Y]at h;have f:So [] (ts.drop i)=decide (v.size<x.size):=by
   cases z:ts.drop i with
   |nil =>
    have:ts.9<=i:=by simpa using z
    exact(dF ()).symm
   |cons y r =>
    have:i<ts.length:=by by_cases c:i<ts.9;exact c;rw[Wu ()]at z;cases z
    exact(dT ()).symm
  rw[f]at h;exact h
 |succ k C =>
  intro i hk F p e w A R s h;let#[E,g,d,Z,K]:=s;let#[hl,hb,h]:=h;wp_walk using qM hl,qM hb;have j:i<a.length:=()
  let#[t,ev]:=Q i a[i] (Qk j);have m:v[((i:Nat):Int).toNat]?=jr (.str a[i] t):=by simpa using ev
  rw[m];have Y:a.drop i=a[i]::a.drop (i+1):=QAw j;rw[Y]at h;by_cases c:i<ts.9;let#[u,J]:=N i ts[i] (Qk c);have f:x[((i:Nat):Int).toNat]?=jr (.str ts[i] u):=by simpa using J
  have M:ts.drop i=ts[i]::ts.drop (i+1):=QAw c;rw[M]at h;have h:R (.ok (.ret (.bool (if(a[i]==ts[i])=kf then So (a.drop (i+1)) (ts.drop (i+1)) else decide (a[i].cps.toList<ts[i].cps.toList))))) _:=h;rw[f];refine QA (EqAt.str_str a[i] t ts[i] u e w _ _ ?_);have hc:((i:Int)+1)=((i+1:Nat):Int):=by push_cast;rfl
  cases q:(a[i]==ts[i]) with|true=>rw[q,Qc rfl]at h;wp_walk;rw[hc];exact#[WN plain_eq_loop _,wx entry_eq_loop (by rw[qu plain_eq_loop _];exact C (i+1) () () () e w A R _ #[hl,hb,h])]|false=>rw[q,QB QG]at h;wp_walk using qM hl,qM hb;rw[m,f];show ku _ _ (vx .Lt (.str a[i] t) (.str ts[i] u) >>= _) _ _ _;refine QA (PySem.P.lt_str ?_);exact QK h
  have f:x[((i:Nat):Int).toNat]?=none:=by simp;omega
  rw[f];wp_walk using qM hl,qM hb;rw[Wu (show ts.9<=i by omega)]at h;have:decide (v.size<x.size)=false:=dF ();have h:R (.ok (.ret (.bool kd))) _:=h;rw[<- this]at h;exact h
theorem x3(l b:ko)(y x:Array kn)(n e:Nat)(f v:Option ko)(a z:Array (Option kn))(k ts:LS)(j:ac y.toList k)(i:ac x.toList ts) :
  Meets (Builtin.«list.__lt__» #[[.ref l,.ref b],[]])
   (λA R s=>s.1.get? l=jr { cls:=.type "list",dict:=f,data:=.seq y n,slots:=a }/\s.1.get? b=jr { cls:=.type "list",dict:=v,data:=.seq x e,slots:=z } /\
    R (.ok (.ret (.bool (So k ts)))) s):=by
 intro u w A R s h;let#[p,g,d,m,o]:=s;let#[hl,hb,h]:=h;have q:=AutoSeq1.sub_list_list;wp_walk using qM hl,qM hb;exact#[WN plain_eq_loop _,wx entry_eq_loop (by rw[qu plain_eq_loop _];exact j3 l b y x n e f v a z k ts j i _ 0 rfl (Qn _) (Qn _) u w A R _ #[hl,hb,h])]
section
variable{prog:k5}{w:xb}{A:x0}{E:mC}{s:kt}
theorem rW{l b:ko}{y x:Array kn}{n a:Nat}{e u:Option ko}{k z:Array (Option kn)}{v ts:LS}{Q:Bool->kt->Prop}(f:A.units<gl)(hl:s.1.get? l=jr { cls:=.type "list",dict:=e,data:=.seq y n,slots:=k })(hb:s.1.get? b=jr { cls:=.type "list",dict:=u,data:=.seq x a,slots:=z })
  (i:ac y.toList v) (g:ac x.toList ts) (h:Q (So v ts) s):ku (k0 prog w) A (keyLt' ab (.ref l) (.ref b)) Q E s:=by
 rw[keyLt'_oneType,oneLt'_eq];simp only[if_true];refine QA (wpAny_cRoomFor f (QA (wpAny_callSpecialIfBound?_slot (T:="list") #[_,hl,rfl] F.slot_list_lt ?_)));refine QCW F.slot_list_lt #[_,hl,rfl] F.entry_list_lt (F.args_list_lt_2 _ _) (x3 l b y x n a e u k z v ts i g) #[hl,hb,?_];exact wO h
end
end L2.L3
namespace L2.L3
open PySem PySem.Spec PyProof.Rows PySem.W
def zC{α:Type}(n:Nat)(P:α->Prop):KasT α->Prop
 | .ret a=>P a|.ask i j k=>i<n/\j<n/\∀b,zC n P (k b)
theorem zC.bnd{α x:Type}{n:Nat}{P:α->Prop}{R:x->Prop}{f:α->KasT x}(y:∀a,P a->zC n R (f a)):∀{t:KasT α},zC n P t->zC n R (t.bind f)
 | .ret a,h=>y a h|.ask i j k,#[h1,h2,h]=>#[h1,h2,λb=>zC.bnd y (h b)]
theorem zC.wp{α:Type}{n:Nat}{P:α->Prop}{x:Nat->Nat->(Bool->kt->Prop)->kt->Prop}{Q:α->kt->Prop}{s:kt}(y:∀i j,i<n->j<n->∀C:Bool->kt->Prop,(∀b,C b s)->x i j C s)(z:∀a,P a->Q a s):∀{t:KasT α},zC n P t->t.kasWp x Q s
 | .ret a,h=>z a h|.ask i j k,#[h1,h2,h]=>y i j h1 h2 _ λb=>zC.wp y z (h b)
def Pm(n:Nat)(p:Array Nat):Prop:=p.Perm (qK (Qq n))
section
variable{n:Nat}
section
variable{p:Array Nat}
theorem Pm.lt(h:Pm n p)(x:0<n)(i:Nat):p.getD i 0<n:=by
 by_cases c:i<p.size;have e:p.getD i 0=p[i]:=by simp[Array.getD,c]
 rw[e];have m:p[i]∈p.toList:=by simp
 have:=(qX.mp h).mem_iff.mp m;simpa using this;have e:p.getD i 0=0:=by simp[Array.getD,c]
 rw[e];exact x
theorem Pm.rev(h:Pm n p)(i j:Nat):Pm n (kas_rev p i j):=(mirror_perm _ _ _ _).trans h
theorem pS{p:Array Nat}(h:Pm n p)(x:0<n):∀(f m:Nat),zC n (λ_=>True) (kas_asc p f m)
 |0,m=>trivial|f+1,m=>#[h.lt x _,h.lt x _,λb=>by
  cases b with|true=>exact trivial|false=>exact pS h x f (m+1)]
theorem KJ(x:0<n):∀(f:Nat) {p:Array Nat}(h:Pm n p) (m q:Nat),zC n (λr=>Pm n r.1) (kas_desc f p m q)
 |0,p,h,m,q=>h|f+1,p,h,m,q=>#[h.lt x _,h.lt x _,λb=>by
  cases b with
  |true=>show zC n _ (if q > 0 then _ else _);split;exact KJ x f (h.rev _ _) _ _;exact KJ x f h _ _|false =>
   refine#[h.lt x _,h.lt x _,λb=>?_];cases b with|true=>exact h|false=>exact KJ x f h _ _]
theorem kQ(x:0<n)(h:Pm n p)(a b:Nat):zC n (λr=>Pm n r.2) (kas_tail3 a b p):=by refine zC.bnd (f:=λm=>.ret (m,kas_rev p 0 a)) (λm _=>?_) (pS (h.rev _ _) x _ _);exact h.rev _ _
theorem ZJ(x:0<n)(h:Pm n p)(a b:Nat):zC n (λr=>Pm n r.2) (kas_descPart a b p):=by refine zC.bnd (λr y=>?_) (KJ x _ h _ _);split;exact kQ x (Pm.rev y _ _) _ _;exact kQ x y _ _
theorem J4(x:0<n)(h:Pm n p)(b:Nat):zC n (λr=>Pm n r.2) (kas_count b p):=by
 refine zC.bnd (λm _=>?_) (pS h x _ _);split;exact h;split
 ·refine#[h.lt x _,h.lt x _,λc=>?_]
  cases c with|true=>exact h|false=>exact ZJ x (h.rev _ _) _ _
 exact ZJ x h _ _
theorem DK(x:0<n){p:Array Nat}(h:Pm n p)(k:Nat):∀(f l r:Nat),zC n (λ_=>True) (kas_place p k f l r)
 |0,l,r=>trivial|f+1,l,r=>by
  show zC n _ (if l ≥ r then _ else _);split;exact trivial;refine#[h.lt x _,h.lt x _,λb=>?_];cases b with|true=>exact DK x h k f _ _|false=>exact DK x h k f _ _
theorem DZ(x:0<n):∀(f:Nat) {p:Array Nat}(h:Pm n p) (k:Nat),zC n (Pm n) (kas_bin f p k)
 |0,p,h,k=>h|f+1,p,h,k=>zC.bnd (λl _=>DZ x f ((bubble_perm _ _ _).trans h) _) (DK x h _ _ _ _)
theorem IN(x:0<n):zC n (Pm n) (kas_sort n):=by refine zC.bnd (λr h=>?_) (J4 x (QC9 _) _);split;exact DZ x _ h _;exact h
end
end
theorem pP{α:Type}(vs:List α)(d:α):(Qq vs.9).map (λi=>vs.getD i d)=vs:=by apply wN;intro i;rw[Qd];by_cases c:i<vs.9;rw[WZ c];simp[c];rw[qF (by simp;omega),qF ()];rfl
section
variable{prog:k5}{w:xb}{A:x0}{E:mC}{s:kt}
theorem Hs{M:Model}{vs:LW}{Q:SortKind->kt->Prop}(k:2<=vs.9)(z:∀v∈vs,s.TypeIs v "list")(h:Q ab s):ku M A (keyKind' vs.toArray) Q E s:=by
 cases vs with
 |nil=>simp at k|cons v r =>
  rw[keyKind'_eq,QCa,map_eq_pure_bind];refine QA (QA (kas_mapM (r:=kv) _ (λu y e q=>?_) (QK ?_)));rw[kas_first_eq];exact QA (W9 (z u y) (QK q));rw[QB (by simp),QB (by simp),oneTypeOnly'_eq,QCa,map_eq_pure_bind];refine QA (QA (QA (kas_mapM (r:=.type "list") _ (λu y e q=>W9 (z u y) q) (QK ?_))));have b:((v::r).map λ_=>Value.type "list").toArray[0]?=jr (.type "list"):=by simp
  have a:(((v::r).map λ_=>Value.type "list").toArray.all λx=>x==Value.type "list")=true:=by simp only[List.all_toArray,QCl,Q1];intro _ _;rfl
  rw[b];simp only[a,if_true];exact QK (QK h)
theorem Pl{a:ko}{vs:LW}{n:Nat}{P:PySem.Fin->kt->Prop}(Y:s.1.get? a=jr (ah "list" vs.toArray n))(K:vs.9<64)(S:∀v∈vs,∃b o,v=.ref b/\b≠a/\s.1.get? b=jr o/\o.cls=.type "list")
  (G:∀B:vu,(∀b o,b≠a->s.1.get? b=jr o->B.get? b=jr o)->∀x∈vs,∀y∈vs,∀C:Bool->kt->Prop,(∀k,C k { s with heap:=B })->ku (k0 prog w) A (keyLt' ab x y) C (λ_ _=>False) { s with heap:=B })
  (k:∀out:LW,out.Perm vs->P (.done (.ret .none)) { s with heap:=sortedHeap s.1 a vs out.toArray }):ku (k0 prog w) A (Builtin.«list.sort» #[[.ref a],[]]) P E s:=by
 have ha:a<s.1.1.size:=QS Y;have J:=qA s.1 a (Q5 λ_=>(#[]:Array kn));obtain⟨Z,X⟩:∃Z,(s.1.update a (Q5 λ_=>(#[]:Array kn))).get? a=jr (ah "list" #[] Z):=#[_,QAW Y λ_=>#[]]
 have r:(((s.1.update a (Q5 λ_=>(#[]:Array kn))).push (ah "tuple" vs.toArray 0)).push (ah "list" #[] 0)).get? a=jr (ah "list" #[] Z):=QH _ (QH _ X);have kept:∀b o,b≠a->s.1.get? b=jr o->(((s.1.update a (Q5 λ_=>(#[]:Array kn))).push (ah "tuple" vs.toArray 0)).push (ah "list" #[] 0)).get? b=jr o:=λb o hb e=>QH _ (QH _ ((J.2 b hb).trans e));rw[list_sort_plain];refine QA (QCm Y rfl (QA (Wk Y rfl ?_ (by rw[QM];omega) (Qn _))));refine QA (QB3 X rfl (QA (QBs ?_ (by show vs.9<=_;omega))));refine QA (QBD (qg ?_) (Qn _));show ku (k0 prog w) A _ P E { s with heap:=((s.1.update a (Q5 λ_=>(#[]:Array kn))).push (ah "tuple" vs.toArray 0)).push (ah "list" #[] 0) };dsimp only;have fin:∀out:LW,out.Perm vs->ku (k0 prog w) A (do
   let h:=(<- seqEpoch a) != Z
   QBE (.ref a) λ_=>out.toArray
   if h then rule "list.sort.modified";raiseError "ValueError" "list modified during sort"
   ret .none) P E { s with heap:=((s.1.update a (Q5 λ_=>(#[]:Array kn))).push (ah "tuple" vs.toArray 0)).push (ah "list" #[] 0) }:=λout m=>by
  have hl:=m.length_eq;refine QA (QB3 r rfl (QA (Wk r rfl ?_ (Qn _) (by rw[QM];omega))));simp only[bne_self_eq_false,Qw,if_false];exact QK (k out m)
 by_cases I:vs.9<2;have u:vs.toArray.size<2:=by rw[QM];exact I
 rw[Qc u,Qc u];refine QA (QK ?_);rw[QDA];refine QA (QK ?_);have e:(arrOf (QCb general' (vs.toArray.zip vs.toArray) #[] 7 kv)).map (·.2)=vs.toArray:=by show(vs.toArray.zip vs.toArray).map (·.2)=_;apply WU.mp;simp[WV]
 dsimp only;rw[e];exact fin vs (QBt _);have u:¬ vs.toArray.size<2:=by rw[QM];exact I
 rw[QB u,QB u];refine QA (Hs () (λv hv=>?_) ?_);let#[b,o,rfl,hb,e,c]:=S v hv;exact#[o,kept b o hb e,c];have F:QCb ab (vs.toArray.zip vs.toArray) #[] 7 kv=kas_st ab (a9 vs) (qK (Qq vs.9)):=by have e:=kas_range (a9 vs);rw[pairsOf_size]at e;show QCb ab (a9 vs) #[] 7 kv=QCb ab ((qK (Qq vs.9)).map (kas_item (a9 vs))) #[] 7 kv;rw[e]
 have all:=IN (n:=vs.9) ();have f:(kas_sort vs.9).kasWp (kas_cmp prog w A ab (a9 vs)) (λp g=>g={ s with heap:=((s.1.update a (Q5 λ_=>(#[]:Array kn))).push (ah "tuple" vs.toArray 0)).push (ah "list" #[] 0) }/\Pm vs.9 p) { s with heap:=((s.1.update a (Q5 λ_=>(#[]:Array kn))).push (ah "tuple" vs.toArray 0)).push (ah "list" #[] 0) }:=by
  rw[<- kas_ask_eq];refine zC.wp (λi j O N C H=>?_) (λp m=>#[rfl,m]) all;have gi:vs.getD i j2∈vs:=by
   have:vs.getD i j2=vs[i]:=by simp[O]
   rw[this];exact wY _
  have gj:vs.getD j j2∈vs:=by
   have:vs.getD j j2=vs[j]:=by simp[N]
   rw[this];exact wY _
  exact G _ kept _ gi _ gj C H
 have l:=kas_runs (prog:=prog) (w:=w) (A:=A) (E:=E) (Q:=λ_ z g=>∃p:Array Nat,p.size=vs.9/\arrOf z=p.map (kas_item (a9 vs))/\o9 z=kv/\g={ s with heap:=((s.1.update a (Q5 λ_=>(#[]:Array kn))).push (ah "tuple" vs.toArray 0)).push (ah "list" #[] 0) }/\Pm vs.9 p)
  () K (λM z g a1 a2 a3 a4=>#[M,a1,a2,a3,a4]) f
 rw[<- F]at l;refine QA (wK l ?_ λ_ _ e=>e);rintro⟨⟨⟩,z⟩ g ⟨p,m,W,R,rfl,L⟩;dsimp only;have q:(arrOf z).map (·.2)=qK (p.toList.map λi=>vs.getD i j2):=by apply WU.mp;rw[W,Array.map_map,Array.toList_map];exact wW λi _=>by show(kas_item (a9 vs) i).2=_;rw[kas_item_eq]
 rw[q,R];refine fin _ ?_;have:=(qX.mp L).map λi=>vs.getD i j2;refine this.trans ?_;show((Qq vs.9).map λi=>vs.getD i j2).Perm vs;rw[pP]
theorem Yb{l:ko}{vs:LW}{Q:mC}(hl:s.1.IsList l vs.toArray)(g:vs.9<64)(X:∀v∈vs,∃b o,v=.ref b/\s.1.get? b=jr o/\o.cls=.type "list")
  (i:∀f:vu,(∀b o,s.1.get? b=jr o->f.get? b=jr o)->∀x∈vs,∀y∈vs,∀C:Bool->kt->Prop,(∀k,C k { s with heap:=f })->ku (k0 prog w) A.in1.in1 (keyLt' ab x y) C (λ_ _=>False) { s with heap:=f })
  (k:∀out:LW,out.Perm vs->Q (.ref (s.1.1.size+1)) { s with heap:=sortedAll s.1 vs out.toArray }):ku (k0 prog w) A (b8 (.builtin "sorted") [.ref l]) Q E s:=by
 refine Calls.call_function_entry kind_sorted plain_sorted entry_sorted (args_sorted1 _) ?_;unfold Builtin.«sorted»;refine QA (m:=checkCount "sorted" 1 1 _) (QK (QA (collect_list hl ?_ ())));refine QA (QBD ?_ (by show vs.9<=_;omega));have u:((s.1.push (ah "list" #[] 0)).update s.1.1.size (Q5 (·++vs.toArray))).1.size=s.1.1.size+1:=by rw[QCx,size_push']
 have a:(((s.1.push (ah "list" #[] 0)).update s.1.1.size (Q5 (·++vs.toArray))).push (ah "list" vs.toArray 0)).get? (s.1.1.size+1)=jr (ah "list" vs.toArray 0):=by rw[<- u];exact QO _ rfl
 have z:∀b o,s.1.get? b=jr o->(((s.1.push (ah "list" #[] 0)).update s.1.1.size (Q5 (·++vs.toArray))).push (ah "list" vs.toArray 0)).get? b=jr o:=λb o q=>by have h:b<s.1.1.size:=QS q;refine QH _ ?_;rw[Heap.get?_update_ne _ _ _ _ (Qj h)];exact QH _ q
 show ku _ _ _ _ _ { s with heap:=((s.1.push (ah "list" #[] 0)).update s.1.1.size (Q5 (·++vs.toArray))).push (ah "list" vs.toArray 0) };rw[u];refine QA (qg (qR o2 #[_,a,rfl] ot ?body (args_list_sort _)))
 case body =>
  refine Pl (s:={ s with heap:=((s.1.push (ah "list" #[] 0)).update s.1.1.size (Q5 (·++vs.toArray))).push (ah "list" vs.toArray 0) }) a g (λv hv=>?_) (λf j x p y n C Y=>?_) λout r=>#[_,rfl,QK #[_,rfl,k out r]]
  let#[b,o,e,q,c]:=X v hv;have h:b<s.1.1.size:=QS q;exact#[b,o,e,Qj (WM h),z b o q,c];refine i f (λb o q=>?_) x p y n C Y;have h:b<s.1.1.size:=QS q;exact j b o (Qj (WM h)) (z b o q)
end
section
variable{prog:k5}{w:xb}{A:x0}
theorem zn(Z:A.handled=kv)(j:ko)(z:Src)(m:z.adr≠j)(y:Array kn)(c:Nat) :
  Draws prog w A j [j,z.adr] (c+y.size) (λi v=>∃k,i=c+k/\y[k]?=jr v) (λi h=>∃k,i=c+k/\YC h j z k/\YB h z y) where
 live:=λ_ _ #[_,_,p,_]=>let#[o,e,_]:=p.obj;#[o,e]
 frame:=λ_ h f #[k,e,p,q] u=>#[k,e,p.keep λo x=>u j (by simp) o x,by
  cases z with|l a=>exact QC5.at q λo x=>u a (by simp[Src.adr]) o x|t a=>let#[o,Y,X]:=q;exact#[o,u a (by simp[Src.adr]) o Y,X]]
 item:=λi s Q E W #[k,e,p,q] n=>by
  have hk:k<y.size:=()
  exact Jd p q (x:=y[k]) (by simp[hk]) λf g b=>n _ f s.toks #[k,e,by simp[hk]] #[k+1,(),g,Zj q b m] b
 done:=λs Q E #[k,e,p,q] r=>by
  have hk:k=y.size:=()
  exact U7 Z p q (by simp[hk]) r
theorem vn(r:A.handled=kv)(j:ko)(z:Src)(y:Array kn)(n k:Nat)(v:y[k]?=kv) :
  Draws prog w A j [j,z.adr] n (λ_ _=>False) (λi h=>i=n/\YC h j z k/\YB h z y) where
 live:=λ_ _ #[_,p,_]=>let#[o,e,_]:=p.obj;#[o,e]
 frame:=λ_ h Y #[e,p,q] u=>#[e,p.keep λo x=>u j (by simp) o x,by
  cases z with|l a=>exact QC5.at q λo x=>u a (by simp[Src.adr]) o x|t a=>let#[o,m,g]:=q;exact#[o,u a (by simp[Src.adr]) o m,g]]
 item:=λi s Q E b #[e,_,_] X=>Qe b ()
 done:=λs Q E #[_,p,q] f=>U7 r p q v f
def jAI(K:QC)(z:Src)(c:Nat):It :=
  #[λi H=>∃h x,rO K H z h/\h[i]?=jr x,
   λi H v y=>∃p x,H p=kv/\v=.ref p/\y=DA H p (.tup [.int ((c+i:Nat):Int),x])/\∀h,rO K H z h->h[i]?=jr x,
   λi H=>∃h,rO K H z h/\h.9<=i]
def yY(e j:ko)(z:Src)(c i:Nat)(h:vu):Prop:=(∃x,IsEnum h e j ((c+i:Nat):Int) x)/\YC h j z i
theorem o0{P:k5}{K:QC}{es:List Expr}{kk:Nat}{pp:Pos}{e j:ko}{z:Src}{c:Nat}(L:e≠j)(n2:z.adr≠e)(n3:z.adr≠j) :
  Turn P w K (.Tuple es kk pp) (jAI K z c) [e,j] e (yY e j z c) where
 mem:=by simp
 obj:=λi h st b hb=>by let#[#[a,g],n]:=st;simp only[QL,qh,or_false]at hb;rcases hb with rfl|rfl;exact#[_,g,λv q=>by cases(show Data.fields _=Data.cell v from q)];exact n.obj
 keep:=λi h h' st k=>by let#[#[a,g],n]:=st;exact#[#[a,k e (by simp) _ g],n.keep λo x=>k j (by simp) o x]
 item:=by
  intro X O M Q hc i r s σ H E I B st N;subst O M Q;let#[xs,x,C,ex]:=N;let#[f,J,F,_]:=I.src C;let#[u,hu,ru]:=J.get ex;let#[#[a,g],n]:=st;have hi:i<f.toArray.size:=by have:=(Qh.mp hu).1;simpa using this
  refine wpAny_pyNext_enum_itemD (zn (show X.A.in1.handled=kv from I.ok.hd hc) j z n3 f.toArray c) g #[i,rfl,n,F] () L (by simp[L,qC n2]) λy h' W #[k,ek,hy] b1 b2 b3 b4 b5=>?_;have ek:k=i:=()
  subst ek;have ey:y=u:=by
   have:f.toArray[k]?=jr u:=by simpa using hu
   rw[this]at hy;exact(Qp hy).symm
  subst ey;refine#[_,rfl,wpAny_letOwnedTupleGo_enum b1 λp c1 G=>?_];let#[k2,Z,b2,b2']:=b2;have Z:k2=k+1:=()
  subst Z;have hp:=I.hok.fresh (QV s.1.1.size);have Y:e<s.1.1.size:=QS g;have m:∀b∈[e,j],b<s.1.1.size:=λb hb=>by simp only[QL,qh,or_false]at hb;rcases hb with rfl|rfl;exact Y;exact n.lt
  have kept:∀b o,b∉[e,j]->s.1.get? b=jr o->p.get? b=jr o:=λb o hb q=>by simp only[QL,qh,or_false,not_or]at hb;exact(G.2 b hb.1).trans (b5 b o hb.1 hb.2 q)
  have l:p.get? s.1.1.size=jr { cls:=.type "tuple",data:=.seq (qK [.int ((c+k:Nat):Int) W,y]) }:=(G.2 _ (w8 Y)).trans b3;have I1:=I.pair (x:=.int ((c+k:Nat):Int)) (h':=s.1.push { cls:=.type "tuple",data:=.seq (qK [.int ((c+k:Nat):Int) W,y]) }) (t':=W+1) (λb o e=>QH _ e) (QV _) (QO _ rfl) #[_,rfl] ru;have I2:=I1.turnedL (h':=p) (t':=W+1) (ch:=[e,j]) (λb o hb e=>by
   rcases QAK e with⟨q1,q2⟩| q;subst q1 q2;exact l;exact kept b o hb q) λb hb=>by
   let#[f0,f1,f2,f3,S,R]:=B b hb;exact#[by rw[xA (Qj (m b hb))];exact f0,f1,f2,f3,S,R]
  refine#[.ref s.1.1.size,_,I2,rfl,#[s.1.1.size,x,hp,rfl,rfl,λxs' g1=>?_],#[#[y,?_],b2.keep λo q=>(G.2 _ (qC L)).trans q],λb hb=>?_];rw[I.src_inj g1 C];exact ex;have:(((c+(k+1):Nat)):Int)=((c+k:Nat):Int)+1:=()
  rw[this];exact c1;rw[xA (Qj (m b hb))];exact(B b hb).1
 done:=by intro X O M Q hc i r s σ H E I B st N;subst O M Q;let#[xs,C,en]:=N;let#[f,J,F,_]:=I.src C;let#[#[a,g],n]:=st;have l1:=J.9;let#[f0,f1,f2,f3,S,R]:=B j (by simp);exact wpAny_pyNext_enum_endD (vn (show X.A.in1.handled=kv from I.ok.hd hc) j z f.toArray 0 i (by simp;omega)) g #[rfl,n,F] λh' eb=>#[rfl,I.turned (t':=s.toks) (λb o hb e=>eb b o hb e) f0 f1 f3 S R]
 self:=λ_ _ _ _ _ st h=>by let#[#[a,g],_]:=st;exact QCc g h
end
theorem A3(z:Src)(xs:Array kn):Meets (Builtin.«enumerate.__new__» #[[.type "enumerate",.ref z.adr],[]]) (λ_ R s=>YB s.1 z xs /\
   R (.ok (.ret (.ref (s.1.push z.it).1.size))) { s with heap:=(s.1.push z.it).push { cls:=.type "enumerate",data:=.fields (qK [.none,.bool kd,.ref s.1.1.size,hQ 0,.none,.none]) } }) :=
 .of_wp λy w A R s h=>by
  let#[b,g,d,v,a]:=s;let#[k,h]:=h;have u:=sub_enumerate;have x:YB (Shared.heap #[b,g,d,v,a]) z xs:=k;wp_walk;refine wpAny_stack_any λst=>QK ?_;split;rename_i cl _ _ _ _ _;cases(cl==Value.type "enumerate")<;>(wp_walk using yT x;exact#[_,rfl,h])
  wp_walk using yT x;exact#[_,rfl,h]
section
variable{prog:k5}{w:xb}{A:x0}{E:mC}{s:kt}
theorem sZ{h:vu}{z:Src}{n:Int}:IsEnum ((h.push z.it).push { cls:=.type "enumerate",data:=.fields (qK [.none,.bool kd,.ref h.1.size,hQ n,.none,.none]) }) (h.1.size+1) h.1.size n .none:=by have:=QO (h.push z.it) (o:={ cls:=.type "enumerate",data:=.fields (qK [.none,.bool kd,.ref h.1.size,hQ n,.none,.none]) }) rfl;rw[WG]at this;exact this
theorem LX{z:Src}{xs:Array kn}{Q:mC}(y:YB s.1 z xs)
  (h:∀h',yY (s.1.1.size+1) s.1.1.size z 0 0 h'->(∀c o,s.1.get? c=jr o->h'.get? c=jr o)->Q (.ref (s.1.1.size+1)) { s with heap:=h' }):ku (k0 prog w) A (b8 (.type "enumerate") [.ref z.adr]) Q E s:=by
 refine callType_new PySem.F.called_enumerate (by decide) (PySem.F.typeCall_enumerate_1 _) (PySem.F.newCall_enumerate_1 _) (λobj=>PySem.F.args_object_init_2 obj _) PySem.F.entry_enumerate_new (A3 z xs) #[y,?_];show _/\_;rw[WG];exact#[#[_,sZ,rfl],h _ #[#[.none,sZ],(Jb s.1 z).keep λo e=>QH _ e] λc o x=>QH _ (QH _ x)]
end
theorem cz{a b:Nat}(h:a≠b):((a:ko)≠(b:ko)):=h
theorem US{n x h:Nat}(z:x<n)(y:h<n):ZipApart ((n+4:Nat):ko) ((n+2:Nat):ko) ((n+3:Nat):ko) (n:ko) ((n+1:Nat):ko) (x:ko) (h:ko):=by constructor<;>(apply cz;omega)
theorem aP:nP (.type "list_reverseiterator") "__len__"=ak none:=by rw[mA,QBc];kernel_rfl
theorem sU:nP (.type "list_reverseiterator") "__length_hint__"=ak (jr (.builtin "list_reverseiterator.__length_hint__")):=by rw[mA,QBc];kernel_rfl
section
variable{a:k5}{u:xb}{Ar:x0}{f:mC}{h:kt}{d:mC}
noncomputable abbrev N7:Obj:={ cls:=.type "list",data:=.seq #[] }
theorem jP{j l:ko}{xs:Array kn}(P:Ar.handled=kv)(M:l≠j)(I:h.1.IsRevIter j l ((xs.size:Int) - 1))(K:h.1.IsList l xs)(O:xs.size<=kb)
  (k:∀s' g c,(∀b o,b≠j->h.1.get? b=jr o->s'.1.get? b=jr o)->s'.gens=h.gens->s'.drawn=h.drawn->s'.os=h.os ->
   s'.1.get? h.1.1.size=jr { cls:=.type "list",dict:=kv,data:=.seq g c,slots:=#[] }->nj (λi v=>xs[xs.size - 1 - i]?=jr v) g xs.size->d (.ref h.1.1.size) s') :
  ku (k0 a u) Ar (b8 (.type "list") [.ref j]) d f h:=by
 have W:=(Walks.listRev (prog:=a) (w:=u) (A:=Ar.in1.in1) P j l M xs).toS;have ty:∀{i:Nat}{q:kt},(i<=xs.size/\q.1.IsRevIter j l ((xs.size:Int) - 1 - (i:Int))/\q.1.IsList l xs)->q.TypeIs (.ref j) "list_reverseiterator":=λz=>z.2.1.typeIs;let#[oj,S,_]:=id I;let#[ol,R,_]:=id K;have C:=QS S;have B:=QS R;generalize hn:h.1.1.size=n at C B k;have Z:n∉[j,l]:=λz=>by rcases QL.mp z with z|z;exact qG _ (z▸C);exact qG _ (QJ.mp z▸B)
 have N:n≠j:=λz=>Z (z▸QD);refine pc (Q₁:=λp q=>p=.ref n/\q={ h with heap:=h.1.push N7 }) F.called_list (F.typeCall_list_1 _) F.entry_list_init (code_list_new _ #[by rw[hn],rfl]) ?_;rintro p q ⟨rfl,rfl⟩;have X:(h.1.push N7).get? n=jr N7:=hn▸QO _ rfl;refine#[#[_,X,rfl],F.args_list_init_2 _ _,?_];show ku _ Ar.in1.in1 (do let Y <- QBQ (.ref n);QBE (.ref n) (λ_=>#[]);letGo Y.toList.reverse;qt (.ref n) (.ref j) .none) _ _ _;unfold QBQ;refine QA (QA (QAq X rfl (QK (QA (m:=updateSeq n λ_=>#[]) (wpAny_updateSeq X rfl (QA (QC7 ?_)))))));have H:=wb (Q5 λ_=>(#[]:Array kn)) X rfl;have G:∀b o,b≠n->h.1.get? b=jr o->((h.1.push N7).update n (Q5 λ_=>(#[]:Array kn))).get? b=jr o:=λb o z e=>(Wr _ _ (qC z)).trans (QH _ e);have J:0<=xs.size/\h.1.IsRevIter j l ((xs.size:Int) - 1 - ((0:Nat):Int))/\h.1.IsList l xs:=#[Qn _,by simpa using I,K]
 have r:=W.frame 0 h _ h.toks J (QV _) λb hb o e=>G b o (λz=>Z (z▸hb)) e;have L:QA3 (.ref n) (.ref j)=false:=beq_eq_false_iff_ne.mpr N;unfold qt QAX;refine QA (W9 (ty r) ?_);rw[QB (by simp only[L];decide)];refine QA (W.self 0 _ _ _ r (QA (qg (QA (Wf (ty r) aP ?_)))));show ku _ _ (specialOf (.ref j) (QY "__length_hint__") >>= _) _ _ _;refine QA (Wf (ty r) sU ?_);generalize hx:("list_reverseiterator.__length_hint__":String)=x
 wp_delta
 rw[show splitId x=jr ("list_reverseiterator","__length_hint__") by rw[<- hx];decide +kernel];subst hx;refine QA (WT (b:=kf) (ty r) (by rw[pL];kernel_rfl) (QK ?_));rw[QB (by decide)];refine QK #[WN QB4 _,QBl W O _ Z _ xs.size 0 _ _ _ rfl (Qn _) r H (ItemsOf.nil _) ?_];intro s' g c s Q it;refine#[rfl,k s' g c (λb o z e=>?_) s.gens s.drawn s.os Q it];have E:b<n:=hn▸QS e;exact s.1 b o (λm=>(QL.mp m).elim (λy=>qG _ (y▸E)) λy=>z (QJ.mp y)) (G b o (Qj E) e)
end
def dW(K:QC)(x:V)(H:Hp)(Q:VK):Prop:=∃p h,x=.ref p/\uC K H p h/\∀l,H l=kv->Q (.ref l) (DA H l (.lst h.reverse))
theorem CP{its:LW}{x:Array kn}(h:nj (λi v=>its.toArray[its.toArray.size - 1 - i]?=jr v) x its.toArray.size):x.toList=its.reverse:=by
 let#[y,z]:=h;have y:x.toList.9=its.length:=y;refine List.ext_getElem (by rw[y,qj]) λi a b=>?_;have:=z i x[i] (Array.getElem?_eq_getElem a);have e:its[its.9 - 1 - i]?=jr x[i]:=by simpa only[List.getElem?_toArray,QM]using this
 rw[Qk ()]at e;rw[List.getElem_reverse];exact(Qp e).symm
section
variable{X:Cx}{a:Expr}{ta:TE}{v p2 pos y:Pos}
theorem vk(hc:X.calm=kf)(g1:Gl X "list")(g2:Gl X "reversed")(P:X.mg "list"=kv)(O:X.mg "reversed"=kv)(ha:PE X a ta)(st:xk [a] X.env=(kd,gp a X.env)::xk [] X.env) :
  PE X (.Call (.Name "list" v) [.Call (.Name "reversed" p2) [a] [] y] [] pos) λσ H Q=>ta σ H λx E=>dW X.K x E Q:=by
 intro g s σ H Q I h;refine qb (ZC I g1 P QBR ?_);refine Q3 ?_ rfl rfl;show ku _ _ (bb ((kd,gp (.Call (.Name "reversed" p2) [a] [] y) X.env)::[])) _ _ s;refine qp ?_;refine qb (ZC I g2 O WO ?_);refine Q3 ?_ st rfl;rw[st];show ku _ _ (bb ((kd,gp a X.env)::[])) _ _ s;refine qp (FB (ha g s σ H _ I h) λu f #[x,E,l,J,p,F,e,hq,q]=>wP ?_);subst e;cases J;let#[k,W,L,S]:=l.list hq;have C:=W.9;have hl:=L.isList;refine QAj hl (wP ?_);let#[ol,n,_]:=id hl;have lt:=QS n;have M:p≠f.1.1.size:=Qj lt;have hd:X.A.handled=none:=l.ok.hd hc;have r:(f.1.push (lv p ((k.toArray.size:Int) - 1))).IsList p k.toArray:=hl.at λo e=>QH _ e;have m:(f.1.push (lv p ((k.toArray.size:Int) - 1))).IsRevIter f.1.1.size p ((k.toArray.size:Int) - 1 - ((0:Nat):Int)):=#[_,QO _ rfl,rfl,by simp[lv]]
 refine jP hd (by exact M) (by simpa using m) r (by rw[QM];omega) λZ j c' N e1 e2 e3 Y i=>?_;have ea:=CP i;have R:∀b o,f.1.get? b=jr o->Z.1.get? b=jr o:=λb o e=>N b o (λz=>qG _ (z▸QS e)) (QH _ e);let#[B,gs,dr,G,oo]:=Z;cases e1;cases e2;cases e3;refine#[.ref (f.1.push (lv p ((k.toArray.size:Int) - 1))).1.size,_,l.laid (t':=G) (h':=B) R (by rw[WG];omega) (show BA X.prog X.w _ B _ (.lst F.reverse) from#[by rw[qj];exact S,j.toList,c',by rw[ea];exact W.reverse,Y]),rfl,q _ (l.hok.fresh (by rw[WG];omega))]
end
def cW(K:QC)(x:V)(H:Hp)(Q:VK):Prop:=∃p h,x=.ref p/\uC K H p h/\∀l,H l=kv->Q (.ref l) (DA H l (.tup h.reverse))
section
variable{X:Cx}{a:Expr}{ta:TE}{Y p2 pos t:Pos}
section
variable{g:k5}{f:xb}{Ar:x0}{r:mC}{d:kt}{j l:ko}{xs:Array kn}
theorem GU{I:LW->kt->Prop}(P:Ar.handled=kv)(M:l≠j)(F:d.1.IsRevIter j l ((xs.size:Int) - 1))(Z:d.1.IsList l xs)(O:xs.size<=kb)
  (k:∀s' h,(∀b o,b≠j->d.1.get? b=jr o->s'.1.get? b=jr o)->s'.gens=d.gens->s'.drawn=d.drawn->s'.os=d.os->d.1.1.size<s'.1.1.size->nj (λi v=>xs[xs.size - 1 - i]?=jr v) h xs.size->I h.toList s') :
  ku (k0 g f) Ar (tt (.ref j)) I r d:=by
 have W:=(Walks.listRev (prog:=g) (w:=f) (A:=Ar.in1) P j l M xs).toS;have ty:∀{i:Nat}{q:kt},(i<=xs.size/\q.1.IsRevIter j l ((xs.size:Int) - 1 - (i:Int))/\q.1.IsList l xs)->q.TypeIs (.ref j) "list_reverseiterator":=λz=>z.2.1.typeIs;let#[oj,R,_]:=id F;let#[H,Q,_]:=id Z;have B:=QS R;have K:=QS Q;generalize hn:d.1.1.size=n at B K k;have s:n∉[j,l]:=λz=>by rcases QL.mp z with z|z;exact qG _ (z▸B);exact qG _ (QJ.mp z▸K)
 have N:n≠j:=λz=>s (z▸QD);unfold tt;refine QA (pR (wx QBd ?_));rw[qu QBe _];show ku _ Ar.in1 (tv [] >>= λl=>again (.builtin "list.__iadd__" #[[l,.ref j],[]])) _ _ d;refine QA (Qy ?_);rw[hn];refine QK #[WN Wx _,wx QCd ?_];rw[qu Wx _];have S:(d.1.push { cls:=.type "list",data:=.seq ([]:LW).toArray }).get? n=jr N7:=hn▸QO _ rfl;have E:∀b o,b≠n->d.1.get? b=jr o->(d.1.push { cls:=.type "list",data:=.seq ([]:LW).toArray }).get? b=jr o:=λb o _ e=>QH _ e;have J:0<=xs.size/\d.1.IsRevIter j l ((xs.size:Int) - 1 - ((0:Nat):Int))/\d.1.IsList l xs:=#[Qn _,by simpa using F,Z]
 have u:=W.frame 0 d _ d.toks J (QV _) λb hb o e=>E b o (λz=>s (z▸hb)) e;show ku _ Ar.in1 (qt (.ref n) (.ref j) (.ref n)) _ _ _;have L:QA3 (.ref n) (.ref j)=false:=beq_eq_false_iff_ne.mpr N;unfold qt QAX;refine QA (W9 (ty u) ?_);rw[QB (by simp only[L];decide)];refine QA (W.self 0 _ _ _ u (QA (qg (QA (Wf (ty u) aP ?_)))));show ku _ _ (specialOf (.ref j) (QY "__length_hint__") >>= _) _ _ _;refine QA (Wf (ty u) sU ?_);generalize hx:("list_reverseiterator.__length_hint__":String)=x
 wp_delta
 rw[show splitId x=jr ("list_reverseiterator","__length_hint__") by rw[<- hx];decide +kernel];subst hx;refine QA (WT (b:=kf) (ty u) (by rw[pL];kernel_rfl) (QK ?_));rw[QB (by decide)];refine QK #[WN QB4 _,QBl W O _ s _ xs.size 0 _ _ _ rfl (Qn _) u S (ItemsOf.nil _) λs' h c p G it=>?_];show ku _ Ar (load n >>= _) _ _ s';refine QA (QDG G (QK (k s' h (λb o z e=>?_) p.gens p.drawn p.os (QS G) it)));have C:b<n:=hn▸QS e;exact p.1 b o (λm=>(QL.mp m).elim (λy=>qG _ (y▸C)) λy=>z (QJ.mp y)) (E b o (Qj C) e)
theorem PN{w:mC}(W:Ar.handled=kv)(q:l≠j)(m:d.1.IsRevIter j l ((xs.size:Int) - 1))(s:d.1.IsList l xs)(n:xs.size<=kb)
  (k:∀(s':kt) (h:Array kn),(∀b o,b≠j->d.1.get? b=jr o->s'.1.get? b=jr o)->s'.gens=d.gens->s'.drawn=d.drawn->s'.os=d.os->d.1.1.size<s'.1.1.size->nj (λi v=>xs[xs.size - 1 - i]?=jr v) h xs.size->w (.ref s'.1.1.size) { s' with heap:=s'.1.push { cls:=.type "tuple",data:=.seq h } }) :
  ku (k0 g f) Ar (b8 (.type "tuple") [.ref j]) w r d:=by
 refine pc (Q₁:=λobj x=>x.TypeIs obj "tuple"/\w obj x) QBu (F.typeCall_tuple_1 _) F.entry_object_init (codeAny_of_tree ?_) λobj x y=>#[y.1,F.args_object_init_2 obj _,object_init_meets QBu.init.lookup QBu.made (by decide) g f _ _ x #[y.1,rfl,y.2]]
 show ku _ _ (do checkBuiltinCall "tuple.__new__" #[[.type "tuple",.ref j],[]];again (.builtin "tuple.__new__" #[[.type "tuple",.ref j],[]])) _ _ d;refine QA (QB2 (F.newCall_tuple_1 _) (QK #[WN QCe _,wx F.entry_tuple_new ?_]));rw[qu QCe _];have p:=sub_tuple_self;have u:=init_tuple_lookup;have Z:=madeHere_tuple;have ty:d.TypeIs (.ref j) "list_reverseiterator":=m.typeIs;wp_walk using W9 ty,GU (Ar:=Ar.in1.in1) W q m s n;intro s' h E C B A K z;show ku _ _ (ql h.toList.toArray >>= λv=>ret v) _ _ _;unfold ql;have e:h.toList.toArray=h:=by simp
 rw[e];exact QA (Qy (QK #[#[_,QO _ rfl,rfl],k s' h E C B A K z]) (by show h.size<=kb;rw[z.1];exact n))
theorem Ij(hc:X.calm=kf)(g1:Gl X "tuple")(g2:Gl X "reversed")(m1:X.mg "tuple"=kv)(m2:X.mg "reversed"=kv)(ha:PE X a ta)(st:xk [a] X.env=(kd,gp a X.env)::xk [] X.env) :
  PE X (.Call (.Name "tuple" Y) [.Call (.Name "reversed" p2) [a] [] t] [] pos) λσ H Q=>ta σ H λx M=>cW X.K x M Q:=by
 intro i s σ H Q I h;refine qb (ZC I g1 m1 (by kernel_rfl:y1 ("tuple":Str)=jr (.type "tuple")) ?_);refine Q3 ?_ rfl rfl;show ku _ _ (bb ((kd,gp (.Call (.Name "reversed" p2) [a] [] t) X.env)::[])) _ _ s;refine qp ?_;refine qb (ZC I g2 m2 WO ?_);refine Q3 ?_ st rfl;rw[st];show ku _ _ (bb ((kd,gp a X.env)::[])) _ _ s;refine qp (FB (ha i s σ H _ I h) λu k #[x,M,W,P,p,N,e,hq,q]=>wP ?_);subst e;cases P;let#[v,J,R,hz]:=W.list hq;have L:=J.9;have hl:=R.isList;refine QAj hl (wP ?_);let#[ol,E,_]:=id hl;have lt:=QS E;have S:p≠k.1.1.size:=Qj lt;have hd:X.A.handled=none:=W.ok.hd hc;have F:(k.1.push (lv p ((v.toArray.size:Int) - 1))).IsList p v.toArray:=hl.at λo e=>QH _ e;have B:(k.1.push (lv p ((v.toArray.size:Int) - 1))).IsRevIter k.1.1.size p ((v.toArray.size:Int) - 1 - ((0:Nat):Int)):=#[_,QO _ rfl,rfl,by simp[lv]]
 refine PN hd (by exact S) (by simpa using B) F (by rw[QM];omega) λG y mv e1 e2 e3 n Z=>?_;have ea:=CP Z;have kp:∀b o,k.1.get? b=jr o->G.1.get? b=jr o:=λb o e=>mv b o (λz=>qG _ (z▸QS e)) (QH _ e);let#[C,gs,dr,O,oo]:=G;cases e1;cases e2;cases e3;have m:k.1.1.size<C.1.size:=by rw[WG]at n;exact Nat.lt_of_succ_lt n
 refine#[.ref C.1.size,_,W.laid (t':=O) (h':=C.push { cls:=.type "tuple",data:=.seq y }) (λb o e=>QH _ (kp b o e)) (W8 m) (show BA X.prog X.w _ _ _ (.tup N.reverse) from#[by rw[qj];exact hz,y.toList,by rw[ea];exact J.reverse,?_]),rfl,q _ (W.hok.fresh (W8 m))];have e:y=y.toList.toArray:=by simp
 rw[e];exact QC3 _ _
end
end
noncomputable def jAD(K:QC)(a:ko)(n:Nat):It :=
 #[λi H=>i<n/\∃h x,uC K H a h/\h[n - 1 - i]?=jr x,λi H x y=>y=H/\∀h,uC K H a h->h[n - 1 - i]?=jr x,λi _=>n<=i]
theorem X5{P:k5}{w:xb}{K:QC}{L:Expr}(a it:ko)(n:Nat):Turn P w K L (jAD K a n) [it] it (λi h=>i<=n/\h.IsRevIter it a ((n:Int) - 1 - (i:Int))) where
 mem:=by simp
 obj:=λi h st b hb=>by
  have e:b=it:=by simpa using hb
  subst e;let#[_,o,e,c,d]:=st;exact#[o,e,λv z=>by rw[d]at z;cases z]
 keep:=λi h m st k=>#[st.1,st.2.at λo e=>k it (by simp) o e]
 item:=by intro X r q Y hc i f s F H E I l st j;subst r q Y;let#[hi,xs,x,J,G]:=j;let#[Q,N,p,hz]:=I.list J;let#[u,S,O]:=N.get G;let#[C,B,f2,A,W,Z]:=l it (by simp);have y:=st.2;rw[show(n:Int) - 1 - (i:Int)=((n - 1 - i:Nat):Int) by omega]at y;refine wpAny_pyNext_rev_item y p.isList (x:=u) (by simpa using S) λm g M=>?_;have I1:Inv X f F H { s with heap:=m }:=I.turned (t':=s.toks) (λb o hb e=>(M.2 b hb).trans e) C B A W Z;let#[o,e,c,d]:=id g;rw[show((n - 1 - i:Nat):Int) - 1=(n:Int) - 1 - ((i+1:Nat):Int) by omega]at g;exact#[u,rfl,go_of (s:={ s with heap:=m }) e c d (by decide) #[x,H,I1,O,#[rfl,λys R=>by rw[I.list_inj R J];exact G],#[hi,g],λb hb=>(l b hb).1]]
 done:=by intro X r q Y hc i f s F H E I l st j;subst r q Y;let#[C,B,f2,A,W,Z]:=l it (by simp);have j:n<=i:=j;have y:=st.2;rw[show(n:Int) - 1 - (i:Int)=-1 by have:=st.1;omega]at y;exact wpAny_pyNext_rev_end (I.ok.hd hc) y λm eb=>#[rfl,I.turned (t':=s.toks) (λb o hb e=>eb b o hb e) C B A W Z]
 self:=λ_ _ _ _ _ st h=>QBm st.2 h
inductive Bi where
 |len|any|all|min|list|sorted|tuple
 deriving DecidableEq
inductive Mt where
 |append|pop|setd|extend|index|lix
 deriving DecidableEq
inductive ItK where
 |val|rng1|enum|itm|rev|zip2
 deriving DecidableEq
inductive Tg where
 |nm (i:Nat)|tp (is:LN)
 deriving DecidableEq
set_option genSizeOf false in
set_option genInjectivity false in
inductive PX where
 |var (i:Nat)|int (i:Int)|str (x:Str)|bl (b:Bool)|non
 |glo (x:Str)|bty (x:Str) (n:String)
 |bin (op:g6) (a b:PX)
 |cmp (op:fv) (a b:PX)
 |and (a b:PX)|or (a b:PX)|not (a:PX)|ife (c a b:PX)
 |call (f:Str) (as:PX)
 |bi (f:Bi) (as:PX)|isi (a c:PX)
 |mt (m:Mt) (o as:PX)
 |idx (a b:PX)|slc (a lo hi:PX)|nop
 |lst (as:PX)|tup (as:PX)|dnew (b:Bool)|dsp (a b:PX)
 |comp (mask:List Bool) (tgs:LS) (tg:Tg) (ik:ItK) (its cond elt:PX)
 |anil|acons (a as:PX)|ng (i:Int)|lrv (a:PX)|trv (a:PX)
structure Ev where
 sp:Str->Sp
 va:Str->V
structure W3 where
 e:TE
 t:TT
 a:TA
def never:W3:=#[λ_ _ _=>False,λ_ _ _=>False,λ_ _ _=>False]
def TF(K:QC)(x:V)(H:Hp)(Q:Bool->Hp->Prop):Prop:=match x with
 | .bl b=>Q b H|.int i=>Q (i != 0) H|.non=>Q kd H|.str z=>z.9<=kb/\Q ((z.9:Int) != 0) H|x=>∃k,Zo K x H k/\Q k H
def P9(x:V)(H:Hp)(Q:Bool->Hp->Prop):Prop:=match x with
 | .bl b=>Q b H|_=>False
def Te(K:QC):g6->R2
 | .Add=>Nq K|.Sub=>Zq|.Mult=>Uq K|.FloorDiv=>Ff|.Mod=>Bq|_=>λ_ _ _ _=>False
noncomputable def bZ(neg:Bool):R2:=λx y H Q=>match y with
 | .non=>Q (.bl (if neg then !decide (x=.non) else decide (x=.non))) H|.bl c=>∃b,x=.bl b/\Q (.bl (if neg then !decide (b=c) else decide (b=c))) H|_=>False
def e9(K:QC):fv->R2
 | .Eq=>rEq K kd|.NotEq=>rEq K kf|.Lt=>N0 λi j=>decide (i<j)|.LtE=>N0 λi j=>decide (i<=j)|.Gt=>N0 λi j=>decide (j<i)|.GtE=>N0 λi j=>decide (j<=i)|.In=>pT K kd|.NotIn=>pT K kf|.Is=>bZ kd|.IsNot=>bZ kf
def O0(K:QC):R2:=λx y H Q=>match x,y with
 | .str z,.int i=>z.9<=kb/\∃c,AC z.cps.toList i=jr c/\Q (.str #[(qK [c])]) H|.ref a,.int i=>∃h v,(uC K H a h∨rD K H a h)/\AC h i=jr v/\Q v H|.ref a,.str z=>∃v,iS K H a (.str z) (jr v)/\Q v H|.ref a,.ref b=>∃v,iS K H a (.ref b) (jr v)/\Q v H|_,_=>False
def Lb(K:QC):LV->Hp->VK->Prop:=λx H Q=>∃p h,x=[.ref p]/\(uC K H p h∨rD K H p h)/\∀l,H l=kv->Q (.ref l) (DA H l (.lst h))
def ZY(K:QC):LV->Hp->VK->Prop:=λk H Q=>∃p,k=[.ref p]/\((∃z:LS,uC K H p (z.map V.str)/\z.9<64/\∀l h,H l=kv->h.Perm z->i0 h=kf->Q (.ref l) (DA H l (.lst (h.map V.str)))) ∨
   (∃u,uC K H p u/\u.9<64/\(∀x∈u,∃a,∃z:LS,x=.ref a/\uC K H a (z.map V.str))/\∀l w,H l=kv->w.Perm u->Q (.ref l) (DA H l (.lst w))) ∨
   (∃v:LJ,uC K H p (v.map V.int)/\v.9<64/\∀l (y:LJ),H l=kv->y.Perm v->y.Pairwise (·<=·)->Q (.ref l) (DA H l (.lst (y.map V.int)))))
def r6(K:QC):LV->Hp->VK->Prop:=λx H Q=>∃p h,x=[.ref p]/\uC K H p h/\∀l,H l=kv->Q (.ref l) (DA H l (.tup h))
def zu(K:QC):Bi->LV->Hp->VK->Prop
 | .len=>Dq K|.all=>Mq K|.any=>Lq K|.list=>Lb K|.sorted=>ZY K|.min=>λh H Q=>∃i j,h=[.int i,.int j]/\Q (.int (if j<i then j else i)) H|.tuple=>r6 K
def Df:V->LV->Hp->VK->Prop:=λx y H Q=>∃l i h k v,x=.ref l/\y=[.int i]/\H l=jr (.lst h)/\XS h.9 i=jr k/\h[k]?=jr v/\Q v (DA H l (.lst (h.eraseIdx k)))
def Gf:V->LV->Hp->VK->Prop:=λx z H Q=>∃l b y h,x=.ref l/\z=[.ref b]/\H l=jr (.lst y)/\H b=jr (.lst h)/\y.9+h.9<=kb/\Q .non (DA H l (.lst (y++h)))
def t6:V->LV->Hp->VK->Prop:=λx u H Q=>∃z y i h,x=.str z/\u=[.str y]/\qH z y 0 z.9 1=i::h/\Q (.int (i:Int)) H
def Cq(K:QC):V->LV->Hp->VK->Prop:=λx y H Q=>∃p,∃h:LJ,∃i,x=.ref p/\uC K H p (h.map V.int)/\QAY (.list (h.map .int))=kf/\y=[.int i]/\i∈h/\Q (.int ((h.idxOf i:Nat):Int)) H
def Dd(K:QC):Mt->V->LV->Hp->VK->Prop
 | .append=>KY|.pop=>Df|.setd=>HL K|.index=>t6|.lix=>Cq K|.extend=>Gf
noncomputable def Mt.ty:Mt->String
 | .append=>"list"|.pop=>"list"|.setd=>"dict"|.index=>"str"|.lix=>"list"|.extend=>"list"
def TM(x:V)(H:Hp)(Q:Option Int->Hp->Prop):Prop:=match x with
 | .int i=>Q (jr i) H|_=>False
inductive Item where
 |one (v:V)|tup (vs:LV)
def cC(K:QC):ItK->LV->Hp->(List Item->(Hp->Prop)->Hp->Prop)->Prop
 | .val,[.ref a],H,R=>(∃h,uC K H a h/\R (h.map .one) (λH=>uC K H a h) H)∨(∃h,rD K H a h/\R (h.map .one) (λH=>rD K H a h) H)∨(∃y,∃x:List KE,H a=jr (.dT y x)/\R (x.map λp=>.one (.ref p.2.1)) (λH=>H a=jr (.dT y x)) H)|.rng1,[.int j],H,R=>(-(2 ^ 62)<=j/\j<2 ^ 62)/\R ((Qq j.toNat).map λ(i:Nat)=>.one (.int (i:Int))) (λ_=>True) H|.zip2,[.ref a,.ref b],H,R=>∃h u,uC K H a h/\uC K H b u/\R ((h.zip u).map λp=>.tup [p.1,p.2]) (λH=>rO K H (.l a) h/\rO K H (.l b) u) H|.enum,[.ref a],H,R=>∃z h,Src.adr z=a/\rO K H z h/\R (h.zipIdx.map λp=>.tup [.int (p.2:Int),p.1]) (λH=>rO K H z h) H|.rev,[.ref a],H,R=>∃h,uC K H a h/\R (h.reverse.map .one) (λH=>uC K H a h) H|.itm,[.ref a],H,R=>∃y,∃x:List KE,H a=jr (.dT y x)/\R (x.map λp=>.tup [.ref p.2.1,p.2.2]) (λH=>H a=jr (.dT y x)) H|_,_,_,_=>False
noncomputable def dB:LN->LV->St->Option St
 |[],[],σ=>jr σ|i::is,v::vs,σ=>dB is vs (σ.set i (jr v))|_,_,_=>kv
def aG(K:QC):Tg->TG
 | .nm i=>λv x H Q=>Q (x.set i (jr v)) H|.tp z=>λv x H Q=>match v with
  | .ref p=>∃y h,rD K H p y/\dB z y x=jr h/\Q h H|_=>False
def bindI(K:QC)(z:Tg):Item->St->Hp->(St->Hp->Prop)->Prop
 | .one v=>aG K z v|.tup y=>λx H Q=>match z with
  | .tp w=>∀u,Same H u->∃h,dB w y x=jr h/\Q h u|.nm i=>∀p,H p=kv->Q (x.set i (jr (.ref p))) (DA H p (.tup y))
def Zt(K:QC)(xs:List Item)(st:Hp->Prop)(bind:Item->St->Hp->(St->Hp->Prop)->Prop)(tc:TT)(te:TE)(σ:St)(H:Hp)(Q:VK):Prop :=
 ∃W:Nat->LV->Hp->Prop,W 0 [] H/\(∀i h H,i<=xs.9->W i h H->st H) /\
  (∀i x h H,xs[i]?=jr x->W i h H->bind x σ H λz u=>tc z u λb v=>if b=kf then te z v λy w=>h.9<kb/\W (i+1) (h++[y]) w else W (i+1) h v) /\
  ∀h u,W xs.9 h u->h.9<=kb/\∀p,u p=kv->Q (.ref p) (DA u p (.lst h))
structure Yields(J:It)(xs:List Item)(st:Hp->Prop):Prop where
 go:∀i H,st H->i<xs.9->J.go i H
 yld:∀i H x H',st H->i<xs.9->J.yld i H x H'->∃it,xs[i]?=jr it/\match it with
  | .one v=>x=v/\H'=H|.tup vs=>∃p,H p=kv/\x=.ref p/\H'=DA H p (.tup vs)
 stop:∀i H,st H->xs.9<=i->J.stop i H
def Kt(J:It)(g:TG)(tc:TT)(te:TE)(k:St)(l:Hp)(Q:VK):Prop:=∃W:Nat->Nat->LV->St->Hp->Prop,(∃m,W 0 m [] k l) /\
 ∀i m h v u,W i m h v u->(J.stop i u/\h.9<=kb/\∀p,u p=kv->Q (.ref p) (DA u p (.lst h))) ∨
  (J.go i u/\∀x e,J.yld i u x e->g x v e λz j=>tc z j λb a=>if b=kf then te z a λy f=>h.9<kb/\∃w,w < m/\W (i+1) w (h++[y]) z f else ∃w,w < m/\W (i+1) w h z a)
def RZ(K:QC)(xs:List Item)(st:Hp->Prop)(x:Tg)(tc:TT)(te:TE)(h:St)(H:Hp)(Q:VK):Prop:=∀J,Yields J xs st->Kt J (aG K x) tc te h H Q
def isNop:PX->Bool
 | .nop=>kf|_=>kd
def wp(K:QC)(Γ:Ev):PX->XK->W3
 | .var i,E=>let e:TE:=λh H Q=>match h[i]? with
   |some (jr v)=>Q v H|_=>False
  #[e,λh H Q=>e h H λx z=>TF K x z Q,never.a]
 | .int i,E=>#[λ_ H Q=>Q (.int i) H,λ_ H Q=>Q (i != 0) H,never.a]|.str x,E=>#[λ_ H Q=>Q (.str x) H,never.t,never.a]|.bl b,E=>#[λ_ H Q=>Q (.bl b) H,λ_ H Q=>Q b H,never.a]|.non,E=>#[λ_ H Q=>Q .non H,λ_ H Q=>Q kd H,never.a]|.glo x,E=>#[λ_ H Q=>Q (Γ.va x) H,λ_ H Q=>TF K (Γ.va x) H Q,never.a]|.bty _ n,E=>#[λ_ H Q=>Q (.ty n) H,never.t,never.a]|.bin op a b,E=>let e:TE:=λh H Q=>(wp K Γ a E).e h H λx z=>(wp K Γ b E).e h z λy w=>Te K op x y w Q
  #[e,λh H Q=>e h H λx z=>TF K x z Q,never.a]
 | .cmp op a b,E=>let e:TE:=λh H Q=>(wp K Γ a E).e h H λx z=>(wp K Γ b E).e h z λy w=>e9 K op x y w Q
  #[e,λh H Q=>e h H λx z=>P9 x z Q,never.a]
 | .and a b,E=>#[λh H Q=>(wp K Γ a E).e h H λx z=>P9 x z λc w=>if c=kf then(wp K Γ b E).e h w Q else Q (.bl kd) w,
   λh H Q=>(wp K Γ a E).t h H λc z=>if c=kf then(wp K Γ b E).t h z Q else Q kd z,never.a]
 | .or a b,E=>#[λh H Q=>(wp K Γ a E).e h H λx z=>P9 x z λc w=>if c=kf then Q (.bl kf) w else(wp K Γ b E).e h w Q,
   λh H Q=>(wp K Γ a E).t h H λc z=>if c=kf then Q kf z else(wp K Γ b E).t h z Q,never.a]
 | .not a,E=>#[λh H Q=>(wp K Γ a E).e h H λx z=>TF K x z λc w=>Q (.bl (!c)) w,λh H Q=>(wp K Γ a E).t h H λc z=>Q (!c) z,never.a]|.ife c a b,E=>#[λh H Q=>(wp K Γ c E).t h H λk z=>if k=kf then(wp K Γ a E).e h z Q else(wp K Γ b E).e h z Q,never.t,never.a]|.call f as,E=>let e:TE:=λh H Q=>(wp K Γ as E).a h H λj z=>Γ.sp f j z Q E
  #[e,λh H Q=>e h H λx z=>TF K x z Q,never.a]
 | .bi f as,E=>let e:TE:=λh H Q=>(wp K Γ as E).a h H λj z=>zu K f j z Q
  #[e,λh H Q=>e h H λx z=>TF K x z Q,never.a]
 | .isi a c,E=>let e:TE:=λh H Q=>(wp K Γ a E).e h H λx z=>(wp K Γ c E).e h z λy w=>Cj K [x,y] w Q
  #[e,λh H Q=>e h H λx z=>TF K x z Q,never.a]
 | .mt m o as,E=>let e:TE:=λh H Q=>(wp K Γ o E).e h H λx z=>K4 K m.ty x z/\(wp K Γ as E).a h z λj w=>Dd K m x j w Q
  #[e,λh H Q=>e h H λx z=>TF K x z Q,never.a]
 | .idx a b,E=>let e:TE:=λh H Q=>(wp K Γ a E).e h H λx z=>(wp K Γ b E).e h z λy w=>O0 K x y w Q
  #[e,λh H Q=>e h H λx z=>TF K x z Q,never.a]
 | .slc a lo hi,E=>#[λh H Q=>(wp K Γ a E).e h H λx z =>
   (if isNop lo=kf then λ(R:Option Int->Hp->Prop)=>R kv z else λR=>(wp K Γ lo E).e h z λl w=>TM l w R) λl w =>
   (if isNop hi=kf then λ(R:Option Int->Hp->Prop)=>R kv w else λR=>(wp K Γ hi E).e h w λu q=>TM u q R) λu q=>Lw K x l u q Q,never.t,never.a]
 | .nop,E=>never|.lst as,E=>#[λh H Q=>(wp K Γ as E).a h H λg z=>g.9<=kb/\∀p,z p=kv->Q (.ref p) (DA z p (.lst g)),never.t,never.a]|.tup as,E=>#[λh H Q=>(wp K Γ as E).a h H λg z=>g.9<=kb/\∀p,z p=kv->Q (.ref p) (DA z p (.tup g)),never.t,never.a]|.comp mask tgs tg ik its cond elt,E=>#[λh H Q=>(wp K Γ its E).a h H λj z=>cC K ik j z λg st w =>
   RZ K g st tg (if isNop cond=kf then λ_ H Q=>Q kf H else(wp K Γ cond (λ_ _ _=>False)).t) (wp K Γ elt (λ_ _ _=>False)).e (tJ tgs.9 mask h) w Q,never.t,never.a]
 | .dnew b,E=>#[λ_ H Q=>∀p,H p=kv->Q (.ref p) (DA H p (.dT 0 [])),never.t,never.a]|.dsp a b,E=>#[λh H Q=>∀p,H p=kv->(wp K Γ a E).e h (DA H p (.dT 0 [])) λy z=>(wp K Γ b E).e h z λv w=>w p=jr (.dT 0 [])/\∃b r,y=.ref b/\yP K w b r/\∀s,Q (.ref p) (DA w p (.dT s [(r,b,v)])),never.t,never.a]|.ng i,E=>#[λh H Q=>Q (.int (-i)) H,never.t,never.a]|.trv a,E=>#[λh H Q=>(wp K Γ a E).e h H λx z=>cW K x z Q,never.t,never.a]|.lrv a,E=>#[λh H Q=>(wp K Γ a E).e h H λx z=>dW K x z Q,never.t,never.a]|.anil,E=>#[never.e,never.t,λ_ H Q=>Q [] H]|.acons a as,E=>#[never.e,never.t,λh H Q=>(wp K Γ a E).e h H λx z=>(wp K Γ as E).a h z λg w=>Q (x::g) w]
structure Glob where
 ev:Ev
 fn:Str->Prop
 val:Str->Prop
 no:Str->Prop
noncomputable def Bi.nm:Bi->Str
 | .len=>"len"|.all=>"all"|.any=>"any"|.list=>"list"|.sorted=>"sorted"|.min=>"min"|.tuple=>"tuple"
noncomputable def Mt.nm:Mt->Str
 | .append=>"append"|.pop=>"pop"|.setd=>"setdefault"|.index=>"index"|.lix=>"index"|.extend=>"extend"
def Ss(G:Glob):ItK->Prop
 | .val=>True|.rng1=>G.no "range"|.enum=>G.no "enumerate"|.zip2=>G.no "zip"|.rev=>G.no "reversed"|.itm=>True
def IA(G:Glob):PX->Prop
 | .glo x=>G.val x|.bty x n=>G.no x/\y1 x=jr (.type n)|.bin _ a b | .cmp _ a b | .and a b | .or a b | .idx a b | .acons a b | .dsp a b=>IA G a/\IA G b
 | .not a | .lst a | .tup a=>IA G a
 | .trv a=>G.no "tuple"/\G.no "reversed"/\IA G a|.lrv a=>G.no "list"/\G.no "reversed"/\IA G a|.ife a b c | .slc a b c=>IA G a/\IA G b/\IA G c
 | .call f y=>G.fn f/\IA G y|.bi f y=>G.no f.nm/\IA G y|.isi a c=>G.no "isinstance"/\IA G a/\IA G c|.mt _ o y=>IA G o/\IA G y|.comp _ _ _ v z h u=>Ss G v/\IA G z/\IA G h/\IA G u|_=>True
structure SC where
 N:LS
 sc:hZ
def rB:Expr->Bool
 | .Starred _ _=>kd|_=>kf
noncomputable def Ti(S:SC)(i:Nat)(x:Str):Bool :=
 S.N[i]?==jr x&&(S.sc.names.lookup x==jr .local||S.sc.names.lookup x==jr .cell||S.sc.names.lookup x==jr .free)&&x != "__debug__" && x != "__classdict__"
noncomputable def Al(S:SC)(i:Nat)(x:Str):Bool:=S.N[i]?==jr x&&S.sc.names.lookup x==jr .local
noncomputable def iU(S:SC)(x:Str):Bool:=S.sc.names.lookup x==jr .globalImplicit&&x != "__debug__" && x != "__name__"
def KZ(S:SC)(h:hZ)(y:LS)(x:List Bool):SC:=#[y++BB x 0 S.N,JM h S.sc]
def vK:LS->Bool
 |[]=>kf|x::r=>!r.contains x&&vK r
def r9(S:SC)(h:hZ)(z:LS)(x:List Bool):Bool :=
 h.kind==.function&&h.names.all (λy=>y.2 != .cell&&(y.2 != .local||(h.names.lookup y.1==jr .local&&(z.contains y.1||y.1==(".0":Str)))) &&
  (y.2 != .free||S.sc.names.lookup y.1==jr .cell||S.sc.names.lookup y.1==jr .free))&&vK (z++BB x 0 S.N)&&!(z++BB x 0 S.N).contains (".0":Str)
noncomputable def To(c:Bool)(S:SC)(i:Nat)(x:Str):Bool:=S.N[i]?==jr x&&(S.sc.names.lookup x==jr .local||(c&&S.sc.names.lookup x==jr .cell))
def yw(c:Bool)(S:SC):Tg->Expr->Bool
 | .nm i,.Name x _=>To c S i x|.tp is,.Tuple es _ _=>is.9==es.9&&(is.zip es).all λp=>match p.2 with
  | .Name x _=>To c S p.1 x|_=>kd
 |_,_=>kd
noncomputable def dR:Expr->Bool
 | .Call (.Name _ _) [] [] _=>kd|_=>kf
def UT:Expr->Bool
 | .Set _ _ _=>kd|_=>kf
def gR:Expr->Bool
 | .Slice _ _ _ _=>kd|_=>kf
def mF:PX->Bool
 | .anil=>kf|.acons _ r=>mF r|_=>kd
def BR:Expr->Bool
 | .Tuple _ _ _=>kf|_=>kd
section
variable{α:Type}
section
variable{e:Expr}{l:List α}
noncomputable def jI(e:Expr)(f:Str->Pos->Bool):Bool:=match e with | .Name x p=>f x p|_=>kd
noncomputable def vH(e:Expr)(f:sh->Bool):Bool:=match e with | .Constant c _ _=>f c|_=>kd
noncomputable def yg(e:Expr)(f:Expr->g6->Expr->Pos->Bool):Bool:=match e with | .BinOp l o r p=>f l o r p|_=>kd
noncomputable def Kk(e:Expr)(f:tj->Expr->Bool):Bool:=match e with | .UnaryOp o x _=>f o x|_=>kd
noncomputable def jg(e:Expr)(f:Expr->List fv->List Expr->Bool):Bool:=match e with | .Compare l x h _=>f l x h|_=>kd
noncomputable def eW(e:Expr)(f:BoolOp->List Expr->Pos->Bool):Bool:=match e with | .BoolOp o h p=>f o h p|_=>kd
noncomputable def Jr(e:Expr)(f:Expr->Expr->Expr->Bool):Bool:=match e with | .IfExp t l r _=>f t l r|_=>kd
noncomputable def aW(e:Expr)(f:Expr->List Expr->List ll->Pos->Bool):Bool:=match e with | .Call g x h p=>f g x h p|_=>kd
noncomputable def c7(e:Expr)(f:Expr->Str->Pos->Bool):Bool:=match e with | .Attribute v n p=>f v n p|_=>kd
noncomputable def NY(e:Expr)(f:Expr->Expr->Pos->Bool):Bool:=match e with | .Subscript v i p=>f v i p|_=>kd
noncomputable def OY(e:Expr)(f:Option Expr->Option Expr->Option Expr->Bool):Bool:=match e with | .Slice l h s _=>f l h s|_=>kd
noncomputable def zR(e:Expr)(f:List Expr->Pos->Bool):Bool:=match e with | .List h p=>f h p|_=>kd
noncomputable def Sf(e:Expr)(f:List Expr->Nat->Pos->Bool):Bool:=match e with | .Tuple h k p=>f h k p|_=>kd
noncomputable def Vk(e:Expr)(f:Expr->List rk->hZ->Pos->Bool):Bool:=match e with | .ListComp x h sc p=>f x h sc p|_=>kd
noncomputable def tW(e:Expr)(f:List (Option Expr)->List Expr->Bool):Bool:=match e with | .Dict x h _=>f x h|_=>kd
noncomputable def aL(l:List α)(f:α->Bool):Bool:=match l with | [x]=>f x|_=>kd
noncomputable def Aw(l:List α)(f:α->α->Bool):Bool:=match l with | [x,y]=>f x y|_=>kd
noncomputable def Hc(l:List α)(f:α->List α->Bool):Bool:=match l with|x::r=>f x r|_=>kd
noncomputable def nr(o:Option α)(n:Bool)(f:α->Bool):Bool:=match o with|none=>n|some x=>f x
theorem ZE{f:Str->Pos->Bool}(h:jI e f=kf):∃x p,e=.Name x p/\f x p=true:=by
 cases e with|Name x p=>exact#[x,p,rfl,h]|_=>exact(QG h).elim
theorem VE{f:sh->Bool}(h:vH e f=kf):∃c k p,e=.Constant c k p/\f c=true:=by
 cases e with|Constant c k p=>exact#[c,k,p,rfl,h]|_=>exact(QG h).elim
theorem Lc{f:Expr->g6->Expr->Pos->Bool}(h:yg e f=kf):∃l o r p,e=.BinOp l o r p/\f l o r p=true:=by
 cases e with|BinOp l o r p=>exact#[l,o,r,p,rfl,h]|_=>exact(QG h).elim
theorem k7{f:tj->Expr->Bool}(h:Kk e f=kf):∃o x p,e=.UnaryOp o x p/\f o x=true:=by
 cases e with|UnaryOp o x p=>exact#[o,x,p,rfl,h]|_=>exact(QG h).elim
theorem Gc{f:Expr->List fv->List Expr->Bool}(h:jg e f=kf):∃l y x p,e=.Compare l y x p/\f l y x=true:=by
 cases e with|Compare l y x p=>exact#[l,y,x,p,rfl,h]|_=>exact(QG h).elim
theorem ZT{f:BoolOp->List Expr->Pos->Bool}(h:eW e f=kf):∃o es p,e=.BoolOp o es p/\f o es p=true:=by
 cases e with|BoolOp o es p=>exact#[o,es,p,rfl,h]|_=>exact(QG h).elim
theorem Xk{f:Expr->Expr->Expr->Bool}(h:Jr e f=kf):∃t l r p,e=.IfExp t l r p/\f t l r=true:=by
 cases e with|IfExp t l r p=>exact#[t,l,r,p,rfl,h]|_=>exact(QG h).elim
theorem YT{f:Expr->List Expr->List ll->Pos->Bool}(h:aW e f=kf):∃g es ks p,e=.Call g es ks p/\f g es ks p=true:=by
 cases e with|Call g es ks p=>exact#[g,es,ks,p,rfl,h]|_=>exact(QG h).elim
theorem u7{f:Expr->Str->Pos->Bool}(h:c7 e f=kf):∃v n p,e=.Attribute v n p/\f v n p=true:=by
 cases e with|Attribute v n p=>exact#[v,n,p,rfl,h]|_=>exact(QG h).elim
theorem yR{f:Expr->Expr->Pos->Bool}(h:NY e f=kf):∃v i p,e=.Subscript v i p/\f v i p=true:=by
 cases e with|Subscript v i p=>exact#[v,i,p,rfl,h]|_=>exact(QG h).elim
theorem C1{f:Option Expr->Option Expr->Option Expr->Bool}(h:OY e f=kf):∃l u s p,e=.Slice l u s p/\f l u s=true:=by
 cases e with|Slice l u s p=>exact#[l,u,s,p,rfl,h]|_=>exact(QG h).elim
theorem zN{f:List Expr->Pos->Bool}(h:zR e f=kf):∃es p,e=.List es p/\f es p=true:=by
 cases e with|List es p=>exact#[es,p,rfl,h]|_=>exact(QG h).elim
theorem Bc{f:List Expr->Nat->Pos->Bool}(h:Sf e f=kf):∃es k p,e=.Tuple es k p/\f es k p=true:=by
 cases e with|Tuple es k p=>exact#[es,k,p,rfl,h]|_=>exact(QG h).elim
theorem sW{f:Expr->List rk->hZ->Pos->Bool}(h:Vk e f=kf):∃x y sc p,e=.ListComp x y sc p/\f x y sc p=true:=by
 cases e with|ListComp x y sc p=>exact#[x,y,sc,p,rfl,h]|_=>exact(QG h).elim
theorem JT{f:List (Option Expr)->List Expr->Bool}(h:tW e f=kf):∃ks vs p,e=.Dict ks vs p/\f ks vs=true:=by
 cases e with|Dict ks vs p=>exact#[ks,vs,p,rfl,h]|_=>exact(QG h).elim
theorem vL{f:α->List α->Bool}(h:Hc l f=kf):∃x r,l=x::r/\f x r=true:=by
 cases l with|nil=>exact(QG h).elim|cons x r=>exact#[x,r,rfl,h]
theorem eB{f:α->Bool}(h:aL l f=kf):∃x,l=[x]/\f x=true:=by
 cases l with
 |nil=>exact(QG h).elim|cons x r =>
  cases r with|nil=>exact#[x,rfl,h]|cons _ _=>exact(QG h).elim
theorem zg{f:α->α->Bool}(h:Aw l f=kf):∃x y,l=[x,y]/\f x y=true:=by
 cases l with
 |nil=>exact(QG h).elim|cons x r =>
  let#[y,e,h]:=eB (l:=r) (f:=f x) (by
   cases r with|nil=>exact h|cons y r=>cases r<;>exact h)
  exact#[x,y,by rw[e],h]
end
end
section
variable{c:sh}{n:Str}{e:Expr}
noncomputable def Hn(c:sh)(f:Int->Bool):Bool:=match c with | .int i=>f i|_=>kd
noncomputable def At(c:sh)(f:Str->Bool):Bool:=match c with | .str i=>f i|_=>kd
noncomputable def kh(c:sh)(f:Bool->Bool):Bool:=match c with | .bool i=>f i|_=>kd
def zh(c:sh):Bool:=match c with | .none=>kf|_=>kd
theorem D9{f:Int->Bool}(h:Hn c f=kf):∃i,c=.int i/\f i=true:=by
 cases c with|int i=>exact#[i,rfl,h]|_=>exact(QG h).elim
theorem Gn{f:Str->Bool}(h:At c f=kf):∃i,c=.str i/\f i=true:=by
 cases c with|str i=>exact#[i,rfl,h]|_=>exact(QG h).elim
theorem Pe{f:Bool->Bool}(h:kh c f=kf):∃i,c=.bool i/\f i=true:=by
 cases c with|bool i=>exact#[i,rfl,h]|_=>exact(QG h).elim
theorem Oe(h:zh c=kf):c=.none:=by
 cases c with|none=>rfl|_=>exact(QG h).elim
theorem jA{a b:Bool}(h:(a&&b)=kf):a=kf/\b=true:=by cases a<;>cases b<;>first|exact#[rfl,rfl]| exact(QG h).elim
def OF(S:SC)(n:Str)(e:Expr)(f:List Expr->List ll->Pos->Bool):Bool:=aW e λg y h p=>jI g λx _=>n==x&&(iU S x&&f y h p)
theorem iC{S:SC}{f:List Expr->List ll->Pos->Bool}(h:OF S n e f=kf):∃y es ks p,e=.Call (.Name n y) es ks p/\iU S n=kf/\f es ks p=true:=by let#[g,es,ks,p,rfl,w]:=YT h;let#[x,y,rfl,v]:=ZE w;have u:=jA v;have z:=jA u.2;have e:=qe u.1;exact#[y,es,ks,p,by rw[e],by rw[e];exact z.1,z.2]
def j8(n:Str)(e:Expr)(f:Expr->List Expr->Pos->Pos->Bool):Bool:=aW e λg z y p=>c7 g λv x h=>n==x&&(y.isEmpty&&(h.endLine==p.line&&f v z h p))
theorem AY{f:Expr->List Expr->Pos->Pos->Bool}(h:j8 n e f=kf):∃v y es p,e=.Call (.Attribute v n y) es [] p/\(y.endLine==p.line)=kf/\f v es y p=true:=by let#[g,es,i,p,rfl,a]:=YT h;let#[v,x,y,rfl,k]:=u7 a;have w:=jA k;have u:=jA w.2;have z:=jA u.2;have e:=qe w.1;have b:=Qs.mp u.1;exact#[v,y,es,p,by rw[e,b],z.1,z.2]
noncomputable def ig(x:BoolOp)(r:Expr)(h:List Expr)(pos:Pos):Expr:=match h with
 |[]=>r|q::t=>.BoolOp x (r::q::t) pos
def dv(y:Bool)(S:SC)(z:ItK)(c:List Expr->Pos->Bool)(t it:Expr)(pos:Pos):Bool:=match z with
 | .val=>y&&c [it] pos|.rng1=>OF S "range" it λh x p=>x.isEmpty&&aL h λa=>c [a] p|.zip2=>BR t&&OF S "zip" it λh x p=>x.isEmpty&&Aw h λa b=>c [a,b] p|.enum=>BR t&&OF S "enumerate" it λh x p=>x.isEmpty&&aL h λa=>c [a] p|.rev=>OF S "reversed" it λh x p=>x.isEmpty&&aL h λa=>c [a] p|.itm=>BR t&&(y&&j8 "items" it λv h _ p=>dR v&&(h.isEmpty&&c [v] p))
noncomputable def ox(h:List Expr)(n:Bool)(f:Expr->Bool):Bool:=match h with
 |[]=>n|c::r=>r.isEmpty&&(!n&&f c)
def isItm:ItK->Bool
 | .itm=>kf|_=>kd
def TB:PX->SC->Expr->Bool
 | .var i,S,e=>jI e λx _=>Ti S i x|.int i,_,e=>vH e λc=>Hn c λj=>i==j|.str x,_,e=>vH e λc=>At c λy=>x==y|.bl b,_,e=>vH e λc=>kh c λk=>b==k|.non,_,e=>vH e zh|.glo x,S,e=>jI e λy _=>x==y&&iU S x|.bty x _,S,e=>jI e λy _=>x==y&&iU S x|.bin op a b,S,e=>yg e λl o r _=>op==o&&(TB a S l&&TB b S r)|.cmp op a b,S,e=>jg e λl Z Y=>aL Z λo=>aL Y λr=>op==o&&(UT r&&(TB a S l&&TB b S r))|.and a b,S,e=>eW e λo z p=>o==.And&&Hc z λl t=>Hc t λr t=>TB a S l&&TB b S (ig .And r t p)|.or a b,S,e=>eW e λo z p=>o==.Or&&Hc z λl t=>Hc t λr t=>TB a S l&&TB b S (ig .Or r t p)|.not a,S,e=>Kk e λo x=>o==.Not&&TB a S x|.ife c a b,S,e=>Jr e λt l r=>TB c S t&&(TB a S l&&TB b S r)|.call f as,S,e=>OF S f e λz w p=>w.isEmpty&&TB as S (.List z p)|.bi f as,S,e=>OF S f.nm e λz w p=>w.isEmpty&&Hc z λx t=>TB as S (.List (x::t) p)|.isi a c,S,e=>OF S "isinstance" e λz w _=>w.isEmpty&&Aw z λl r=>rB l&&(rB r&&(TB a S l&&TB c S r))|.mt m o as,S,e=>j8 m.nm e λv z _ p=>mF as&&(dR v&&(decide (z.9<20)&&(TB o S v&&TB as S (.List z p))))|.idx a b,S,e=>NY e λv i _=>gR i&&(TB a S v&&TB b S i)|.slc a lo hi,S,e=>NY e λv X _=>OY X λl h s=>s.isNone&&(TB a S v&&(nr l (isNop lo) (λe=>!isNop lo&&TB lo S e)&&nr h (isNop hi) λe=>!isNop hi&&TB hi S e))|.nop,_,_=>kd|.lst as,S,e=>zR e λz p=>TB as S (.List z p)|.tup as,S,e=>Sf e λz _ p=>TB as S (.List z p)|.comp mask tgs tg ik its cond elt,S,e=>Vk e λK W u p=>aL W λg=>g.is_async==0&&(!isItm ik&&(r9 S u tgs mask&&(yw kd (KZ S u tgs mask) tg g.target&&(UT g.iter &&
   (dv (mF its) S ik (λz p=>TB its S (.List z p)) g.target g.iter p&&(ox g.ifs (isNop cond) (λc=>TB cond (KZ S u tgs mask) c)&&TB elt (KZ S u tgs mask) K))))))
 | .dnew _,_,e=>tW e λw q=>w.isEmpty&&q.isEmpty|.dsp a b,S,e=>tW e λw q=>aL w λk=>aL q λv=>nr k kd (TB a S)&&TB b S v|.ng i,_,e=>Kk e λo x=>o==.USub&&vH x λc=>Hn c λj=>i==j|.lrv a,S,e=>OF S "list" e λz w _=>w.isEmpty&&aL z λx=>OF S "reversed" x λz w _=>w.isEmpty&&aL z λy=>rB y&&TB a S y|.trv a,S,e=>OF S "tuple" e λz w _=>w.isEmpty&&aL z λx=>OF S "reversed" x λz w _=>w.isEmpty&&aL z λy=>rB y&&TB a S y|.anil,_,e=>zR e λz _=>z.isEmpty|.acons a as,S,e=>zR e λz p=>Hc z λx t=>rB x&&(TB a S x&&TB as S (.List t p))
end
variable{Γ:Ev}
theorem uo(x:V)(H:Hp)(Q:Bool->Hp->Prop):P9 x H Q=∃k,x=.bl k/\Q k H:=by
 apply qs;cases x with|bl b=>exact#[λh=>#[b,rfl,h],λ#[k,e,h]=>by cases e;exact h]|_=>exact#[λh=>Qg h,λ#[k,e,h]=>by cases e]
theorem S6(x:V)(H:Hp)(Q:Option Int->Hp->Prop):TM x H Q=∃i,x=.int i/\Q (jr i) H:=by
 apply qs;cases x with|int b=>exact#[λh=>#[b,rfl,h],λ#[k,e,h]=>by cases e;exact h]|_=>exact#[λh=>Qg h,λ#[k,e,h]=>by cases e]
theorem gY(K:QC)(x:V)(H:Hp)(Q:Bool->Hp->Prop):TF K x H Q=∃k,Zo K x H k/\Q k H:=by
 apply qs;cases x with|bl b=>exact#[λh=>#[b,rfl,h],λ#[k,(e:k=b),h]=>by subst e;exact h]|int i=>exact#[λh=>#[i != 0,rfl,h],λ#[k,(e:k=(i != 0)),h]=>by subst e;exact h]|non=>exact#[λh=>#[kd,rfl,h],λ#[k,(e:k=kd),h]=>by subst e;exact h]|str z=>exact#[λh=>#[_,#[h.1,rfl],h.2],λ#[k,#[u,y],h]=>by subst y;exact#[u,h]]|_=>exact WP
section
variable{X:Cx}
section
variable{e b:Expr}{es:List Expr}{env:Env}{its:LW}
theorem N6:PE X e never.e:=λ_ _ _ _ _ _ h=>Qg h
theorem VM:PT X e never.t:=λ_ _ _ _ _ _ h=>Qg h
theorem iT:PA X es never.a:=λ_ _ _ _ _ _ _ h=>Qg h
theorem eD{a:Expr}{ta:TE}(i:PE X a ta)(g:∀y,isTrue a X.env y=(do let v <- y;standAt a.pos;sn [v] (truthy v))) :
  PT X a (λσ H Q=>ta σ H λx l=>TF X.K x l Q):=by
 intro z s σ H Q I h;refine isTrue_plain (FB (i z s σ H _ I h) λv k #[x,w,j,f,u]=>?_) (g _);have u:TF X.K x w Q:=u;rw[gY]at u;exact U5 z k σ w x v Q j f u
theorem j7{f:kn->kn->Sem kn}:AE X f (λ_ _ _ _=>False):=λ_ _ _ _ _ _ _ _ _ _ _ _ h=>h.elim
theorem Yk(h:g6):AE X (g7 h) (Te X.K h):=by
 cases h with|Add=>exact op_add|Sub=>exact op_sub|Mult=>exact pk|FloorDiv=>exact Vc|Mod=>exact op_mod|_=>exact j7
theorem oU(neg:Bool){h:AB}{s:kt}{σ:St}{H:Hp}{b c:Bool}{Q:VK}(I:Inv X h σ H s)(q:Q (.bl (if neg then !decide (b=c) else decide (b=c))) H):ku (k0 X.prog X.w) X.A (vx (if neg then .IsNot else .Is) (.bool b) (.bool c)) (EP X h σ Q) X.xe s:=by
 have e:vx (if neg then .IsNot else .Is) (.bool b) (.bool c)=ak (.bool (if neg then !decide (b=c) else decide (b=c))):=by cases neg<;>cases b<;>cases c<;>rfl
 rw[e];exact QK #[.bl _,H,I,rfl,q]
theorem z7(g:X.A.units+66<gl)(f:fv):AE X (vx f) (e9 X.K f):=by
 cases f with
 |Eq=>exact op_eq ()|NotEq=>exact op_ne ()|Lt=>exact EQ _root_.L2.op_lt|LtE=>exact EQ _root_.L2.op_le|Gt=>exact EQ _root_.L2.op_gt|GtE=>exact EQ _root_.L2.op_ge|In=>exact br g|NotIn=>exact E6 g|Is =>
  intro z s a H x y v u Q I k w h;cases y with|non=>exact Jk z s a H x _ v u Q I k w #[rfl,h]|bl c=>let#[b,rfl,q]:=h;cases k;cases w;cases b<;>cases c<;>exact oU kd I q|_=>exact Qg h
 |IsNot =>
  intro z s a H x y v u Q I k w h;cases y with|non=>exact Kc z s a H x _ v u Q I k w #[rfl,h]|bl c=>let#[b,rfl,q]:=h;cases k;cases w;cases b<;>cases c<;>exact oU kf I q|_=>exact Qg h
theorem Vm(Z:X.A.units+66<gl):aa X (O0 X.K):=by
 intro w k f s n H x y v u Q I r p h Y;have sq:=λh=>Km (X:=X) w k f s n H x y v u Q I r p h Y;have dc:=λh=>Sd Z w k f s n H x y v u Q I r p h Y;cases x with
 |str z =>
  cases y with|int i=>let#[W,c,m,q]:=h;exact sq (.inr (.inr #[z,i,c,rfl,rfl,W,m,q]))|_=>exact Qg h
 |ref a =>
  cases y with
  |int i=>let#[o,j,l,m,q]:=h;rcases l with l|l;exact sq (.inl #[a,o,i,j,rfl,rfl,l,m,q]);exact sq (.inr (.inl #[a,o,i,j,rfl,rfl,l,m,q]))
  |str z=>let#[j,g,q]:=h;exact dc #[a,j,rfl,g,q]|ref b=>let#[j,g,q]:=h;exact dc #[a,j,rfl,g,q]|_=>exact Qg h
 |_=>exact Qg h
theorem G7{x:fv}(h:UT b=kf):lr x b=false:=by cases b<;>first|rfl|cases h
theorem jc(h:gR b=kf):MZ b:=by intro o i;cases b<;>first|rfl|cases h
theorem VA(env:Env)(h:rB e=kf):xk (e::es) env=(kd,gp e env)::xk es env:=by cases e<;>first|rfl|cases h
theorem ZW(h:UT e=kf)(x:kn):hB e env x=ak x:=by cases e<;>first|rfl|cases h
theorem F7{o:Expr}{n:Str}(h:dR o=kf):DC o n env (gp o env)=gp o env:=by unfold DC;split;cases h;rfl
theorem Ud:C4 X "list.pop" Df:=by intro z s f H x u v g Q I j m h;let#[l,i,u,k,y,rfl,rfl,a,hk,n,q]:=h;let#[o,Y,r,p]:=UR hk;have hl:u.9<=sizeLine:=(show BA X.prog X.w H s.1 l (.lst u) from I.hok l _ a).1;rw[qB]at hl;exact E7 z s f H _ _ v g Q I j m #[l,u,i,k,y,rfl,rfl,a,(),(),o,n,q]
theorem RS{x:LS}(h:nA (x.map V.str) its):ac its x:=by
 induction x generalizing its with
 |nil=>cases h;exact .nil|cons y x z =>
  cases h with|cons h t=>let#[k,rfl]:=h;exact .cons _ _ (z t)
theorem IZ{x:LS}(h:ac its x):nA (x.map V.str) its:=by
 induction h with|nil=>exact .nil|cons y t _ z=>exact .cons #[t,rfl] z
theorem Y1{out:LW}(g:its.Perm out):∀{xs:LV},nA xs its->∃z,z.Perm xs/\nA z out:=by
 induction g with
 |nil=>intro xs r;cases r;exact#[[],QBt _,.nil]|cons x _ k =>
  intro xs r;cases r with|cons h t=>let#[z,p,v]:=k t;exact#[_::z,p.cons _,.cons h v]
 |swap x y l =>
  intro xs r;cases r with
  |cons h t=>cases t with|cons i t=>exact#[_::_::_,QDB.swap _ _ _,.cons i (.cons h t)]
 |trans _ _ f a=>intro xs r;let#[z,p,v]:=f r;let#[w,q,u]:=a v;exact#[w,q.trans p,u]
theorem t5{xs:LV}{v:kn}(r:nA xs its)(h:v∈its):∃x∈xs,aA x v:=by
 induction r with
 |nil=>exact nomatch h
 |cons r t z=>rcases QL.mp h with e|h;subst e;exact#[_,QD,r];let#[x,u,y]:=z h;exact#[x,QE _ u,y]
theorem C3{vs:LW}{ns:LJ}(h:ii vs ns):nA (ns.map V.int) vs:=by
 induction h with|nil=>exact .nil|cons n t _ x=>exact .cons #[t,rfl] x
theorem jV(hu:X.A.units+66<gl):JC X (.builtin "sorted") (ZY X.K):=by
 intro pins s σ H xs us Q I r h;let#[p,rfl,h]:=h;rcases h with⟨ss,W,E,q⟩| ⟨xs,W,E,hx,q⟩| ⟨ns,W,E,q⟩
 skip;let#[u,rfl,m]:=IF r;cases m;let#[its,g,Y,hz]:=I.list W;have hl:=g.9;rw[QF]at hl;refine sorted_strs Y.isList (by simpa using RS g) () λout l J F a3=>?_;let#[e,B]:=QCn s.1 its out;have hlen:=(tQ J).1;have hp:=F.length_eq;refine#[.ref (s.1.1.size+1),_,I.laid (t':=s.toks) (λb o z=>QCM z) (wU _) (show BA X.prog X.w _ _ _ (.lst (l.map V.str)) from#[by rw[QF,qB];omega,out.toList,e,IZ J,by simpa using B]),rfl,q _ l (I.hok.fresh (wU _)) F a3];skip;let#[u,rfl,m]:=IF r;cases m;let#[its,g,Y,hz]:=I.list W;have hl:=g.9;have f:∀v∈its,∃b dd M n k,∃j:LS,v=.ref b/\s.1.get? b=jr { cls:=.type "list",dict:=dd,data:=.seq k n,slots:=M }/\ac k.toList j:=λv hv=>by let#[x,S,N]:=t5 g hv;let#[a,j,rfl,sq]:=hx x S;cases N;let#[i,O,#[o,n,e,c,d,z],_]:=I.list sq;let#[oc,od,R,P]:=o;cases c;exact#[a,od,P,n,i.toArray,j,rfl,by rw[e,show R=Data.seq i.toArray n from z],by simpa using RS O]
 refine Yb Y.isList () (λv hv=>?_) (λh3 kp x hx y hy C hC=>?_) λout hp=>?_;let#[b,dd,M,n,k,j,rfl,e,_]:=f v hv;exact#[b,_,rfl,e,rfl];let#[b,dd,M,n,k,j,rfl,e,st]:=f x hx;let#[b2,dd2,sl2,n2,G,ts2,rfl,e2,L]:=f y hy;exact rW (s:={ s with heap:=h3 }) (show X.A.units+1+1<gl by omega) (kp _ _ e) (kp _ _ e2) st L (hC _);let#[e,B]:=QCn s.1 its out.toArray;let#[ys,py,vy]:=Y1 hp.symm g;have hp2:=py.length_eq;refine#[.ref (s.1.1.size+1),_,I.laid (t':=s.toks) (λb o z=>QCM z) (wU _) (show BA X.prog X.w _ _ _ (.lst ys) from#[by rw[qB];omega,out,e,vy,B]),rfl,q _ ys (I.hok.fresh (wU _)) py];let#[u,rfl,m]:=IF r;cases m;let#[its,g,Y,hz]:=I.list W;have hl:=g.9;rw[QF]at hl;refine sorted_ints Y.isList (eN g) () λout Z J F a3=>?_;let#[e,B]:=QCn s.1 its out;have hp:=F.length_eq;refine#[.ref (s.1.1.size+1),_,I.laid (t':=s.toks) (λb o z=>QCM z) (wU _) (show BA X.prog X.w _ _ _ (.lst (Z.map V.int)) from#[by rw[QF,qB];omega,out.toList,e,C3 J,by simpa using B]),rfl,q _ Z (I.hok.fresh (wU _)) F a3]
theorem z4:JC X (.type "tuple") (r6 X.K):=by intro x s y H k u Q I r h;let#[p,z,rfl,w,v]:=h;exact EO x s y H _ u Q I r #[p,z,rfl,.inl #[w,v]]
theorem Hl:C4 X "str.index" t6:=by intro k s l H x m v n Q I a g h;let#[z,y,i,w,rfl,rfl,j,q]:=h;let#[t,rfl]:=a;let#[u,rfl,f]:=IF g;let#[o,rfl]:=f;exact PySem.SC.index j #[.int _,H,I.tok _,#[_,rfl],q]
theorem Fl:C4 X "list.index" (Cq X.K):=by intro y s l H x m v n Q I z a h;let#[p,o,i,rfl,g,hl,rfl,j,q]:=h;cases z;let#[u,rfl,k]:=IF a;let#[t,rfl]:=k;let#[its,w,f,r]:=I.list g;exact PyProof.Rows.index_list_ints f.isList (eN w) hl j #[.int _,H,I.tok _,#[_,rfl],q]
theorem Cd:C4 X "list.extend" Gf:=by intro y s u H x z v k Q I a f h;let#[l,b,z,w,rfl,rfl,h]:=h;exact G2 y s u H _ _ v k Q I a f #[l,b,z,w,rfl,rfl,h]
theorem Et(h:X.A.units+66<gl)(hc:X.calm=kf)(f:Bi):(∃id,y1 f.nm=jr (.builtin id)/\JC X (.builtin id) (zu X.K f))∨∃T,y1 f.nm=jr (.type T)/\JC X (.type T) (zu X.K f):=by
 cases f with|len=>exact .inl #[_,PySem.boot_len,Y9]|all=>exact .inl #[_,PyProof.Rows.boot_all,V9 hc]|any=>exact .inl #[_,PyProof.Rows.boot_any,K9 hc]|list=>exact .inr #[_,QBR,bS]|min=>exact .inl #[_,PyProof.Rows.boot_min,v4 hc]|sorted=>exact .inl #[_,PyProof.Rows.boot_sorted,jV h]|tuple=>exact .inr #[_,by kernel_rfl,z4]
end
end
end L2.L3
namespace L2.L3
open PySem PySem.Spec PyProof.Rows
section
variable{S:SC}{i:Nat}{x:Str}
structure OkX(X:Cx)(S:SC)(G:Glob)(E:XK):Prop where
 N:X.N=S.N
 sc:X.env.scope=S.sc
 calm:X.calm=kf
 un:X.A.units+66<gl
 fn:∀f,G.fn f->∃(CX:Xa) (k:Nat) (a:ko) (fd:zo) (ps:LS),FnOk X.prog X.w X.K X.mg X.base CX k a fd ps (G.ev.sp f)/\Room k X.A/\X.mg f=jr (.ref a)/\wf X.K (.ref a)=kf/\HJ X.K fd ps [] /\
  vO CX X E/\∀l H s e s',CX l H s (λ_ _ _=>False) e s'->False
 val:∀x,G.val x->∃u,X.mg x=jr u/\aA (G.ev.va x) u
 no:∀x,G.no x->X.mg x=kv
def YS(X:Cx)(Γ:Ev)(E:XK):PX->List Expr->Prop
 | .acons a as,e::es=>PE X e (wp X.K Γ a E).e/\YS X Γ E as es|_,_=>True
structure Snd(X:Cx)(Γ:Ev)(E:XK)(p:PX)(e:Expr):Prop where
 pe:PE X e (wp X.K Γ p E).e
 pt:PT X e (wp X.K Γ p E).t
 pw:∀op es pos,e=.BoolOp op es pos->PW X e (wp X.K Γ p E).t
 pa:∀es pos,e=.List es pos->PA X es (wp X.K Γ p E).a
 pas:∀es pos,e=.List es pos->YS X Γ E p es
theorem Ea(h:Ti S i x=kf):S.N[i]?=jr x/\ou S.sc x/\(x==("__debug__":Str))=kd/\(x==("__classdict__":Str))=false:=by simp only[Ti,QZ,wz,beq_iff_eq,bne_iff_ne,ne_eq]at h;let#[#[#[v,y],u],z]:=h;refine#[v,?_,by simpa using u,by simpa using z];rcases y with(y|y)|y;exact .inl y;exact .inr (.inl y);exact .inr (.inr y)
theorem Hd(h:Al S i x=kf):S.N[i]?=jr x/\S.sc.names.lookup x=jr .local:=by simp only[Al,QZ,beq_iff_eq]at h;exact h
theorem GC(h:iU S x=kf):S.sc.names.lookup x=jr .globalImplicit/\(x==("__debug__":Str))=kd/\x≠"__name__":=by simp only[iU,QZ,beq_iff_eq,bne_iff_ne,ne_eq]at h;exact#[h.1.1,by simpa using h.1.2,h.2]
theorem DE:∀{l:LS},vK l=kf->l.Nodup
 |[],_=>Q7|x::r,h=>by simp only[vK,QZ,qD]at h;exact Ql.mpr #[by simpa using h.1,DE h.2]
theorem FU{z:hZ}{w:LS}{u:List Bool}(h:r9 S z w u=kf):CompSt S.N S.sc z w u:=by simp only[r9,QZ,Q1,beq_iff_eq,qD]at h;let#[#[#[f,k],b],a]:=h;refine#[f,λy v e=>?_,λy v e=>?_,λy v e=>?_,λy v e=>?_,DE b,by simpa using a];have:=(k y v).1.1;rw[e]at this;exact Qe this (by decide);have:=(k y v).1.2;rw[e]at this;simp at this;exact this.1;have:=(k y v).2;rw[e]at this;simp at this;exact this;have:=(k y v).1.2;rw[e]at this;simp at this;exact this.2
theorem OkX.comp{X:Cx}{G:Glob}{E:XK}(ok:OkX X S G E)(y:hZ)(v:LS)(u:List Bool)(s:kt)(H:Hp)(ex:List ko):OkX (EA X y v u s H ex) (KZ S y v u) G (λ_ _ _=>False) where
 N:=by show v++BB u 0 X.N=v++BB u 0 S.N;rw[ok.N]
 sc:=by show JM y X.env.scope=JM y S.sc;rw[ok.sc]
 calm:=ok.calm
 un:=ok.un
 fn:=λf h=>by let#[o,k,a,n,b,m,l,j,g,e,p,w]:=ok.fn f h;exact#[o,k,a,n,b,m,l,j,g,e,λ_ _ _ _ _ _ _ z=>(w _ _ _ _ _ z).elim,w]
 val:=ok.val
 no:=ok.no
end
section
variable{X:Cx}
theorem f8{c:Bool}{S:SC}{i:Nat}{x:Str}(k:X.N=S.N)(y:X.env.scope=S.sc)(u:c=kf->∀x,X.fn x=kf)(h:To c S i x=kf):X.N[i]?=jr x/\vp X.env.scope x/\(X.fn x=kf∨X.env.scope.names.lookup x=jr .local):=by
 simp only[To,QZ,wz,beq_iff_eq]at h;rw[k,y];rcases h.2 with z|⟨w,v⟩
 exact#[h.1,.inl z,.inr z];exact#[h.1,.inr v,.inl (u w x)]
theorem lP{c:Bool}{S:SC}(a:c=kf->∀x,X.fn x=kf)(j:X.N=S.N)(k:X.env.scope=S.sc)(nd:X.N.Nodup):∀(w:LN) (es:List Expr),w.9=es.9->((w.zip es).all λp=>match p.2 with | .Name x _=>To c S p.1 x|_=>kd)=kf ->
  Bz X es (λvs σ H Q=>∃y,dB w vs σ=jr y/\Q y H)
 |[],[],_,_=>by
  intro z s σ H vs n Q I r h;let#[y,e,q]:=h;cases vs with|nil=>cases r;simp only[dB]at e;cases e;exact assignInOrder_nil #[σ,H,I,q]|cons _ _=>simp[dB]at e
 |[],_::_,h,_=>by cases h|_::_,[],h,_=>by cases h|i::w,e::es,hl,hz=>by
  simp only[Wl,qr,QZ]at hz;let#[l,W]:=hz;cases e with
  |Name x pos =>
   let#[g,f,b]:=f8 j k a l;have Z:=lP a j k nd w es (by simpa using hl) W;intro z s σ H vs n Q I r h;let#[y,e,q]:=h;cases vs with
   |nil=>simp[dB]at e|cons v vs =>
    simp only[dB]at e;cases r with|cons r Y=>show ku _ _ (pu (ef (.Name x pos) X.env::(hE es X.env).map (·.2)) _) _ _ _;refine assignInOrder_cons (FB (HY (pos:=pos) nd g f b z s σ H v _ _ I r (show lZ i v σ H (λu m=>u=σ.set i (jr v)/\m=H) from#[rfl,rfl])) λ_ o #[u,m,B,A,K]=>?_);subst A K;exact Z z o _ _ vs _ Q B Y #[y,e,q]
  |_=>simp at l
theorem bU{c:Bool}:∀(z:LN) (es:List Expr) (S:SC),z.9=es.9->((z.zip es).all λp=>match p.2 with | .Name x _=>To c S p.1 x|_=>kd)=kf->(hE es X.env).9=es.9/\(hE es X.env).findIdx? (·.1)=kv
 |[],[],_,_,_=>#[rfl,rfl]|[],_::_,_,h,_=>by cases h|_::_,[],_,h,_=>by cases h|i::z,e::es,S,hl,hz=>by
  simp only[Wl,qr,QZ]at hz;let#[w,v]:=hz;cases e with|Name x y=>have u:=bU z es S (by simpa using hl) v;have k:hE (.Name x y::es) X.env=(kd,ef (.Name x y) X.env)::hE es X.env:=rfl;rw[k];refine#[by rw[QN,QN,u.1],?_];rw[List.findIdx?_cons];simp[u.2]|_=>simp at w
theorem sM:∀{y:LN}{vs:LV}{σ x:St},dB y vs σ=jr x->vs.9=y.9
 |[],[],_,_,_=>rfl|[],_::_,_,_,h=>by simp[dB]at h|_::_,[],_,_,h=>by simp[dB]at h|_::y,_::vs,σ,x,h=>by simp only[dB]at h;rw[QN,QN,sM h]
theorem C6{c:Bool}{S:SC}{G:Glob}{E:XK}(ok:OkX X S G E)(z:c=kf->∀x,X.fn x=kf)(nd:X.N.Nodup){b:Tg}{e:Expr}(h:yw c S b e=kf):PG X e (aG X.K b):=by
 cases b with
 |nm i =>
  cases e with|Name x pos=>let#[l,j,g]:=f8 ok.N ok.sc z h;exact HY nd l j g|_=>cases h
 |tp o =>
  cases e with
  |Tuple m k pos =>
   let#[J,Z]:=jA h;have f:=qe J;let#[C,B]:=bU (X:=X) o m S f Z;have w:=Tj (pos:=pos) (k:=k) (n:=m.9) ok.calm (lP z ok.N ok.sc nd o m f Z) C B;intro y s W H v u Q I r Y;refine w y s W H v u Q I r ?_;cases v with|ref p=>let#[A,a,F,e,q]:=Y;exact#[p,A,rfl,F,by rw[sM e,f],a,e,q]|_=>exact Qg Y
  |_=>cases h
end
variable{Γ:Ev}
theorem La(K:QC)(a:ko)(xs:LV):Yields (jAG K a) (xs.map .one) (λH=>uC K H a xs) :=
  { go:=λi H h u=>by
      have z:i<xs.length:=by simpa using u
      exact#[xs,xs[i],h,by simp[z]]
    yld:=λi H x v h _ #[e,y]=>#[.one x,by rw[Qd,y xs h];rfl,rfl,e]
    stop:=λi H h u=>#[xs,h,by simpa using u] }
theorem Mi(K:QC)(a:ko)(xs:LV):Yields (jAD K a xs.9) (xs.reverse.map .one) (λH=>uC K H a xs):=by
 have e:∀i,i<xs.9->xs.reverse[i]?=xs[xs.9 - 1 - i]?:=λi y=>List.getElem?_reverse y;have l:(xs.reverse.map Item.one).9=xs.length:=by rw[QF,qj]
 refine#[λi H h y=>?_,λi H x u h y z=>?_,λi H h y=>by rw[l]at y;exact y];rw[l]at y;exact#[y,xs,xs[xs.9 - 1 - i]'(),h,Qk _];rw[l]at y;exact#[.one x,by rw[Qd,e i y,z.2 xs h];rfl,rfl,z.1]
theorem Hi(K:QC)(a:ko)(xs:LV):Yields (jAE K a) (xs.map .one) (λH=>rD K H a xs) :=
  { go:=λi H h u=>by
      have z:i<xs.length:=by simpa using u
      exact#[xs,xs[i],h,by simp[z]]
    yld:=λi H x v h _ #[e,y]=>#[.one x,by rw[Qd,y xs h];rfl,rfl,e]
    stop:=λi H h u=>#[xs,h,by simpa using u] }
theorem Li(u:Int)(n:Nat):Yields (Py u n) ((Qq n).map λ(k:Nat)=>.one (.int (u+(k:Int)))) (λ_=>True) :=
  { go:=λi H h z=>by
      have y:i<n:=by simpa using z
      exact y
    yld:=λi H x w h z #[e,v]=>by
      have y:i<n:=by simpa using z
      exact#[.one x,by rw[Qd,WZ y,v];rfl,rfl,e]
    stop:=λi H h z=>by
      have y:n<=i:=by simpa using z
      exact y }
theorem Gi(K:QC)(f w:Src)(xs y:LV):Yields (jAC K f w) ((xs.zip y).map λp=>.tup [p.1,p.2]) (λH=>rO K H f xs/\rO K H w y) :=
  { go:=λi H h v=>by
      have u:i<xs.9/\i<y.length:=by simp only[QF,QBf]at v;omega
      exact#[xs,y,xs[i],y[i],h.1,h.2,by simp[u.1],by simp[u.2]]
    yld:=λi H x n h v #[p,a,b,g,e,j,k]=>by let#[m,l]:=k xs y h.1 h.2;refine#[.tup [a,b],?_,p,g,e,j];rw[Qd,(WS (z:=(a,b))).mpr #[m,l]];rfl
    stop:=λi H h v=>#[xs,y,h.1,h.2,by simp only[QF,QBf]at v;omega] }
theorem Na(K:QC)(z:Src)(c:Nat)(xs:LV):Yields (jAI K z c) (xs.zipIdx.map λp=>.tup [.int ((c+p.2:Nat):Int),p.1]) (λH=>rO K H z xs) :=
  { go:=λi H h u=>by
      have y:i<xs.length:=by simpa using u
      exact#[xs,xs[i],h,by simp[y]]
    yld:=λi H x g h u #[p,a,v,e,w,k]=>by
      have y:i<xs.length:=by simpa using u
      have f:=k xs h;refine#[.tup [.int ((c+i:Nat):Int),a],?_,p,v,e,w];have b:xs.zipIdx[i]?=jr (a,i):=by rw[List.getElem?_zipIdx,f];simp
      rw[Qd,b];rfl
    stop:=λi H h u=>#[xs,h,by simpa using u] }
theorem M4(ep:Nat)(a:ko)(kvs:List KE):Yields (jAF ep kvs.9 a) (kvs.map λp=>.tup [.ref p.2.1,p.2.2]) (λH=>H a=jr (.dT ep kvs)) :=
  { go:=λi H h y=>by
      have z:i<kvs.length:=by simpa using y
      exact#[kvs,kvs[i],h,rfl,by simp[z]]
    yld:=λi H x w h y #[q,p,u,e,v,k]=>#[.tup [.ref p.2.1,p.2.2],by rw[Qd,k kvs h];rfl,q,u,e,v]
    stop:=λi H h y=>#[kvs,h,rfl,by simpa using y] }
theorem Ma(ep:Nat)(a:ko)(kvs:List KE):Yields (jAH ep kvs.9 a) (kvs.map λp=>.one (.ref p.2.1)) (λH=>H a=jr (.dT ep kvs)) :=
  { go:=λi H h y=>by
      have z:i<kvs.length:=by simpa using y
      exact#[kvs,kvs[i],h,rfl,by simp[z]]
    yld:=λi H x b h y #[u,k]=>by let#[p,w,v]:=k kvs h;exact#[.one (.ref p.2.1),by rw[Qd,w];rfl,v,u]
    stop:=λi H h y=>#[kvs,h,rfl,by simpa using y] }
noncomputable def rQ(h:St->Hp->(List Item->(Hp->Prop)->Hp->Prop)->Prop):TI:=λx H R=>h x H λy st z=>∀J,Yields J y st->R J z
section
variable{X:Cx}{f:Expr}
section
variable{a:Expr}{ta:TA}{p pos k:Pos}{x:Str}{es:List Expr}{d:Nat}
theorem yc{l:Expr}{t:TE}(hl:PE X l t):PI X f l (rQ λσ H R=>t σ H λv m=>cC X.K .val [v] m R):=by
 intro g s σ H R I h;refine FB (hl g s σ H _ I h) λv y #[x,m,i,F,C]=>?_;have j:∀b∈[y.1.1.size],GJ X g m b:=λb hb=>by
  have e:b=y.1.1.size:=by simpa using hb
  subst e;exact i.fpOk (QV _) (i.hok.fresh (QV _))
 cases x with
 |ref a =>
  cases F;rcases C with⟨Z,A,q⟩| ⟨Z,A,q⟩| ⟨ep,u,e,q⟩
  let#[Y,E,p,G]:=i.list A;refine Wv p.isList ?_;exact#[y.1.1.size,[y.1.1.size],_,_,m,rfl,i.kept (t':=y.toks) λb o e=>QH _ e,z0 a _,#[_,QO _ rfl,rfl,rfl],j,q _ (La _ a Z)];let#[Y,E,p,G]:=i.tuple A;refine QCL (show y.1.IsTuple a Y.toArray from p) ?_;exact#[y.1.1.size,[y.1.1.size],_,_,m,rfl,i.kept (t':=y.toks) λb o e=>QH _ e,FV a _,#[_,QO _ rfl,rfl,rfl],j,q _ (Hi _ a Z)];let#[z,J,Z,r,ob,B,O,N,M,L,P]:=(show BA X.prog X.w m y.1 a (.dT ep u) from i.hok a _ e)
  have W:B.size=u.length:=by have:=wy qT L;rw[QF,Q0]at this;rw[this,<- qP r]
  refine Ad J O N.1 M ?_;exact#[y.1.1.size,[y.1.1.size],_,_,m,rfl,i.kept (t':=y.toks) λb o e=>QH _ e,d0 (a:=a) (n:=u.9) (ep:=ep),#[_,QO _ rfl,rfl,by rw[<- W];rfl],j,q _ (Ma ep a u)]
 |_=>exact Qg C
theorem zc(g:x="range")(m:Gl X x)(l:X.mg x=kv)(n:PA X [a] ta)(i:rB a=kf) :
  PI X f (.Call (.Name x p) [a] [] pos) (rQ λσ H R=>ta σ H λvs v=>cC X.K .rng1 vs v R):=by
 subst g;intro z s σ H R I h;refine Call_ (ZC I m l boot_range (Q3 (FB (n pos z s σ H _ I h) λY Z #[vs,v,o,b,u]=>?_) (VA _ i) rfl))
 match vs,u with
 |[.int j],#[#[u,q2],q] =>
  cases b with
  |cons r w =>
   cases w;let#[t,rfl]:=r;refine call_range_1 (n6 o () () u q2 ?_);have e:(j - 0).toNat=j.toNat:=by simp
   rw[e];have y:=Li 0 j.toNat;refine q _ ?_;simpa using y
theorem Rj(Z:x="reversed")(B:Gl X x)(A:X.mg x=kv)(C:PA X [a] ta)(W:rB a=kf) :
  PI X f (.Call (.Name x p) [a] [] pos) (rQ λσ H R=>ta σ H λvs w=>cC X.K .rev vs w R):=by
 subst Z;intro z s σ H R I h;refine Call_ (ZC I B A WO (Q3 (FB (C pos z s σ H _ I h) λE y #[vs,w,u,m,n]=>?_) (VA _ W) rfl))
 match vs,n with
 |[.ref l],#[xs,hq,q] =>
  cases m with
  |cons r j =>
   cases j;cases r;let#[v,i,Y,F]:=u.list hq;have hl:=i.9;refine QAj Y.isList ?_;have g:(y.1.push (lv l ((v.toArray.size:Int) - 1))).IsRevIter y.1.1.size l ((xs.9:Int) - 1 - ((0:Nat):Int)):=#[_,QO _ rfl,rfl,by simp[lv,hl]]
   refine QBm g ?_;refine#[y.1.1.size,[y.1.1.size],_,_,w,rfl,u.kept (t':=y.toks) λb o e=>QH _ e,X5 l _ xs.9,#[Qn _,g],λb hb=>?_,q _ (Mi _ l xs)];have e:b=y.1.1.size:=by simpa using hb
   subst e;exact u.fpOk (QV _) (u.hok.fresh (QV _))
theorem F9:y1 ("zip":Str)=jr (.type "zip"):=by kernel_rfl
theorem Pj{b:Expr}(C:x="zip")(G:Gl X x)(F:X.mg x=kv)(J:PA X [a,b] ta)(E:rB a=kf)(j:rB b=kf) :
  PI X (.Tuple es d k) (.Call (.Name x p) [a,b] [] pos) (rQ λσ H R=>ta σ H λvs m=>cC X.K .zip2 vs m R):=by
 subst C;intro w s σ H R I h;refine Call_ (ZC I G F F9 (Q3 (FB (J pos w s σ H _ I h) λQ y #[vs,m,g,o,Z]=>?_) (VA _ E) (by rw[VA _ j];rfl)))
 match vs,Z with
 |[.ref l1,.ref l2],#[xs,ys,h1,h2,q] =>
  cases o with
  |cons r i =>
   cases i with
   |cons Y i =>
    cases i;cases r;cases Y;let#[B,_,v,_]:=g.src (z:=.l l1) h1;let#[A,_,u,_]:=g.src (z:=.l l2) h2;refine call_zip_2 v u λh' n O N M L _ W=>QCv n ?_;have P:=g.kept (h':=h') (t':=y.toks) W;refine#[_,[y.1.1.size+4,y.1.1.size+2,y.1.1.size+3,y.1.1.size,y.1.1.size+1],_,_,m,rfl,P,V5 (US (YB.lt (z:=.l l1) v) (YB.lt (z:=.l l2) u)),#[n,O,#[_,_,N],M,L],λb hb=>?_,q _ (Gi _ (.l l1) (.l l2) xs ys)];have e:y.1.1.size<=b:=by simp only[QL,qh,or_false]at hb;rcases hb with rfl|rfl|rfl|rfl|rfl;exact qw _ _;exact qw _ _;exact qw _ _;exact QV _;exact qw _ _
    exact g.fpOk e (g.hok.fresh e)
theorem u4:y1 ("enumerate":Str)=jr (.type "enumerate"):=by kernel_rfl
theorem c9{y:AB}{σ:St}{e:Hp}{h:kt}{R:It->Hp->Prop}{c:Nat}{z:Src}{xs:LV}{its:Array kn}{h':vu}(v:Inv X y σ e h)(g:YB h.1 z its)(st:yY (h.1.1.size+1) h.1.1.size z c 0 h')(j:∀c o,h.1.get? c=jr o->h'.get? c=jr o)
  (q:∀J,Yields J (xs.zipIdx.map λp=>.tup [.int ((c+p.2:Nat):Int),p.1]) (λH=>rO X.K H z xs)->R J e):ku (k0 X.prog X.w) X.A (la (.ref (h.1.1.size+1))) (Dy X y σ (.Tuple es d k) R) X.xe { h with heap:=h' }:=by
 let#[#[i,l],_]:=id st;refine QCc l ?_;have m:=v.kept (h':=h') (t':=h.toks) j;have lt:=g.lt;refine#[_,[h.1.1.size+1,h.1.1.size],_,_,e,rfl,m,o0 (cz (Nat.succ_ne_self _)) (Qj (WM lt)) (Qj lt),st,λb hb=>?_,q _ (Na _ z c xs)];have u:h.1.1.size<=b:=by simp only[QL,qh,or_false]at hb;rcases hb with rfl|rfl;exact qw _ _;exact QV _
 exact v.fpOk u (v.hok.fresh u)
theorem vc(l:x="enumerate")(o:Gl X x)(n:X.mg x=kv)(Y:PA X [a] ta)(m:rB a=kf) :
  PI X (.Tuple es d k) (.Call (.Name x p) [a] [] pos) (rQ λσ H R=>ta σ H λvs w=>cC X.K .enum vs w R):=by
 subst l;intro u s σ H R I h;refine Call_ (ZC I o n u4 (Q3 (FB (Y pos u s σ H _ I h) λZ W #[vs,w,v,e,g]=>?_) (VA _ m) rfl))
 match vs,g with
 |[.ref l1],#[z,xs,e1,h1,q] =>
  subst e1;cases e with|cons r b=>cases b;cases r;let#[j,_,y,_]:=v.src h1;refine LX y λA st i=>c9 (xs:=xs) v y st i ?_;simpa using q
theorem Td{K:QC}{u:V}{H:Hp}{R:List Item->(Hp->Prop)->Hp->Prop}(h:cC K .itm [u] H R):∃a ep kvs,u=.ref a/\H a=jr (.dT ep kvs)/\R (kvs.map λp=>.tup [.ref p.2.1,p.2.2]) (λH=>H a=jr (.dT ep kvs)) H:=by
 cases u with|ref a=>let#[ep,kvs,e,q]:=h;exact#[a,ep,kvs,rfl,e,q]|_=>exact Qg h
theorem Sj{o:Expr}{B:TE}{apos cpos:Pos}(J:PE X o B)(i:DC o "items" X.env (gp o X.env)=gp o X.env)(g:(apos.endLine==cpos.line)=kf) :
  Zv X (.Tuple es d k) (.Call (.Attribute o "items" apos) [] [] cpos) (rQ λσ H R=>B σ H λv l=>cC X.K .itm [v] l R):=by
 intro u s σ H R I h;refine QBC i g (FB (J u s σ H _ I h) λv j #[x,l,C,E,G]=>?_);let#[a,ep,y,rfl,e,q]:=Td G;cases E;let#[z,L,P,r,ob,W,m,Z,N,M,Q]:=(show BA X.prog X.w l j.1 a (.dT ep y) from C.hok a _ e)
 refine#["dict",_,QBF,PySem.F.slot_dict_items,PySem.F.type_dict_items,#[ob,m,Z.1],λb O=>?_,Ws rfl (QBz (HX m Z.1 L ?_))];cases O;exact#[ob,m,Z.2.1];have A:Inv X u σ l { j with heap:=j.1.push { cls:=.type "dict_items",data:=.fields (qK [.ref a]) } }:=C.kept (t':=j.toks) λb o e=>QH _ e;refine B8 #[_,QO _ rfl,rfl,rfl] (QH _ m) N ?_;have Y:W.size=y.length:=by have:=wy qT M;rw[QF,Q0]at this;rw[this,<- qP r]
 refine#[_,[_],_,_,l,rfl,A.kept (t':=j.toks) λb o e=>QH _ e,HV (a:=a) (n:=y.9) (ep:=ep),#[.none,.none,?_],λb hb=>?_,q _ (M4 ep a y)];rw[<- Y];exact QO _ rfl;have e:=QJ.mp hb;subst e;exact A.fpOk (QV _) (A.hok.fresh (QV _))
end
end
section
variable{u σ:St}{K:QC}{k:Tg}{H:Hp}{Q:St->Hp->Prop}
def Tg.at:Tg->LN
 | .nm i=>[i]|.tp h=>h
def tV(k:Tg)(u σ:St):Prop:=u.9=σ.9/\∀(j:Nat),j∉k.at->u[j]?=σ[j]?
theorem V0{i:Nat}{v:Option V}(h:u.9=σ.9)(x:∀j,j≠i->u[j]?=σ[j]?):u.set i v=σ.set i v:=by apply wN;intro j;by_cases e:j=i;subst e;by_cases hl:j<σ.9;rw[qz (),qz hl];rw[qF (by rw[wT];omega),qF (by rw[wT];omega)];rw[qY (qC e),qY (qC e)];exact x j e
theorem NI:∀(x:LN) (vs:LV) (u σ:St),u.9=σ.9->(∀j,j∉x->u[j]?=σ[j]?)->dB x vs u=dB x vs σ
 |[],[],u,σ,hl,h=>by have:u=σ:=wN λj=>h j (by simp);rw[this]|[],_::_,_,_,_,_=>rfl|_::_,[],_,_,_,_=>rfl|i::x,v::vs,u,σ,hl,h=>by simp only[dB];refine NI x vs _ _ (by simp[hl]) λj z=>?_;by_cases e:j=i;subst e;by_cases y:j<σ.9;rw[qz (),qz y];rw[qF (by rw[wT];omega),qF (by rw[wT];omega)];rw[qY (qC e),qY (qC e)];exact h j (by simp[e,z])
theorem kF:∀(h:LN) (vs:LV) (σ u:St),dB h vs σ=jr u->u.9=σ.9/\∀j,j∉h->u[j]?=σ[j]?
 |[],[],σ,u,e=>by simp only[dB]at e;cases e;exact#[rfl,λ_ _=>rfl]|[],_::_,_,_,e=>by simp[dB]at e|_::_,[],_,_,e=>by simp[dB]at e|i::h,v::vs,σ,u,e=>by simp only[dB]at e;let#[w,y]:=kF h vs _ _ e;refine#[by rw[w,wT],λj x=>?_];rw[y j (λz=>x (QE _ z)),qY (λz=>x (by simp[z]))]
theorem vV{v:V}(a:tV k u σ)(h:aG K k v σ H Q):aG K k v u H λx m=>tV k x σ/\Q x m:=by
 let#[f,g]:=a;cases k with
 |nm i=>have e:u.set i (jr v)=σ.set i (jr v):=V0 f λj y=>g j (by simpa[Tg.at]using y);show tV (.nm i) (u.set i (jr v)) σ/\Q (u.set i (jr v)) H;rw[e];exact#[#[by simp,λj y=>qY (λz=>y (by simp[Tg.at,z]))],h]|tp b =>
  cases v with|ref p=>let#[w,x,l,e,q]:=h;exact#[w,x,l,by rw[NI b w u σ f λj y=>g j y];exact e,#[(kF b w σ x e).1,λj y=>(kF b w σ x e).2 j y],q]|_=>exact Qg h
theorem MX{v:V}{y:St->Hp->Prop}(m:∀σ H,Q σ H->y σ H)(h:aG K k v σ H Q):aG K k v σ H y:=by
 cases k with
 |nm i=>exact m _ _ h|tp a =>
  cases v with|ref p=>let#[z,x,w,e,q]:=h;exact#[z,x,w,e,m _ _ q]|_=>exact Qg h
theorem TN{it:Item}{x:V}{y:Hp}(w:match it with | .one v=>x=v/\y=H | .tup vs=>∃p,H p=kv/\x=.ref p/\y=DA H p (.tup vs))(h:bindI K k it σ H Q):aG K k x σ y Q:=by
 cases it with
 |one v=>let#[rfl,rfl]:=w;exact h|tup vs =>
  let#[p,z,rfl,rfl]:=w;cases k with
  |nm i=>exact h p z|tp a =>
   let#[u,e,q]:=h (DA H p (.tup vs)) λb o e=>by rw[xA (iA e z)];exact e
   exact#[vs,u,rD.of YA,e,q]
theorem p9{xs:List Item}{st:Hp->Prop}{tc:TT}{te:TE}{a:St}{Q:VK}(h:Zt K xs st (bindI K k) tc te a H Q):RZ K xs st k tc te a H Q:=by
 let#[W,Z,o,j,done]:=h;intro J Y;refine#[λi m v u f=>m=xs.9 - i/\i<=xs.9/\tV k u a/\W i v f,#[xs.9,by simp,Qn _,#[rfl,λ_ _=>rfl],Z],?_];rintro i m v u f ⟨rfl,C,F,w⟩;have n:=o i v f C w;by_cases g:i<xs.9;refine .inr #[Y.go i f n g,λx G y=>?_];let#[it,p,B]:=Y.yld i f x G n g y;have b:=vV F (TN B (j i it v f p w));refine MX (λl I q=>?_) b;let#[r,q]:=q;have E:∀(z:LV) (s:Hp),(∃X,X < xs.9 - i/\X=xs.9 - (i+1)/\i+1<=xs.9/\tV k l a/\W (i+1) z s)=W (i+1) z s:=λz s =>
  qs #[λ#[_,_,_,_,_,w]=>w,λw=>#[_,(),rfl,g,r,w]]
 simp only[E];exact q
 ·have e:i=xs.length:=()
  subst e;let#[A,q]:=done v f w;exact .inl #[Y.stop _ f n (QV _),A,q]
end
end L2.L3
namespace L2.L3
open PySem PySem.Spec PyProof.Rows
variable{Γ:Ev}
section
variable{X:Cx}{E:XK}{p its:PX}{es:List Expr}{e t Y:Expr}{pos:Pos}{S:SC}{Q:LV->Hp->Prop}{G:Glob}{d:ItK}
def bR:PX->Bool
 | .acons _ _=>kd|_=>kf
theorem bV(h:bR p=kf):YS X Γ E p es:=by cases p<;>first|trivial|cases h
theorem nS(Q:Bool->Hp->Prop):(λ(x:V) (h:Hp)=>P9 x h Q)=λ(x:V) (h:Hp)=>∃k,x=.bl k/\Q k h:=by funext x h;exact uo x h Q
theorem Snd.of(pe:PE X e (wp X.K Γ p E).e)(pt:PT X e (wp X.K Γ p E).t)(hb:∀h es pos,e≠.BoolOp h es pos)(y:(wp X.K Γ p E).a=never.a)(x:bR p=true:=by rfl):Snd X Γ E p e :=
 #[pe,pt,λh es pos z=>Qe z (hb h es pos),λes pos z=>by rw[y];exact iT,λ_ _ _=>bV x]
theorem Snd.lit(pe:PE X e (wp X.K Γ p E).e)(x:(wp X.K Γ p E).t=never.t)(hb:∀h es pos,e≠.BoolOp h es pos)(z:(wp X.K Γ p E).a=never.a)(y:bR p=true:=by rfl):Snd X Γ E p e :=
 Snd.of pe (by rw[x];exact VM) hb z y
theorem Snd.args(w:PA X es (wp X.K Γ p E).a)(u:YS X Γ E p es)(v:(wp X.K Γ p E).e=never.e)(y:(wp X.K Γ p E).t=never.t):Snd X Γ E p (.List es pos) :=
 #[by rw[v];exact N6,by rw[y];exact VM,λ_ _ _ z=>(by cases z),λx h z=>by cases z;exact w,λx h z=>by cases z;exact u]
theorem uk{x:Str}{v:V}{u:kn}(y:X.env.scope=S.sc)(h:iU S x=kf)(z:X.mg x=jr u)(r:aA v u):PE X (.Name x pos) (λ_ H Q=>Q v H):=by let#[k,w,a]:=GC h;exact uc (show X.env.scope.names.lookup x=jr .globalImplicit by rw[y];exact k) z r w
theorem BC:∀(p:PX) {es:List Expr},TB p S (.List es pos)=kf->es.all rB=true:=by
 intro p;induction p with|anil=>intro es h;have h:es.isEmpty=true:=h;rw[Qs.mp h];rfl|acons a u _ y=>intro es h;have h:Hc es _=true:=h;let#[x,t,rfl,h]:=vL h;have z:=jA h;rw[qr,z.1,y (jA z.2).2];rfl|lst u y=>exact λh=>y h|_=>exact λh=>(QG h).elim
theorem uV{K:QC}{σ:St}{H:Hp}:∀(p:PX),mF p=kf->TB p S (.List [] pos)=kf->((wp K Γ p E).a σ H Q↔Q [] H):=by
 intro p;cases p with|anil=>exact λ_ _=>WP|acons _ _=>exact λ_ h=>(QG h).elim|_=>exact λh=>(QG h).elim
theorem i4{K:QC}{σ:St}{H:Hp}(p:PX)(h:TB p S (.List [] pos)=kf)(q:(wp K Γ p E).a σ H Q):Q [] H:=by
 cases x:mF p with
 |true=>exact(uV p x h).mp q|false =>
  cases p with|anil=>exact q|acons _ _=>exact(QG h).elim|_=>exact q.elim
theorem xV{a:Expr}(p:PX)(y:mF p=kf)(h:TB p S (.List [a] pos)=kf):∃x,p=.acons x .anil:=by
 cases p with
 |acons x r =>
  have z:TB r S (.List [] pos)=true:=(jA (jA h).2).2;cases r with|anil=>exact#[x,rfl]|acons _ _=>exact(QG z).elim|_=>exact(QG y).elim
 |anil=>exact(QG h).elim|_=>exact(QG y).elim
theorem Nr(h:X.A.units+66<gl)(m:Mt):∃id,nt m.ty/\Slot m.ty m.nm id/\typeOf (.builtin id)=ak (.type "method_descriptor")/\C4 X id (Dd X.K m):=by
 cases m with|append=>exact#[_,WB,PySem.F.slot_list_append,PySem.F.type_list_append,N2]|pop=>exact#[_,WB,PySem.F.slot_list_pop,PySem.F.type_list_pop,Ud]|extend=>exact#[_,WB,PySem.F.slot_list_extend,PySem.F.type_list_extend,Cd]|setd=>exact#[_,QBF,PySem.F.slot_dict_setdefault,PySem.F.type_dict_setdefault,D2 h]|index=>exact#[_,PySem.F.plainAttrs_str,PySem.F.slot_str_index,PySem.F.type_str_index,Hl]|lix=>exact#[_,WB,PySem.F.slot_list_index,PySem.F.type_list_index,Fl]
theorem SE{env:Env}{pos:Pos}:∀{es:List Expr},es.all rB=kf->(fk pos (xk es env)).any (·.1)=kd
 |[],_=>rfl|e::es,h=>by rw[qr]at h;let#[y,x]:=jA h;rw[VA env y];show(kd||(fk pos (xk es env)).any (·.1))=kd;rw[SE x];rfl
theorem fV{env:Env}{pos:Pos}:∀{es:List Expr},es.all rB=kf->(fk pos (xk es env)).all (λx=>!x.1)=kf
 |[],_=>rfl|e::es,h=>by rw[qr]at h;let#[z,y]:=jA h;rw[VA env z];show(kf&&(fk pos (xk es env)).all (λx=>!x.1))=kf;rw[fV y];rfl
theorem lW(ok:OkX X S G E)(y:dv (mF its) S d (λes p=>TB its S (.List es p)) t Y pos=kf)(j:Ss G d)(o:isItm d=kd)
  (g:∀es p,TB its S (.List es p)=kf->Snd X G.ev E its (.List es p)):PI X t Y (rQ λσ H R=>(wp X.K G.ev its E).a σ H λvs q=>cC X.K d vs q R):=by
 have v:∀{x:Str},iU S x=kf->Gl X x:=λ{x} h=>by show X.env.scope.names.lookup x=jr .globalImplicit;rw[ok.sc];exact(GC h).1
 have w:BR t=kf->∃es k p,t=.Tuple es k p:=λh=>by
  cases t with|Tuple es k p=>exact#[es,k,p,rfl]|_=>exact(QG h).elim
 cases d with
 |val=>have i:=jA y;have m:=(g _ pos i.2).pas _ pos rfl;let#[a,rfl]:=xV its i.1 i.2;exact yc m.1|rng1=>let#[l,es,n,p,rfl,f,h]:=iC y;have u:=jA h;cases Qs.mp u.1;let#[a,rfl,z]:=eB u.2;exact zc rfl (v f) (ok.no _ j) ((g _ p z).pa _ p rfl) (by simpa using BC its z)|rev=>let#[l,es,n,p,rfl,f,h]:=iC y;have u:=jA h;cases Qs.mp u.1;let#[a,rfl,z]:=eB u.2;exact Rj rfl (v f) (ok.no _ j) ((g _ p z).pa _ p rfl) (by simpa using BC its z)|zip2 =>
  have i:=jA y;let#[es,k,pt,rfl]:=w i.1;let#[l,es,n,p,rfl,f,h]:=iC i.2;have u:=jA h;cases Qs.mp u.1;let#[a,b,rfl,z]:=zg u.2;have st:rB a=kf/\rB b=true:=by simpa using BC its z
  exact Pj rfl (v f) (ok.no _ j) ((g _ p z).pa _ p rfl) st.1 st.2
 |enum=>have i:=jA y;let#[es,k,pt,rfl]:=w i.1;let#[l,es,n,p,rfl,f,h]:=iC i.2;have u:=jA h;cases Qs.mp u.1;let#[a,rfl,z]:=eB u.2;exact vc rfl (v f) (ok.no _ j) ((g _ p z).pa _ p rfl) (by simpa using BC its z)|itm=>cases o
theorem kc(ok:OkX X S G E)(x:dv (mF its) S d (λes p=>TB its S (.List es p)) t Y pos=kf)(g:Ss G d)
  (u:∀es p,TB its S (.List es p)=kf->Snd X G.ev E its (.List es p)):Zv X t Y (rQ λσ H R=>(wp X.K G.ev its E).a σ H λvs j=>cC X.K d vs j R):=by
 cases b:isItm d with
 |false=>exact(lW ok x g b u).to0|true =>
  cases d with
  |itm =>
   have i:=jA x;have w:=jA i.2;cases t with|Tuple es k pt=>let#[v,l,es,p,rfl,hl,h]:=AY w.2;have f:=jA h;have z:=jA f.2;cases Qs.mp z.1;have y:=(u _ p z.2).pas _ p rfl;let#[a,rfl]:=xV its w.1 z.2;exact Sj y.1 (F7 f.1) hl|_=>exact(QG i.1).elim
  |_=>cases b
theorem zH{te x:TE}(h:PE X e te)(q:∀σ H Q,x σ H Q->te σ H Q):PE X e x:=λy s σ H Q I z=>h y s σ H Q I (q σ H Q z)
theorem snd:∀(p:PX) {X:Cx}{S:SC}{E:XK}(ok:OkX X S G E) {e:Expr},TB p S e=kf->IA G p->Snd X G.ev E p e:=by
 intro p;induction p with
 |var i =>
  intro X S E ok e h _;let#[x,pos,rfl,h]:=ZE h;let#[Z,A,L,P]:=Ea h;have base:=F6 (pos:=pos) (show X.N[i]?=jr x by rw[ok.N];exact Z) (show ou X.env.scope x by rw[ok.sc];exact A) L P;have pe:PE X (.Name x pos) (wp X.K G.ev (.var i) E).e:=zH base λJ H Q q=>by
   have q:(match J[i]? with|some (jr v)=>Q v H|_=>False):=q;cases hs:J[i]? with
   |none=>rw[hs]at q;exact q.elim|some o =>
    rw[hs]at q;cases o with|none=>exact q.elim|some v=>exact#[v,hs,q]
  exact Snd.of pe (eD pe λ_=>rfl) (λ_ _ _ z=>by cases z) rfl
 |int i=>intro X S E ok e h _;let#[c,k,pos,rfl,h]:=VE h;let#[j,rfl,h]:=D9 h;cases qe h;exact Snd.of mW (eD (ta:=λ_ H Q=>Q (.int i) H) mW λ_=>rfl) (λ_ _ _ z=>by cases z) rfl|str x=>intro X S E ok e h _;let#[c,k,pos,rfl,h]:=VE h;let#[j,rfl,h]:=Gn h;cases qe h;exact Snd.lit jk rfl (λ_ _ _ z=>by cases z) rfl|bl b=>intro X S E ok e h _;let#[c,k,pos,rfl,h]:=VE h;let#[j,rfl,h]:=Pe h;cases qe h;exact Snd.of Rf (eD (ta:=λ_ H Q=>Q (.bl b) H) Rf λ_=>rfl) (λ_ _ _ z=>by cases z) rfl|non=>intro X S E ok e h _;let#[c,k,pos,rfl,h]:=VE h;cases Oe h;exact Snd.of M6 (eD (ta:=λ_ H Q=>Q .non H) M6 λ_=>rfl) (λ_ _ _ z=>by cases z) rfl|glo x=>intro X S E ok e h nd;let#[y,pos,rfl,h]:=ZE h;have h:=jA h;cases qe h.1;let#[u,hm,r]:=ok.val x nd;have pe:=uk (pos:=pos) ok.sc h.2 hm r;exact Snd.of pe (eD pe λ_=>rfl) (λ_ _ _ z=>by cases z) rfl|bty x n=>intro X S E ok e h nd;let#[y,pos,rfl,h]:=ZE h;have h:=jA h;cases qe h.1;let#[g1,g2,g3]:=GC h.2;exact Snd.lit (ec (show X.env.scope.names.lookup x=jr .globalImplicit by rw[ok.sc];exact g1) (ok.no x nd.1) nd.2 rfl g3 g2) rfl (λ_ _ _ z=>by cases z) rfl|bin op a b W M=>intro X S E ok e h nd;let#[l,o,r,pos,rfl,h]:=Lc h;have Z:=jA h;have A:=jA Z.2;cases qe Z.1;have pe:=Aq (pos:=pos) (Yk op) (W ok A.1 nd.1).pe (M ok A.2 nd.2).pe;exact Snd.of pe (eD pe λ_=>rfl) (λ_ _ _ z=>by cases z) rfl|cmp op a b W M=>intro X S E ok e h nd;let#[l,os,rs,pos,rfl,h]:=Gc h;let#[o,rfl,h]:=eB h;let#[r,rfl,h]:=eB h;have Z:=jA h;have A:=jA Z.2;have L:=jA A.2;cases qe Z.1;have pa:=(W ok L.1 nd.1).pe;have pb:=(M ok L.2 nd.2).pe;refine Snd.of (gc (pos:=pos) (z7 ok.un op) pa pb (G7 A.1)) (λO s J H Q I q=>Rb (pos:=pos) (z7 ok.un op) pa pb (G7 A.1) O s J H Q I ?_) (λ_ _ _ z=>by cases z) rfl;show yq _ _ _ J H (λ(x:V) (B:Hp)=>∃k,x=.bl k/\Q k B);rw[<- nS Q];exact q|and a b W M =>
  intro X S E ok e h nd;let#[o,es,pos,rfl,h]:=ZT h;have Z:=jA h;cases qe Z.1;let#[l,t,rfl,A]:=vL Z.2;let#[r,t,rfl,L]:=vL A;have P:=jA L;have sa:=W ok P.1 nd.1;have sb:=M ok P.2 nd.2;have eqA:∀(J:St) (Q:VK),(λ(x:V) (B:Hp)=>∃c,x=.bl c/\if c=kf then(wp X.K G.ev b E).e J B Q else Q (.bl kd) B)=λ(x:V) (B:Hp)=>P9 x B λc H2=>if c=kf then(wp X.K G.ev b E).e J H2 Q else Q (.bl kd) H2:=λJ Q=>(nS _).symm
  have key:PW X (.BoolOp .And (l::r::t) pos) (wp X.K G.ev (.and a b) E).t/\PE X (.BoolOp .And (l::r::t) pos) (λJ H Q=>(wp X.K G.ev a E).e J H λx B=>∃c,x=.bl c/\if c=kf then(wp X.K G.ev b E).e J B Q else Q (.bl kd) B):=by
   cases t with|nil=>exact#[J6 sa.pt (Pb sb.pt),R6 (pos:=pos) sa.pe (L6 sb.pe)]|cons q t=>exact#[J6 sa.pt (sb.pw _ _ _ rfl),R6 (pos:=pos) sa.pe sb.pe]
  refine#[zH key.2 λJ H Q q=>?_,key.1.pt,λ_ _ _ _=>key.1,λ_ _ z=>(by cases z),λ_ _ z=>trivial];rw[eqA];exact q
 |or a b W M =>
  intro X S E ok e h nd;let#[o,es,pos,rfl,h]:=ZT h;have Z:=jA h;cases qe Z.1;let#[l,t,rfl,A]:=vL Z.2;let#[r,t,rfl,L]:=vL A;have P:=jA L;have sa:=W ok P.1 nd.1;have sb:=M ok P.2 nd.2;have eqA:∀(J:St) (Q:VK),(λ(x:V) (B:Hp)=>∃c,x=.bl c/\if c=kf then Q (.bl kf) B else(wp X.K G.ev b E).e J B Q)=λ(x:V) (B:Hp)=>P9 x B λc H2=>if c=kf then Q (.bl kf) H2 else(wp X.K G.ev b E).e J H2 Q:=λJ Q=>(nS _).symm
  have key:PW X (.BoolOp .Or (l::r::t) pos) (wp X.K G.ev (.or a b) E).t/\PE X (.BoolOp .Or (l::r::t) pos) (λJ H Q=>(wp X.K G.ev a E).e J H λx B=>∃c,x=.bl c/\if c=kf then Q (.bl kf) B else(wp X.K G.ev b E).e J B Q):=by
   cases t with|nil=>exact#[Mf sa.pt (Dj sb.pt),Pf (pos:=pos) sa.pe (L6 sb.pe)]|cons q t=>exact#[Mf sa.pt (sb.pw _ _ _ rfl),Pf (pos:=pos) sa.pe sb.pe]
  refine#[zH key.2 λJ H Q q=>?_,key.1.pt,λ_ _ _ _=>key.1,λ_ _ z=>(by cases z),λ_ _ z=>trivial];rw[eqA];exact q
 |not a W=>intro X S E ok e h nd;let#[o,x,pos,rfl,h]:=k7 h;have Z:=jA h;cases qe Z.1;have sa:=W ok Z.2 nd;refine Snd.of (λO s J H Q I q=>?_) (Fj sa.pt) (λ_ _ _ z=>by cases z) rfl;refine UnaryOp_ (FB (sa.pe O s J H _ I q) λv s1 #[x,B,I1,r1,q1]=>?_);have q1:TF X.K x B (λc H2=>Q (.bl (!c)) H2):=q1;rw[gY]at q1;refine not_of (FB (U5 O s1 J B x v _ I1 r1 q1) λc s2 #[H2,I2,q2]=>?_);exact#[.bl (!c),H2,I2,rfl,q2]|ife c a b ihc W M=>intro X S E ok e h nd;let#[t,l,r,pos,rfl,h]:=Xk h;have Z:=jA h;have A:=jA Z.2;exact Snd.lit (O6 (pos:=pos) (ihc ok Z.1 nd.1).pt (W ok A.1 nd.2.1).pe (M ok A.2 nd.2.2).pe) rfl (λ_ _ _ z=>by cases z) rfl|call f as ih =>
  intro X S E ok e h nd;let#[p,es,ks,pos,rfl,hg,h]:=iC h;have Z:=jA h;cases Qs.mp Z.1;let#[g1,g2,g3]:=GC hg;have hg:Gl X f:=show X.env.scope.names.lookup f=jr .globalImplicit by rw[ok.sc];exact g1
  let#[CX,k,a,fd,ps,F,hr,hm,hk,hb,hx,_]:=ok.fn f nd.1;have pa:=(ih ok Z.2 nd.2).pa es pos rfl;have st:=BC as Z.2;have pe:PE X (.Call (.Name f p) es [] pos) (wp X.K G.ev (.call f as) E).e:=by
   cases es with|nil=>exact zH (P6 (pos:=pos) (p:=p) F hr hg hm hk hb .nil hx g2) λJ H Q q=>i4 as Z.2 q|cons e1 es1=>have st:=jA st;refine zH (rc (pos:=pos) (p:=p) F hr hg hm hk hb .nil hx pa g2 (VA _ st.1) (SE st.2)) λJ H Q q=>?_;show(wp X.K G.ev as E).a J H λvs B=>G.ev.sp f (vs++[]) B Q E;simp only[qL];exact q
  exact Snd.of pe (eD pe λ_=>rfl) (λ_ _ _ z=>by cases z) rfl
 |idx a b W M=>intro X S E ok e h nd;let#[v,i,pos,rfl,h]:=yR h;have Z:=jA h;have A:=jA Z.2;have pe:=Iq (pos:=pos) (Vm ok.un) (W ok A.1 nd.1).pe (M ok A.2 nd.2).pe (jc Z.1);exact Snd.of pe (eD pe λ_=>rfl) (λ_ _ _ z=>by cases z) rfl|nop=>intro X S E ok e h nd;exact(QG h).elim|lst as ih=>intro X S E ok e h nd;let#[es,pos,rfl,h]:=zN h;have pa:=(ih ok h nd).pa es pos rfl;exact#[zk pa,VM,λ_ _ _ z=>(by cases z),λ_ _ z=>iT,λ_ _ z=>trivial]|tup as ih=>intro X S E ok e h nd;let#[es,k,pos,rfl,h]:=Bc h;exact Snd.lit (Ej ((ih ok h nd).pa es pos rfl)) rfl (λ_ _ _ z=>by cases z) rfl|dnew b=>intro X S E ok e h nd;let#[ks,vs,pos,rfl,h]:=JT h;have Z:=jA h;cases Qs.mp Z.1;cases Qs.mp Z.2;exact Snd.lit cc rfl (λ_ _ _ z=>by cases z) rfl|dsp a b W M =>
  intro X S E ok e h nd;let#[ks,vs,pos,rfl,h]:=JT h;let#[k,rfl,h]:=eB h;let#[v,rfl,h]:=eB h;have Z:=jA h;cases k with|none=>exact(QG Z.1).elim|some k=>exact Snd.lit (bc ok.un (W ok Z.1 nd.1).pe (M ok Z.2 nd.2).pe) rfl (λ_ _ _ z=>by cases z) rfl
 |ng i=>intro X S E ok e h nd;let#[o,x,pos,rfl,h]:=k7 h;have Z:=jA h;cases qe Z.1;let#[c,k,pos2,rfl,A]:=VE Z.2;let#[j,rfl,A]:=D9 A;cases qe A;exact Snd.lit (λO s J H Q I q=>Tq (pos:=pos) (Ei (X:=X)) (ta:=λ_ H Q=>Q (.int i) H) mW O s J H Q I #[i,rfl,q]) rfl (λ_ _ _ z=>by cases z) rfl|lrv a W=>intro X S E ok e h nd;let#[p,es,ks,pos,rfl,hg,h]:=iC h;have Z:=jA h;cases Qs.mp Z.1;let#[x,rfl,h]:=eB Z.2;let#[p',es,ks,pos',rfl,hg',h]:=iC h;have A:=jA h;cases Qs.mp A.1;let#[y,rfl,h5]:=eB A.2;have L:=jA h5;refine Snd.lit (vk ok.calm (show X.env.scope.names.lookup _=jr .globalImplicit by rw[ok.sc];exact(GC hg).1) (show X.env.scope.names.lookup _=jr .globalImplicit by rw[ok.sc];exact(GC hg').1) (ok.no _ nd.1) (ok.no _ nd.2.1) (W ok L.2 nd.2.2).pe (VA _ L.1)) rfl (λ_ _ _ z=>by cases z) rfl|trv a W=>intro X S E ok e h nd;let#[p,es,ks,pos,rfl,hg,h]:=iC h;have Z:=jA h;cases Qs.mp Z.1;let#[x,rfl,h]:=eB Z.2;let#[p',es,ks,pos',rfl,hg',h]:=iC h;have A:=jA h;cases Qs.mp A.1;let#[y,rfl,h5]:=eB A.2;have L:=jA h5;refine Snd.lit (Ij ok.calm (show X.env.scope.names.lookup _=jr .globalImplicit by rw[ok.sc];exact(GC hg).1) (show X.env.scope.names.lookup _=jr .globalImplicit by rw[ok.sc];exact(GC hg').1) (ok.no _ nd.1) (ok.no _ nd.2.1) (W ok L.2 nd.2.2).pe (VA _ L.1)) rfl (λ_ _ _ z=>by cases z) rfl|anil=>intro X S E ok e h nd;let#[es,pos,rfl,h]:=zN h;cases Qs.mp h;exact Snd.args SQ trivial rfl rfl|acons a as W ih=>intro X S E ok e h nd;let#[es,pos,rfl,h]:=zN h;let#[e1,es1,rfl,h]:=vL h;have Z:=jA h;have A:=jA Z.2;have sa:=(W ok A.1 nd.1).pe;have ss:=ih ok A.2 nd.2;exact Snd.args (vJ sa (ss.pa es1 pos rfl) (VA _ Z.1)) #[sa,ss.pas es1 pos rfl] rfl rfl|bi f as ih =>
  intro X S E ok e h nd;let#[p,es,ks,pos,rfl,hg,h]:=iC h;have Z:=jA h;cases Qs.mp Z.1;let#[e1,es1,rfl,L]:=vL Z.2;let#[g1,g2,g3]:=GC hg;have hg:Gl X f.nm:=show X.env.scope.names.lookup f.nm=jr .globalImplicit by rw[ok.sc];exact g1
  have pa:=(ih ok L nd.2).pa _ pos rfl;have st:=jA (BC as L);have pe:PE X (.Call (.Name f.nm p) (e1::es1) [] pos) (wp X.K G.ev (.bi f as) E).e:=by
   rcases Et ok.un ok.calm f with⟨id,hb,hc⟩| ⟨T,hb,hc⟩
   exact PM (pos:=pos) (p:=p) hc hg (ok.no _ nd.1) hb pa g3 g2 (VA _ st.1) (SE st.2);exact K1 (pos:=pos) (p:=p) hc hg (ok.no _ nd.1) hb pa g3 g2 (VA _ st.1) (SE st.2)
  exact Snd.of pe (eD pe λ_=>rfl) (λ_ _ _ z=>by cases z) rfl
 |isi a c W ihc =>
  intro X S E ok e h nd;let#[p,es,ks,pos,rfl,hg,h]:=iC h;have Z:=jA h;cases Qs.mp Z.1;let#[l,r,rfl,A]:=zg Z.2;have L:=jA A;have P:=jA L.2;have h5:=jA P.2;let#[g1,g2,g3]:=GC hg;have hg:Gl X "isinstance":=show X.env.scope.names.lookup ("isinstance":Str)=jr .globalImplicit by rw[ok.sc];exact g1
  have pe:PE X (.Call (.Name "isinstance" p) [l,r] [] pos) (wp X.K G.ev (.isi a c) E).e :=
   PM (pos:=pos) (p:=p) Z9 hg (ok.no _ nd.1) (by kernel_rfl) (vJ (W ok h5.1 nd.2.1).pe (vJ (ihc ok h5.2 nd.2.2).pe SQ (VA _ P.1)) (VA _ L.1)) g3 g2 (VA _ L.1) (SE (by rw[qr,P.1];rfl))
  exact Snd.of pe (eD pe λ_=>rfl) (λ_ _ _ z=>by cases z) rfl
 |mt m o as iho ih =>
  intro X S E ok e h nd;let#[v,ap,es,pos,rfl,A,h]:=AY h;have h0:=jA h;have Z:=jA h0.2;have L:=jA Z.2;have P:=jA L.2;have po:=(iho ok P.1 nd.1).pe;have pa:=(ih ok P.2 nd.2).pa _ pos rfl;have st:=BC as P.2;let#[id,pat,sl,ty,mr]:=Nr (X:=X) ok.un m;have pe:PE X (.Call (.Attribute v m.nm ap) es [] pos) (wp X.K G.ev (.mt m o as) E).e:=by
   cases es with
   |nil =>
    refine zH (ck (apos:=ap) (cpos:=pos) pat sl ty mr po (F7 Z.1) A) λJ H Q q=>?_;have e:(λ(x:V) (B:Hp)=>K4 X.K m.ty x B/\Dd X.K m x [] B Q)=λ(x:V) (B:Hp)=>K4 X.K m.ty x B/\(wp X.K G.ev as E).a J B λvs H2=>Dd X.K m x vs H2 Q:=by funext x B;rw[qs (uV as h0.1 P.2)]
    show(wp X.K G.ev o E).e J H (λ(x:V) (B:Hp)=>K4 X.K m.ty x B/\Dd X.K m x [] B Q);rw[e];exact q
   |cons e1 es1=>have s2:=jA st;refine yr (apos:=ap) (cpos:=pos) pat sl ty mr po pa (F7 Z.1) ?_ A (VA _ s2.1) (SE s2.2);rw[fV st];have hl':(e1::es1).9<20:=qq L.1;show(kf&&kf&&decide ((e1::es1).9+0+0<30))=kf;rw[dT (Qt hl' (by decide:20<=30):(e1::es1).9+0+0<30)];rfl
  exact Snd.of pe (eD pe λ_=>rfl) (λ_ _ _ z=>by cases z) rfl
 |slc a lo hi W ihl ihh =>
  intro X S E ok e h nd;let#[v,sl,pos,rfl,h]:=yR h;let#[l,u,st,p2,rfl,h]:=C1 h;have Z:=jA h;have A:=jA Z.2;have L:=jA A.2;have part:∀(q:PX) (w:Option Expr),(∀{e:Expr},TB q S e=kf->PE X e (wp X.K G.ev q E).e)->nr w (isNop q) (λe=>!isNop q&&TB q S e)=kf ->
    PO X w (λJ H R=>(if isNop q=kf then λ(R:Option Int->Hp->Prop)=>R kv H else λR=>(wp X.K G.ev q E).e J H λl H2=>TM l H2 R) R):=by
   intro q w ihq hq;cases w with
   |none=>have e:isNop q=true:=hq;simp only[e,if_true];exact Ib|some e' =>
    have q1:=jA hq;have e:isNop q=false:=(qD _).mp q1.1;simp only[e,Qw,if_false];intro O s J H Q I w;refine Eb (ihq q1.2) O s J H Q I ?_;show(wp X.K G.ev q E).e J H (λ(x:V) (B:Hp)=>∃i,x=.int i/\Q (jr i) B);have e2:(λ(x:V) (B:Hp)=>∃i,x=.int i/\Q (jr i) B)=λ(x:V) (B:Hp)=>TM x B Q:=by funext x B;exact(S6 x B Q).symm
    rw[e2];exact w
  cases QAx.mp Z.1;exact Snd.lit (G6 (pos:=pos) (p2:=p2) ij (W ok A.1 nd.1).pe (part lo l (λhc=>(ihl ok hc nd.2.1).pe) L.1) (part hi u (λhc=>(ihh ok hc nd.2.2).pe) L.2)) rfl (λ_ _ _ z=>by cases z) rfl
 |comp mask tgs tg d its cond elt ihi ihc ihe =>
  intro X S E ok e h nd;let#[e,gens,scope,pos,rfl,h]:=sW h;let#[#[t,Y,ifs,asy],rfl,h]:=eB h;have h0:=jA h;have hi:=jA h0.2;have Z:=jA hi.2;have A:=jA Z.2;have L:=jA A.2;have P:=jA L.2;have h5:=jA P.2;have ea:asy=0:=qe h0.1;cases ea;have C:CompSt X.N X.env.scope scope tgs mask:=by rw[ok.N,ok.sc];exact FU Z.1
  let#[n1,n2,n3,n4]:=nd;have pi:PI X t Y (rQ λJ H R=>(wp X.K G.ev its E).a J H λvs B=>cC X.K d vs B R):=lW ok P.1 n1 ((qD _).mp hi.1) λes p q=>ihi ok q n2;refine Snd.lit (fc (pos:=pos) (g:=aG X.K tg) (tc:=if isNop cond=kf then λ_ H Q=>Q kf H else(wp X.K G.ev cond (λ_ _ _=>False)).t) (te:=(wp X.K G.ev elt (λ_ _ _=>False)).e) ok.calm pi C (λs H ex=>?_) (λx=>ZW L.1 x)) rfl (λ_ _ _ z=>by cases z) rfl;have okc:=ok.comp scope tgs mask s H ex;refine#[C6 okc (λz=>(QG z).elim) C.nd A.1,?_,(ihe okc h5.2 n4).pe];have hif:=h5.1;cases ifs with|nil=>have e:isNop cond=true:=hif;simp only[e,if_true];exact GY|cons c r=>have q1:=jA hif;have q2:=jA q1.2;cases Qs.mp q1.1;have e:isNop cond=false:=(qD _).mp q2.1;simp only[e,Qw,if_false];exact FY (ihc okc q2.2 n3).pt
end
end L2.L3
namespace L2.L3
open PySem PySem.Spec PyProof.Rows
section
variable{s:gV}{f:Expr->List gV->List gV->Bool}
set_option genSizeOf false in
set_option genInjectivity false in
inductive PT where
 |nil|seq (s r:PT)
 |set (i:Nat) (e:PX)
 |expr (e:PX)|ret (e:PX)
 |ife (c:PX) (a b:PT)
 |for_ (tg:Tg) (ik:ItK) (its:PX) (body:PT)
 |own (i:Nat) (e:PX)|six (o i e:PX)|sdf (i:Nat) (k:PX)|whl (c:PX) (body:PT)|frz (is:LN) (s:PT)
def uT(K:QC):V->V->V->Hp->(Hp->Prop)->Prop:=λo i v H Q=>match o,i with
 | .ref p,.int k=>∃h j,H p=jr (.lst h)/\XS h.9 k=jr j/\Q (DA H p (.lst (h.set j v)))|.ref p,.str z=>Fo K H p (.str z) v Q|.ref p,.ref b=>Fo K H p (.ref b) v Q|_,_=>False
noncomputable def iq(i:Nat)(k:PX):PX:=.mt .setd (.var i) %[k,.dnew kf|1]
def Sx(J:It)(g:TG)(tb:TS)(D:Ends)(σ:St)(w:Hp):Prop:=∃W:Nat->Nat->St->Hp->Prop,(∃m,W 0 m σ w)/\∀i m σ H,W i m σ H ->
 (J.stop i H/\D.nx σ H)∨(J.go i H/\∃N:St->Hp->Prop,(∀h y,N h y->∃u,u < m/\W (i+1) u h y)/\∀x y,J.yld i H x y->g x σ y λz v=>tb { D with nx:=N,ct:=N,bk:=D.nx } z v)
def Co(K:QC)(xs:List Item)(st:Hp->Prop)(h:Tg)(tb:TS)(D:Ends)(σ:St)(H:Hp):Prop:=∀J,Yields J xs st->Sx J (aG K h) tb D σ H
def DS(K:QC)(Γ:Ev)(E:XK):PT->TS
 | .nil=>λD h H=>D.nx h H|.seq s r=>λD h H=>DS K Γ E s { D with nx:=λh H=>DS K Γ E r D h H } h H|.set i e=>λD h H=>(wp K Γ e E).e h H λx y=>D.nx (h.set i (jr x)) y|.own i e=>λD h H=>(wp K Γ e E).e h H λx y=>D.nx (h.set i (jr x)) y|.expr e=>λD h H=>(wp K Γ e E).e h H λ_ y=>D.nx h y|.ret e=>λD h H=>(wp K Γ e E).e h H D.rt|.ife c a b=>λD h H=>(wp K Γ c E).t h H λk y=>if k=kf then DS K Γ E a D h y else DS K Γ E b D h y|.for_ l p u z=>λD h H=>(wp K Γ u E).a h H λj y=>cC K p j y λg st w=>Co K g st l (DS K Γ E z) D h w|.six o i e=>λD h H=>(wp K Γ e E).e h H λv y=>(wp K Γ o E).e h y λm w=>(wp K Γ i E).e h w λn X=>uT K m n v X λq=>D.nx h q|.sdf i k=>λD h H=>(wp K Γ (iq i k) E).e h H λ_ y=>D.nx h y|.whl c z=>B5 (wp K Γ c E).t (DS K Γ E z)|.frz _ s=>DS K Γ E s
def bF(G:Glob):PT->Prop
 | .nil=>True|.seq s r=>bF G s/\bF G r|.set _ e=>IA G e|.own _ e=>IA G e|.six o i e=>IA G o/\IA G i/\IA G e|.sdf i k=>IA G (iq i k)|.whl c h=>IA G c/\bF G h|.frz _ s=>bF G s|.expr e=>IA G e|.ret e=>IA G e|.ife c a b=>IA G c/\bF G a/\bF G b|.for_ _ y x h=>Ss G y/\IA G x/\bF G h
noncomputable def yI:Expr->Bool
 | .ListComp _ _ _ _ | .SetComp _ _ _ _ | .DictComp _ _ _ _ _=>kd
 |_=>kf
noncomputable def aQ(S:SC)(i:Nat)(x:Str):Bool:=S.N[i]?==jr x&&(S.sc.names.lookup x==jr .local||S.sc.names.lookup x==jr .cell)
noncomputable def uZ:PT->Bool
 | .nil=>kd|.seq _ _=>kd|.frz _ s=>uZ s|_=>kf
noncomputable def PY(s:gV)(f:List Expr->Expr->Bool):Bool:=match s with | .Assign h v _=>f h v|_=>kd
noncomputable def Uk(s:gV)(f:Expr->Bool):Bool:=match s with | .Expr v _=>f v|_=>kd
noncomputable def Tf(s:gV)(f:Option Expr->Bool):Bool:=match s with | .Return v _=>f v|_=>kd
noncomputable def Af(s:gV)(f:Expr->List gV->List gV->Bool):Bool:=match s with | .If t x y _=>f t x y|_=>kd
noncomputable def Ef(s:gV)(f:Expr->Expr->List gV->List gV->Pos->Bool):Bool:=match s with | .For t it x y p=>f t it x y p|_=>kd
noncomputable def gr(s:gV)(f:Expr->List gV->List gV->Bool):Bool:=match s with | .While t x y _=>f t x y|_=>kd
theorem kR{f:List Expr->Expr->Bool}(h:PY s f=kf):∃ts v p,s=.Assign ts v p/\f ts v=true:=by
 cases s with|Assign ts v p=>exact#[ts,v,p,rfl,h]|_=>exact(QG h).elim
theorem v7{f:Expr->Bool}(h:Uk s f=kf):∃v p,s=.Expr v p/\f v=true:=by
 cases s with|Expr v p=>exact#[v,p,rfl,h]|_=>exact(QG h).elim
theorem Cc{f:Option Expr->Bool}(h:Tf s f=kf):∃v p,s=.Return v p/\f v=true:=by
 cases s with|Return v p=>exact#[v,p,rfl,h]|_=>exact(QG h).elim
theorem Dc(h:Af s f=kf):∃t x y p,s=.If t x y p/\f t x y=true:=by
 cases s with|If t x y p=>exact#[t,x,y,p,rfl,h]|_=>exact(QG h).elim
theorem Fc{f:Expr->Expr->List gV->List gV->Pos->Bool}(h:Ef s f=kf):∃t it x y p,s=.For t it x y p/\f t it x y p=true:=by
 cases s with|For t it x y p=>exact#[t,it,x,y,p,rfl,h]|_=>exact(QG h).elim
theorem Zk(h:gr s f=kf):∃t x y p,s=.While t x y p/\f t x y=true:=by
 cases s with|While t x y p=>exact#[t,x,y,p,rfl,h]|_=>exact(QG h).elim
def setB(S:SC)(i:Nat)(c:Expr->Bool)(l:List gV):Bool:=aL l λst=>PY st λh v=>aL h λt=>jI t λx _=>aQ S i x&&((yI v||S.sc.names.lookup x==jr .cell)&&c v)
def Vg:PX->Bool
 | .comp _ _ _ _ _ _ _=>kf|_=>kd
def sY(S:SC)(i:Nat)(e:PX)(l:List gV):Bool:=aL l λst=>PY st λy v=>aL y λt=>jI t λx z=>Vk v λw u sc h=>Al S i x&&(S.sc.kind==.function&&(z.line==h.line&&(!(sc.names.any λ(n,k)=>n==x&&(k==.local||k==.cell))&&(Vg e&&TB e S (.ListComp w u sc h)))))
def jS:PT->SC->List gV->Bool
 | .nil,_,l=>l.isEmpty|.seq s r,S,l=>Hc l λst l=>uZ s&&(jS s S [st]&&jS r S l)|.set i e,S,l=>setB S i (TB e S) l||sY S i e l
 | .own i e,S,l=>setB S i (TB e S) l||sY S i e l
 | .frz _ s,S,l=>jS s S l|.expr e,S,l=>aL l λst=>Uk st λv=>yI v&&TB e S v|.ret e,S,l=>aL l λst=>Tf st λv=>nr v kd (TB e S)|.ife c a b,S,l=>aL l λst=>Af st λt x y=>TB c S t&&(jS a S x&&jS b S y)|.for_ tg ik its body,S,l=>aL l λst=>Ef st λt it x y h=>y.isEmpty&&(yw kf S tg t&&(UT it&&(dv (mF its) S ik (λg p=>TB its S (.List g p)) t it h&&jS body S x)))|.six o i e,S,l=>aL l λst=>PY st λu v=>aL u λt=>NY t λw z _=>gR z&&(yI v&&(TB e S v&&(TB o S w&&TB i S z)))|.sdf i k,S,l=>aL l λst=>Uk st λv=>yI v&&TB (iq i k) S v|.whl c body,S,l=>aL l λst=>gr st λt x y=>y.isEmpty&&(TB c S t&&jS body S x)
structure OkS(X:Cx)(S:SC)(G:Glob)(E:XK):Prop extends OkX X S G E where
 po:ri (k0 X.prog X.w) X.A X.env X.xe
 nd:X.N.Nodup
 cel:∀x,X.fn x=kf
end
section
variable{X:Cx}{S:SC}{G:Glob}{E:XK}
section
variable{i:Nat}{x:Str}{e:PX}
theorem cR{e:Expr}{t:Option Expr}{n:Nat}{env:Env}(h:yI e=kf):lb e t n env=ak false:=by cases e<;>first|rfl|cases h
theorem A5(n:X.A.units+66<gl):zf X (uT X.K):=by
 intro y s w H o i v l m u Q I f g a h;cases o with
 |ref p =>
  cases i with|int k=>let#[r,j,Z,Y,q]:=h;exact E5 y s w H _ _ v l m u Q I f g a #[p,r,k,j,rfl,rfl,Z,Y,q]|str z=>exact xT n y s w H _ _ v l m u Q I f g a h|ref b=>exact xT n y s w H _ _ v l m u Q I f g a h|_=>exact Qg h
 |_=>exact Qg h
theorem Y0(ok:OkX X S G E)(h:aQ S i x=kf):X.N[i]?=jr x/\vp X.env.scope x:=by simp only[aQ,QZ,wz,beq_iff_eq]at h;rw[ok.N,ok.sc];exact#[h.1,h.2]
theorem A0(ok:OkS X S G E){v:Expr}{u pos:Pos}(g:aQ S i x=kf)(w:(yI v||S.sc.names.lookup x==jr .cell)=kf)(pe:PE X v (wp X.K G.ev e E).e) :
  PS X (.Assign [.Name x u] v pos) (DS X.K G.ev E (.set i e)):=by
 let#[l,j]:=Y0 ok.toOkX g;refine Gj (pos':=u) ok.nd l j pe ?_ (.inl (ok.cel x));cases z:yI v with
 |true=>exact cR z|false =>
  rw[z,QA9,beq_iff_eq,<- ok.sc]at w;have hk:X.env.kindOf x=jr .cell:=w;have key:∀(b c:Bool) (y h:Nat),(ak (b&&X.env.kindOf x==jr .local&&y==h&&!c):Sem Bool)=ak false:=λb c y h=>by
   rw[hk];have:(b&&(jr NameKind.cell==jr NameKind.local)&&y==h&&!c)=false:=by cases b<;>rfl
   rw[this]
  cases v with|ListComp m a sc f=>exact key _ _ _ _|SetComp m a sc f=>exact key _ _ _ _|DictComp k v a sc f=>exact key _ _ _ _|_=>cases z
theorem Ed(h:Vg e=kf):∃a b c d f g k,e=.comp a b c d f g k:=by
 cases e with|comp a b c d f g k=>exact#[a,b,c,d,f,g,k,rfl]|_=>exact(QG h).elim
theorem Lj(ok:OkS X S G E){l:List gV}(h:sY S i e l=kf)(nd:IA G e):∃st,l=[st]/\PS X st (DS X.K G.ev E (.set i e)):=by
 let#[st,e1,q1]:=eB h;let#[ts,v,p,e2,q2]:=kR q1;let#[t,e3,q3]:=eB q2;let#[x,px,e4,q4]:=ZE q3;let#[el,gs,sc,cp,e5,q5]:=sW q4;subst e1 e2 e3 e4 e5;have L:=jA q5;have J:=jA L.2;have I:=jA J.2;have F:=jA I.2;have B:=jA F.2;let#[u,a,tg,ik,o,y,j,rfl]:=Ed B.1;refine#[_,rfl,?_];have h6:=B.2;let#[el',O,m,pos,ee,g]:=sW h6;cases ee;let#[#[t,it,Y,Z],rfl,g]:=eB g;have g0:=jA g;have M:=jA g0.2;have g1:=jA M.2;have g2:=jA g1.2;have g3:=jA g2.2;have R:=jA g3.2;have P:=jA R.2;have ea:Z=0:=qe g0.1;cases ea;have C:CompSt X.N X.env.scope sc a u:=by rw[ok.N,ok.sc];exact FU g1.1
 let#[n1,n2,n3,n4]:=nd;let#[l1,l2]:=Hd L.1;have b:X.env.scope.names.lookup x=jr .local:=by rw[ok.sc];exact l2
 refine Tb (g:=aG X.K tg) (tc:=if isNop y=kf then λ_ H Q=>Q kf H else(wp X.K G.ev y (λ_ _ _=>False)).t) (te:=(wp X.K G.ev j (λ_ _ _=>False)).e) ok.calm ok.nd (by rw[ok.N];exact l1) b (lW ok.toOkX (pos:=cp) R.1 n1 ((qD _).mp M.1) λes p q=>snd o ok.toOkX q n2) C (λs H ex=>?_) (λx=>ZW g3.1 x) ?_;have w:=ok.toOkX.comp sc a u s H ex;refine#[C6 w (λz=>(QG z).elim) C.nd g2.1,?_,(snd j w P.2 n4).pe];have f:=P.1;cases Y with|nil=>have e:isNop y=true:=f;simp only[e,if_true];exact GY|cons c r=>have A:=jA f;have W:=jA A.2;cases Qs.mp A.1;have e:isNop y=false:=(qD _).mp W.1;simp only[e,Qw,if_false];exact FY (snd y w W.2 n3).pt
 have k1:X.env.scope.kind=.function:=by rw[ok.sc];exact qe J.1
 have k2:(X.env.blockKind==.function)=true:=by simp[Env.blockKind,k1,ScopeKind.isAnnotationScope]
 have k3:(X.env.kindOf x==jr .local)=true:=by show(X.env.scope.names.lookup x==jr .local)=kf;rw[b];rfl
 show(ak (X.env.blockKind==.function&&X.env.kindOf x==jr .local&&px.line==cp.line&&!(sc.names.any λ(n,k)=>n==x&&(k==.local||k==.cell))):Sem Bool)=ak kf;rw[k2,k3,I.1,F.1];rfl
theorem iw:∀(p:PT) {l:List gV},OkS X S G E->jS p S l=kf->bF G p->IX X l (DS X.K G.ev E p)/\(uZ p=kf->∀st,l=[st]->PS X st (DS X.K G.ev E p)):=by
 intro p;have one:∀{p:PT}{st:gV},PS X st (DS X.K G.ev E p)->IX X [st] (DS X.K G.ev E p)/\(uZ p=kf->∀g,[st]=[g]->PS X g (DS X.K G.ev E p)):=λh=>#[BY h,λ_ g e=>by cases e;exact h]
 have f:∀{i:Nat}{e:PX}{l:List gV},OkS X S G E->(setB S i (TB e S) l||sY S i e l)=kf->IA G e->∃st,l=[st]/\PS X st (DS X.K G.ev E (.set i e)):=λ{i e l} ok h nd=>by
  rcases(wz _ _).mp h with h|h
  rotate_left
  exact Lj ok h nd;let#[st,N,W]:=eB h;let#[H,v,p,M,Z]:=kR W;let#[t,L,q3]:=eB Z;let#[x,px,J,Y]:=ZE q3;subst N M L J;have z:=jA Y;have u:=jA z.2;exact#[_,rfl,A0 ok z.1 u.1 (snd e ok.toOkX u.2 nd).pe]
 induction p with
 |nil=>intro l ok h nd;cases Qs.mp h;exact#[Sb,λh=>(QG h).elim]|seq s r B C=>intro l ok h nd;let#[st,l,rfl,h]:=vL h;have z:=jA h;have u:=jA z.2;exact#[Y6 ((B ok u.1 nd.1).2 z.1 st rfl) (C ok u.2 nd.2).1,λh=>(QG h).elim]|set i e=>intro l ok h nd;let#[st,rfl,q]:=f ok h nd;exact one q|own i e=>intro l ok h nd;let#[st,rfl,q]:=f ok h nd;exact one q|expr e=>intro l ok h nd;let#[st,rfl,h]:=eB h;let#[v,p,rfl,h]:=v7 h;have z:=jA h;exact one (DY (snd e ok.toOkX z.2 nd).pe (cR z.1))|ret e =>
  intro l ok h nd;let#[st,rfl,h]:=eB h;let#[v,p,rfl,h]:=Cc h;cases v with|none=>exact(QG h).elim|some v=>exact one (K6 (snd e ok.toOkX h nd).pe)
 |ife c a b I F=>intro l ok h nd;let#[st,rfl,h]:=eB h;let#[t,x,y,p,rfl,h]:=Dc h;have z:=jA h;have u:=jA z.2;exact one (Sq (snd c ok.toOkX z.1 nd.1).pt (I ok u.1 nd.2.1).1 (F ok u.2 nd.2.2).1)|for_ tg ik A n j=>intro l ok h nd;let#[st,rfl,h]:=eB h;let#[t,it,x,y,p,rfl,h]:=Fc h;have R:=jA h;have z:=jA R.2;have u:=jA z.2;have m:=jA u.2;cases Qs.mp R.1;exact one (Hj ok.po ok.calm (kc ok.toOkX m.1 nd.1 λes p q=>snd A ok.toOkX q nd.2.1) (C6 ok.toOkX (λ_=>ok.cel) ok.nd z.1) (j ok m.2 nd.2.2).1 λx=>ZW u.1 x)|six o i e =>
  intro l ok h nd;let#[st,N,W]:=eB h;let#[H,v,p,M,Z]:=kR W;let#[t,L,h]:=eB Z;subst N M L;let#[ov,P,O,J,Y]:=yR h;subst J;have z:=jA Y;have u:=jA z.2;have m:=jA u.2;have Q:=jA m.2;refine one (Mj (snd e ok.toOkX m.1 nd.2.2).pe (Aj (pos:=O) (snd o ok.toOkX Q.1 nd.1).pe (snd i ok.toOkX Q.2 nd.2.1).pe (A5 ok.un) ?_) ?_ ?_ ?_);intro w;cases P<;>first|rfl|exact(QG z.1).elim
  show lb v (jr (.Subscript ov P O)) p.line X.env=ak kd;exact cR u.1;cases v<;>rfl;rfl
 |sdf i k=>intro l ok h nd;let#[st,rfl,h]:=eB h;let#[v,p,rfl,h]:=v7 h;have z:=jA h;exact one (DY (snd (iq i k) ok.toOkX z.2 nd).pe (cR z.1))|whl c n j=>intro l ok h nd;let#[st,rfl,h]:=eB h;let#[t,x,y,p,rfl,h]:=Zk h;have z:=jA h;have u:=jA z.2;cases Qs.mp z.1;exact one (Z6 ok.po (snd c ok.toOkX u.1 nd.1).pt (j ok u.2 nd.2).1)|frz is s j=>intro l ok h nd;exact j ok h nd
end
end
noncomputable abbrev D:=x2
set_option genInjectivity true in
inductive T where
 |d (x:D)|lst (ts:List T)|tup (ts:List T)|dct (b:Bool) (ks:List D) (ts:List T)
abbrev LT:=List T
mutual
def T.er:T->D
 | .d x=>x|.lst h=>.list (ersT h)|.tup h=>.tuple (ersT h)|.dct _ y h=>.dict (y.zip (ersT h))
def ersT:LT->List D
 |[]=>[]|t::r=>t.er::ersT r
end
theorem xB(ds:List D):ersT (ds.map T.d)=ds:=by
 induction ds with|nil=>rfl|cons d r h=>simp only[QX,ersT,h,T.er]
theorem x9:∀(ts:LT),(ersT ts).9=ts.9
 |[]=>rfl|t::r=>by simp only[ersT,QN,x9 r]
theorem TR:∀(ts:LT),ersT ts=ts.map T.er
 |[]=>rfl|t::r=>by simp only[ersT,QX,TR r]
def T.isD:T->Bool
 | .d _=>kf|_=>kd
set_option genInjectivity true in
inductive Sl where
 |own (t:T)|bor (t:T)
noncomputable abbrev vA:=List (Option Sl)
abbrev bD(x:D):Option Sl:=jr (.bor (.d x))
abbrev oW(t:T):Option Sl:=jr (.own t)
def BH(t:T)(n:Bool):Bool:=n||t.isD
def fA(t:T):Bool->T
 |true=>.d t.er|false=>t
theorem rA(x:D)(n:Bool):fA (.d x) n=.d x:=by cases n<;>rfl
theorem nZ(t:T)(n:Bool):(fA t n).er=t.er:=by cases n<;>rfl
noncomputable def SD:LT->Option (List D)
 |[]=>jr []|.d x::r=>(SD r).map (x::·)|_::_=>kv
theorem gA(ds:List D):SD (ds.map T.d)=jr ds:=by
 induction ds with|nil=>rfl|cons d r h=>simp only[QX,SD,h,qE]
theorem fM:∀{ts:LT}{ds:List D},SD ts=jr ds->ts=ds.map T.d
 |[],ds,h=>by simp only[SD,Qv]at h;subst h;rfl|.d x::r,ds,h=>by
  simp only[SD]at h;cases e:SD r with|none=>rw[e]at h;cases h|some y=>rw[e]at h;cases h;rw[QX,fM e]
 | .lst _::_,_,h=>by simp[SD]at h|.tup _::_,_,h=>by simp[SD]at h|.dct _ _ _::_,_,h=>by simp[SD]at h
noncomputable def UD:List (D×D)->Option Bool
 | (.tuple _,_)::_=>jr kf|(.str _,_)::_=>jr kd|_=>kv
def TD:Bool->D->Prop
 |true,k=>∃q,k=tD (.t q)/\L7 (.t q)<=6|false,k=>∃z,k=.str z
open Classical in
noncomputable def dA:List D->D->Option Nat
 |[],_=>kv|x::r,k=>if x=k then jr 0 else(dA r k).map (·+1)
def yK(b:Bool)(ks:List D)(ts:LT)(k:D)(t:T):T:=match dA ks k with
 |some n=>.dct b ks (ts.set n t)|none=>.dct b (ks++[k]) (ts++[t])
theorem OC:∀{ks:List D}{k:D}{n:Nat},dA ks k=jr n->ks[n]?=jr k
 |[],_,_,h=>by cases h|x::r,k,n,h=>by
  unfold dA at h;by_cases e:x=k;rw[Qc e]at h;cases h;rw[e];rfl;rw[QB e]at h;cases q:dA r k with|none=>rw[q]at h;cases h|some m=>rw[q]at h;cases h;simpa using OC q
theorem vB:∀{ks:List D}{k:D},dA ks k=kv↔k∉ks
 |[],_=>by simp[dA]|x::r,k=>by unfold dA;by_cases e:x=k;simp[e];rw[QB e,Option.map_eq_none_iff,vB];simp[qC e]
theorem hX{ks:List D}{k:D}:(dA ks k).isSome=kf↔k∈ks:=by
 cases h:dA ks k with|none=>simp[vB.mp h]|some n=>simp[qZ (OC h)]
set_option genInjectivity true in
inductive Vw where
 |sc (x:D)|ls (ts:LT)|tp (ts:LT)|dc (b:Bool) (ks:List D) (ts:LT)
def bC(kvs:List (D×D)):Vw:=match UD kvs with
 |some b=>.dc b (kvs.map (·.1)) (kvs.map λp=>T.d p.2)|none=>.sc (.dict kvs)
def T.vw:T->Vw
 | .lst h=>.ls h|.tup h=>.tp h|.dct b u h=>.dc b u h|.d x=>match x with
  | .list z=>.ls (z.map T.d)|.tuple z=>.tp (z.map T.d)|.dict y=>bC y|.none=>.sc .none|.bool b=>.sc (.bool b)|.int i=>.sc (.int i)|.str s=>.sc (.str s)
def ZD(ts:LT):T:=match SD ts with
 |some h=>.d (.tuple h)|none=>.tup ts
noncomputable abbrev XD:=kn×List (Str×D)
noncomputable abbrev XE:=XD->Prop
noncomputable abbrev TK:=T->Bool->vA->Prop
inductive Md where
 |fro|shal|bor|chg
 deriving DecidableEq
structure PSp where
 md:List Md:=[]
 run:LT->(T->LT->Prop)->XE->Prop
 mono:∀{ts:LT}{Q Q':T->LT->Prop}{E E':XE},(∀t os,Q t os->Q' t os)->(∀x,E x->E' x)->run ts Q E->run ts Q' E':=by intro _ _ _ _ _ h _ z;(repeat let#[y,z]:=z;refine#[y,?_]);first|exact h _ _ z|(intros;apply h;apply z<;>assumption)
structure PEv where
 sp:Str->PSp
 va:Str->Option D
def binT(w:g6)(x y:Vw)(Q:T->Bool->Prop):Prop:=match w with
 | .Add=>(∃i j,x=.sc (.int i)/\y=.sc (.int j)/\Q (.d (.int (i+j))) kd)∨(∃a b,x=.sc (.str a)/\y=.sc (.str b)/\a.9+b.9<=kb/\Q (.d (.str (a++b))) kd) ∨
  (∃v u z h,x=.ls v/\y=.ls u/\SD v=jr z/\SD u=jr h/\z.9+h.9<=kb/\Q (.lst ((z++h).map T.d)) kf) ∨
  (∃v u z h,x=.tp v/\y=.tp u/\SD v=jr z/\SD u=jr h/\z≠[]/\h≠[]/\z.9+h.9<=kb/\Q (.d (.tuple (z++h))) kd)
 | .Sub=>∃i j,x=.sc (.int i)/\y=.sc (.int j)/\Q (.d (.int (i - j))) kd|.Mult=>∃i j,x=.sc (.int i)/\y=.sc (.int j)/\l4 i j/\Q (.d (.int (i * j))) kd|.FloorDiv=>∃i j,x=.sc (.int i)/\y=.sc (.int j)/\(0<j/\j<2 ^ 200)/\Q (.d (.int (i / j))) kd|.Mod=>∃i j,x=.sc (.int i)/\y=.sc (.int j)/\0<j/\Q (.d (.int (i % j))) kd|_=>False
section
variable{Q:T->Bool->Prop}
theorem En(i j:Int):binT .Add (.sc (.int i)) (.sc (.int j)) Q=Q (.d (.int (i+j))) false:=by simp[binT]
theorem An(a b:Str):binT .Add (.sc (.str a)) (.sc (.str b)) Q=(a.9+b.9<=kb/\Q (.d (.str (a++b))) kd):=by simp[binT]
theorem Sn(xs h:LT):binT .Add (.ls xs) (.ls h) Q=∃ds es,SD xs=jr ds/\SD h=jr es/\ds.9+es.9<=kb/\Q (.lst ((ds++es).map T.d)) true:=by simp[binT]
theorem Rn(xs h:LT):binT .Add (.tp xs) (.tp h) Q=∃ds es,SD xs=jr ds/\SD h=jr es/\ds≠[]/\es≠[]/\ds.9+es.9<=kb/\Q (.d (.tuple (ds++es))) false:=by simp[binT]
theorem Pn(i j:Int):binT .Sub (.sc (.int i)) (.sc (.int j)) Q=Q (.d (.int (i - j))) false:=by simp[binT]
theorem On(i j:Int):binT .Mult (.sc (.int i)) (.sc (.int j)) Q=(l4 i j/\Q (.d (.int (i * j))) kd):=by simp[binT]
theorem Nn(i j:Int):binT .FloorDiv (.sc (.int i)) (.sc (.int j)) Q=((0<j/\j<2 ^ 200)/\Q (.d (.int (i / j))) kd):=by simp[binT]
theorem Mn(i j:Int):binT .Mod (.sc (.int i)) (.sc (.int j)) Q=(0<j/\Q (.d (.int (i % j))) kd):=by simp[binT]
end
section
variable{Q:T->Prop}
def Yv:D->D->(Bool->Prop)->Prop
 | .int i,.int j,Q=>Q (decide (i=j))|.str x,.str y,Q=>Q (decide (x=y))|.bool x,.bool y,Q=>Q (decide (x=y))|a,b,Q=>BE a/\BE b/\Q (Qo a b)
noncomputable def VB:D->Bool
 | .none | .bool _ | .int _ | .str _=>kf
 |_=>kd
def gv:D->D->(Bool->Prop)->Prop
 | .str x,.str y,Q=>Q (inStr y x)|a,.list ds,Q|a,.tuple ds,Q=>((VB a=kf/\ds.all VB=kf)∨(BE a/\BE (.list ds)))/\Q (ds.any λy=>Qo y a)
 |a,.dict kvs,Q=>∃b,UD kvs=jr b/\TD b a/\Q (dA (kvs.map (·.1)) a).isSome|_,_,_=>False
def V1(f:Int->Int->Bool):D->D->(Bool->Prop)->Prop
 | .int i,.int j,Q=>Q (f i j)|_,_,_=>False
def D8:D->Bool
 | .none=>kf|_=>kd
def U3:D->D->(Bool->Prop)->Prop
 |a,.none,Q=>Q (D8 a)|.bool a,.bool b,Q=>Q (decide (a=b))|_,_,_=>False
def tX:fv->D->D->(Bool->Prop)->Prop
 | .Eq,a,b,Q=>Yv a b Q|.NotEq,a,b,Q=>Yv a b λk=>Q (!k)|.Lt,a,b,Q=>V1 (λi j=>decide (i<j)) a b Q|.LtE,a,b,Q=>V1 (λi j=>decide (i<=j)) a b Q|.Gt,a,b,Q=>V1 (λi j=>decide (j<i)) a b Q|.GtE,a,b,Q=>V1 (λi j=>decide (j<=i)) a b Q|.In,a,b,Q=>gv a b Q|.NotIn,a,b,Q=>gv a b λk=>Q (!k)|.Is,a,b,Q=>U3 a b Q|.IsNot,a,b,Q=>U3 a b λk=>Q (!k)
noncomputable def R3:T->Bool->T
 | .dct b ks ts,_=>.dct b ks ts|t,n=>fA t n
def Ue(h:fv)(x:D)(y:T)(Q:Bool->Prop):Prop:=match y with
 | .dct b u _=>TD b x/\((h=.In/\Q (dA u x).isSome)∨(h=.NotIn/\Q (!(dA u x).isSome)))|.d y=>tX h x y Q|.lst z=>tX h x (.list (ersT z)) Q|.tup z=>tX h x (.tuple (ersT z)) Q
def JI:D->(Bool->Prop)->Prop
 | .bool b,Q=>Q b|.int i,Q=>Q (i != 0)|.none,Q=>Q kd|.str z,Q=>z.9<=kb/\Q ((z.9:Int) != 0)|.list ds,Q=>Q (!ds.isEmpty)|.tuple ds,Q=>Q (!ds.isEmpty)|_,_=>False
def xo:D->(Bool->Prop)->Prop
 | .bool b,Q=>Q b|_,_=>False
def XU(x:Vw)(k:D)(Q:T->Prop):Prop:=∃b y h n t,x=.dc b y h/\TD b k/\dA y k=jr n/\h[n]?=jr t/\Q t
def BO(x y:Vw)(Q:T->Prop):Prop:=(∃z i c,x=.sc (.str z)/\y=.sc (.int i)/\z.9<=kb/\AC z.cps.toList i=jr c/\Q (.d (.str #[(qK [c])]))) ∨
 (∃h i t,x=.ls h/\y=.sc (.int i)/\AC h i=jr t/\Q t)∨(∃h i t,x=.tp h/\y=.sc (.int i)/\AC h i=jr t/\Q t)
theorem Fm(z:Str)(i:Int):BO (.sc (.str z)) (.sc (.int i)) Q=(z.9<=kb/\∃c,AC z.cps.toList i=jr c/\Q (.d (.str #[(qK [c])]))):=by simp[BO]
theorem M8(ts:LT)(i:Int):BO (.ls ts) (.sc (.int i)) Q=∃t,AC ts i=jr t/\Q t:=by simp[BO]
theorem Dm(ts:LT)(i:Int):BO (.tp ts) (.sc (.int i)) Q=∃t,AC ts i=jr t/\Q t:=by simp[BO]
noncomputable def cD{α:Type}(xs:List α)(h x:Option Int):List α:=(xs.drop (HT.sIx xs.9 0 h)).take (HT.sIx xs.9 xs.9 x - HT.sIx xs.9 0 h)
def kG(x:Vw)(u v:Option Int)(Q:T->Bool->Prop):Prop:=(∃z,x=.sc (.str z)/\z.9<=kb/\Q (.d (.str (WI z u v))) kd)∨(∃y h,x=.ls y/\SD y=jr h/\Q (.lst ((cD h u v).map T.d)) kf) ∨
 (∃y h,x=.tp y/\SD y=jr h/\¬ (HT.sIx h.9 0 u=0/\HT.sIx h.9 h.9 v=h.9)/\Q (.d (.tuple (cD h u v))) kd)
end
section
variable{Q:T->Bool->Prop}{h x:Option Int}
theorem rj(z:Str):kG (.sc (.str z)) h x Q=(z.9<=kb/\Q (.d (.str (WI z h x))) kd):=by simp[kG]
theorem S5(ts:LT):kG (.ls ts) h x Q=∃ds,SD ts=jr ds/\Q (.lst ((cD ds h x).map T.d)) true:=by simp[kG]
end
def cG:D->(Option Int->Prop)->Prop
 | .int i,Q=>Q (jr i)|_,_=>False
noncomputable def isD(n:String):D->Option Bool
 | .none=>jr kd|.bool _=>jr (n == "bool" || n == "int")
 | .int _=>jr (n == "int")|.str _=>jr (n == "str")|.list _=>jr (n == "list")|.tuple _=>jr (n == "tuple")|.dict _=>kv
noncomputable def DP(n:String):Bool:=n == "bool" || n == "int" || n == "str" || n == "list" || n == "tuple" || n == "ValueError"
def ED(l:LS):D:=.list (l.map j0)
noncomputable def Vw.seq:Vw->Option (LT)
 | .ls h=>jr h|.tp h=>jr h|_=>kv
def BZ(f:Bi)(vs:List Vw)(Q:T->Bool->Prop):Prop:=match f with
 | .all=>∃h,∃bs:List Bool,vs=[.ls h]/\SD h=jr (bs.map PyData.bool)/\Q (.d (.bool (bs.all id))) kd|.len=>(∃z,vs=[.sc (.str z)]/\z.9<=kb/\Q (.d (.int z.9)) kd)∨(∃h,vs=[.ls h]/\Q (.d (.int h.9)) kd)∨(∃h,vs=[.tp h]/\Q (.d (.int h.9)) kd)|.any=>∃h,∃bs:List Bool,vs=[.ls h]/\SD h=jr (bs.map PyData.bool)/\Q (.d (.bool (bs.any id))) kd|.list=>∃x h w,vs=[x]/\x.seq=jr h/\SD h=jr w/\Q (.lst (w.map T.d)) kf|.sorted=>(∃h,∃k:LS,vs=[.ls h]/\SD h=jr (k.map j0)/\k.9<64/\∀y:LS,y.Perm k->i0 y=kf->Q (.lst ((y.map j0).map T.d)) kf) ∨
  (∃h,∃ls:List (LS),vs=[.ls h]/\SD h=jr (ls.map ED)/\ls.9<64/\∀v:List (LS),v.Perm ls->Q (.lst ((v.map ED).map T.d)) kf) ∨
  (∃h,∃a:LJ,vs=[.ls h]/\SD h=jr (a.map j1)/\a.9<64/\∀u:LJ,u.Perm a->u.Pairwise (·<=·)->Q (.lst ((u.map j1).map T.d)) kf)
 | .min=>∃i j,vs=[.sc (.int i),.sc (.int j)]/\Q (.d (.int (if j<i then j else i))) kd|.tuple=>∃h w,vs=[.ls h]/\SD h=jr w/\Q (.d (.tuple w)) kd
section
variable{Q:T->Bool->Prop}
theorem xh(ts:LT):BZ .len [.ls ts] Q=Q (.d (.int ts.9)) false:=by simp[BZ]
theorem yu(ts:LT):BZ .any [.ls ts] Q=∃bs:List Bool,SD ts=jr (bs.map PyData.bool)/\Q (.d (.bool (bs.any id))) false:=by simp[BZ]
theorem yo(i j:Int):BZ .min [.sc (.int i),.sc (.int j)] Q=Q (.d (.int (if j<i then j else i))) false:=qs #[λ#[_,_,e,h]=>by cases e;exact h,λh=>#[_,_,rfl,h]]
theorem vh(ts:LT):BZ .tuple [.ls ts] Q=∃ds,SD ts=jr ds/\Q (.d (.tuple ds)) false:=by simp[BZ]
theorem ju{x:Vw}{ds:List D}(h:x.seq=jr (ds.map T.d))(q:Q (.lst (ds.map T.d)) kf):BZ .list [x] Q:=#[x,_,ds,rfl,h,gA ds,q]
end
section
variable{N:T->T->Prop}
def Pr(m:Mt)(x:Vw)(vs:List Vw)(Q:T->Bool->Prop):Prop:=match m with
 | .lix=>∃v,∃u:LJ,∃i,x=.ls v/\SD v=jr (u.map j1)/\QAY (.list (u.map .int))=kf/\vs=[.sc (.int i)]/\i∈u/\Q (.d (.int ((u.idxOf i:Nat):Int))) kd|.index=>∃z y i h,x=.sc (.str z)/\vs=[.sc (.str y)]/\qH z y 0 z.9 1=i::h/\Q (.d (.int ((i:Nat):Int))) kd|_=>False
def zb(x:Vw)(Q:T->Bool->Prop):Prop:=∃h y,x=.ls h/\SD h=jr y/\Q (.d (.tuple y.reverse)) kd
def Gb(x:Vw)(Q:T->Bool->Prop):Prop:=∃h y,x=.ls h/\SD h=jr y/\Q (.lst (y.reverse.map T.d)) kf
def Vw.isS:Vw->Bool
 | .sc (.str _)=>kf|_=>kd
noncomputable def isMut:Mt->Bool
 | .append=>kf|.pop=>kf|.setd=>kf|.extend=>kf|.index=>kd|.lix=>kd
def Vw.isL:Vw->Bool
 | .ls _=>kf|_=>kd
def O2(m:Mt)(x:Vw):Bool:=match m with
 | .lix=>x.isL|_=>x.isS&&!isMut m
def JL(m:Mt)(s:T)(us:LT)(N:T->T->Prop):Prop:=match m with
 | .append=>∃h t,s=.lst h/\us=[t]/\h.9<kb/\N (.d .none) (.lst (h++[t]))|.pop=>∃h i k t,s=.lst h/\us=[.d (.int i)]/\XS h.9 i=jr k/\h[k]?=jr t/\N t (.lst (h.eraseIdx k))|.extend=>∃h x,s=.lst h/\us=[.lst x]/\h.9+x.9<=kb/\N (.d .none) (.lst (h++x))|_=>False
theorem A7(ts:LT)(t:T):JL .append (.lst ts) [t] N=(ts.9<kb/\N (.d .none) (.lst (ts++[t]))):=by simp[JL]
theorem S7(ts vs:LT):JL .extend (.lst ts) [.lst vs] N=(ts.9+vs.9<=kb/\N (.d .none) (.lst (ts++vs))):=by simp[JL]
theorem T7(ts:LT)(i:Int):JL .pop (.lst ts) [.d (.int i)] N=∃k t,XS ts.9 i=jr k/\ts[k]?=jr t/\N t (.lst (ts.eraseIdx k)):=by simp[JL]
noncomputable def jX:Mt->Bool
 | .append=>kf|.pop=>kf|.setd=>kd|.extend=>kf|.index=>kd|.lix=>kd
def cJ(m:Mt):T->Bool
 | .lst _=>jX m|_=>kd
def NB(w:ItK)(vs:List Vw)(R:LT->Prop):Prop:=match w with
 | .val=>(∃h,vs=[.ls h]/\R h)∨(∃h,vs=[.tp h]/\R h)∨(∃z h,vs=[.dc kf z h]/\R (z.map T.d))|.rng1=>∃j,vs=[.sc (.int j)]/\(-(2 ^ 62)<=j/\j<2 ^ 62)/\R ((Qq j.toNat).map λ(i:Nat)=>.d (.int (i:Int)))|.rev=>∃h,vs=[.ls h]/\R h.reverse|.zip2=>∃h u y v,vs=[.ls h,.ls u]/\SD h=jr y/\SD u=jr v/\R ((y.zip v).map λp=>.d (.tuple [p.1,p.2]))|.enum=>∃x h y,vs=[x]/\x.seq=jr h/\SD h=jr y/\R (y.zipIdx.map λp=>.d (.tuple [.int (p.2:Int),p.1]))|.itm=>(∃z h y,vs=[.dc kf z h]/\SD h=jr y/\R ((z.zip y).map λp=>.d (.tuple [p.1,p.2])))∨(vs=[.sc (.dict [])]/\R [])
end
section
variable{R:LT->Prop}
theorem lJ(ts:LT):NB .val [.ls ts] R=R ts:=by simp[NB]
theorem U8(ts:LT):NB .val [.tp ts] R=R ts:=by simp[NB]
theorem X8(j:Int):NB .rng1 [.sc (.int j)] R=((-(2 ^ 62)<=j/\j<2 ^ 62)/\R ((Qq j.toNat).map λ(i:Nat)=>.d (.int (i:Int)))):=by simp[NB]
theorem nU(x:Vw):NB .enum [x] R=∃ts ds,x.seq=jr ts/\SD ts=jr ds/\R (ds.zipIdx.map λp=>.d (.tuple [.int (p.2:Int),p.1])):=by apply qs;constructor;rintro⟨_,ts,ds,⟨⟩,h⟩;exact#[ts,ds,h];rintro⟨ts,ds,h⟩;exact#[_,ts,ds,rfl,h]
theorem mU(ks:List D)(ts:LT):NB .itm [.dc kf ks ts] R=∃ds,SD ts=jr ds/\R ((ks.zip ds).map λp=>.d (.tuple [p.1,p.2])):=by apply qs;constructor;rintro(⟨_,_,ds,⟨⟩,h⟩| ⟨⟨⟩,_⟩);exact#[ds,h];rintro⟨ds,h⟩;exact .inl #[_,_,ds,rfl,h]
theorem lU(ks:List D)(ts:LT):NB .val [.dc kf ks ts] R=R (ks.map T.d):=by simp[NB]
theorem V8:NB .itm [.sc (.dict [])] R=R []:=by apply qs;constructor;rintro(⟨_,_,x,⟨⟩,h⟩| ⟨_,h⟩);exact h;exact λh=>.inr #[rfl,h]
end
noncomputable def zD:LN->LT->vA->Option vA
 |[],[],ρ=>jr ρ|i::is,t::ts,ρ=>zD is ts (ρ.set i (jr (.bor t)))|_,_,_=>kv
def OP:Tg->T->vA->(vA->Prop)->Prop
 | .nm i,t,ρ,Q=>Q (ρ.set i (jr (.bor t)))|.tp is,t,ρ,Q=>match t.vw with
  | .tp x=>∃h,zD is x ρ=jr h/\Q h|_=>False
def Tg.ix:Tg->LN
 | .nm i=>[i]|.tp h=>h
def x6:PX->Option Nat
 | .var i=>jr i|_=>kv
noncomputable def gG:Option Sl->Option Sl
 |some (.own t)=>jr (.bor t)|s=>s
def lockA(ρ:vA):vA:=ρ.map gG
def lock:LN->vA->vA
 |[],ρ=>ρ|i::is,ρ=>lock is (ρ.modify i gG)
def cX:Option Sl->Option Sl
 |some (.own t)=>bD t.er|s=>s
noncomputable def frzAt:LN->vA->vA
 |[],ρ=>ρ|i::is,ρ=>frzAt is (ρ.modify i cX)
noncomputable def mG:Option Sl->Option Sl
 |some (.bor t)=>if t.isD=kf then jr (.bor t) else kv|s=>s
def kill:LN->vA->vA
 |[],ρ=>ρ|i::is,ρ=>kill is (ρ.modify i mG)
noncomputable def clear:LN->vA->vA
 |[],ρ=>ρ|i::is,ρ=>clear is (ρ.set i kv)
noncomputable def MA:LN->vA->Option (LT)
 |[],_=>jr []|i::is,ρ=>match ρ[i]? with
  |some (jr (.own t))=>(MA is ρ).map (t::·)|_=>kv
noncomputable def vC:LN->LT->vA->Option vA
 |[],[],ρ=>jr ρ|i::is,t::ts,ρ=>vC is ts (ρ.set i (jr (.own t)))|_,_,_=>kv
noncomputable def dC:List Bool->vA->vA
 |b::m,v::ρ=>(if b then kv else v)::dC m ρ|_,ρ=>ρ
def DO(k:Nat)(h:List Bool)(ρ:vA):vA:=QAr k kv++dC h ρ
def sq{α:Type}(x:T)(ρ:vA)(b:vA->(α->vA->Prop)->Prop)(K:α->vA->Prop):Prop :=
 if x.isD=kf then b ρ K else b (lockA ρ) λy _=>K y ρ
def cu(f:vA->TK->Prop):vA->(T×Bool->vA->Prop)->Prop:=λy K=>f y λx n h=>K (x,n) h
def SF:List (T×Bool)->LT
 |[]=>[]|p::r=>p.1::SF r
def CO:List (T×Bool)->LT
 |[]=>[]|p::r=>fA p.1 p.2::CO r
noncomputable def ZB:List (T×Bool)->List Vw
 |[]=>[]|p::r=>(fA p.1 p.2).vw::ZB r
noncomputable def NE:List (T×Bool)->Bool
 |[]=>kf|p::r=>BH p.1 p.2&&NE r
noncomputable def rS:List (T×Bool)->Bool
 |[]=>kf|p::r=>BH p.1 p.2&&rS r
def FF(t:T):Option T:=match t.vw with
 | .ls h=>(SD h).map λx=>.lst (x.map T.d)|_=>if t.isD=kf then jr t else kv
def XA:List Md->List (T×Bool)->LT->Option (LT)
 |_,[],[]=>jr []|_,[],_::_=>kv|md,(x,n)::xs,os=>match md.headD .fro with
  | .fro=>match fA x n with
   | .d d=>(XA md.tail xs os).map (.d d::·)|_=>kv
  | .shal=>match FF (fA x n) with
   |some t=>(XA md.tail xs os).map (t::·)|none=>kv
  | .bor=>(XA md.tail xs os).map (fA x n::·)|.chg=>match os with
   |o::os=>(XA md.tail xs os).map (o::·)|[]=>kv
noncomputable def MB:List Md->LT->LT
 |_,[]=>[]|md,t::ts=>match md.headD .fro with
  | .chg=>t::MB md.tail ts|_=>MB md.tail ts
noncomputable def bA:List Md->PX->LN
 | .chg::md,.acons (.var j) as=>j::bA md as|_::md,.acons _ as=>bA md as|_,_=>[]
def Md.isMut:Md->Bool
 | .chg=>kf|_=>kd
structure D3 where
 e:vA->TK->Prop
 t:vA->(Bool->vA->Prop)->Prop
 a:List Md->vA->(List (T×Bool)->vA->Prop)->Prop
def YD:D3:=#[λ_ _=>False,λ_ _=>False,λ_ _ _=>False]
def PC(body:T->(Option T->Prop)->Prop):LT->LT->(LT->Prop)->Prop
 |[],acc,Q=>acc.9<=kb/\Q acc|x::xs,acc,Q=>body x fun
  |some y=>acc.9<kb/\PC body xs (acc++[y]) Q|none=>PC body xs acc Q
def tG(v:Tg)(u:vA)(c:vA->(Bool->vA->Prop)->Prop)(e:vA->TK->Prop)(x:T)(R:Option T->Prop):Prop :=
 OP v x u λz=>c z λb h=>if b=kf then e h λy n _=>BH y n=kf/\R (jr y) else R kv
def Bm:PX->D->(Bool->Prop)->Prop
 | .bty _ n,d,Q=>∃b,isD n d=jr b/\DP n=kf/\Q b|_,_,_=>False
def uv:Option (Option Sl)->(T->Prop)->Prop
 |some (jr (.own t)),Q=>Q t|some (jr (.bor t)),Q=>Q t|some kv,_=>False|none,_=>False
def vD:Option (Option Sl)->(T->Prop)->Prop
 |some (jr (.own t)),Q=>Q t|some (jr (.bor _)),_=>False|some kv,_=>False|none,_=>False
def Cf:Option Nat->(Nat->Prop)->Prop
 |none,_=>False|some j,Q=>Q j
def C8:PX->Bool
 | .var _=>kf|_=>kd
def pe(Ψ:PEv):PX->XE->D3
 | .var i,_=>let e:vA->TK->Prop:=λv Q=>uv v[i]? λt=>Q t kd v
  #[e,λv Q=>e v λt _ h=>JI t.er λb=>Q b h,YD.a]
 | .int i,_=>#[λv Q=>Q (.d (.int i)) kd v,λv Q=>Q (i != 0) v,YD.a]|.str x,_=>#[λv Q=>Q (.d (.str x)) kd v,YD.t,YD.a]|.bl b,_=>#[λv Q=>Q (.d (.bool b)) kd v,λv Q=>Q b v,YD.a]|.non,_=>#[λv Q=>Q (.d .none) kd v,λv Q=>Q kd v,YD.a]|.glo x,_=>let e:vA->TK->Prop:=λv Q=>match Ψ.va x with
   |some d=>Q (.d d) kd v|none=>False
  #[e,λv Q=>e v λt _ h=>JI t.er λb=>Q b h,YD.a]
 | .bty _ _,_=>YD|.bin op a b,E=>let e:vA->TK->Prop:=λv Q=>(pe Ψ a E).e v λx n h=>sq (fA x n) h (cu (pe Ψ b E).e) λy w=>binT op (fA x n).vw (fA y.1 y.2).vw λz k=>Q z k w
  #[e,λv Q=>e v λt _ h=>JI t.er λb=>Q b h,YD.a]
 | .cmp op a b,E=>let t:vA->(Bool->vA->Prop)->Prop:=λv Q=>(pe Ψ a E).e v λx n h=>sq (fA x n) h (cu (pe Ψ b E).e) λy w=>Ue op x.er (R3 y.1 y.2) λk=>Q k w
  #[λv Q=>t v λk h=>Q (.d (.bool k)) kd h,t,YD.a]
 | .and a b,E=>#[λv Q=>(pe Ψ a E).e v λx _ h=>xo x.er λc=>if c=kf then(pe Ψ b E).e h Q else Q (.d (.bool kd)) kd h,
   λv Q=>(pe Ψ a E).t v λc h=>if c=kf then(pe Ψ b E).t h Q else Q kd h,YD.a]
 | .or a b,E=>#[λv Q=>(pe Ψ a E).e v λx _ h=>xo x.er λc=>if c=kf then Q (.d (.bool kf)) kd h else(pe Ψ b E).e h Q,
   λv Q=>(pe Ψ a E).t v λc h=>if c=kf then Q kf h else(pe Ψ b E).t h Q,YD.a]
 | .not a,E=>#[λv Q=>(pe Ψ a E).e v λx _ h=>JI x.er λc=>Q (.d (.bool (!c))) kd h,λv Q=>(pe Ψ a E).t v λc h=>Q (!c) h,YD.a]|.ife c a b,E=>#[λv Q=>(pe Ψ c E).t v λk h=>if k=kf then(pe Ψ a E).e h Q else(pe Ψ b E).e h Q,YD.t,YD.a]|.call f as,E=>let e:vA->TK->Prop:=λv Q=>∃Z,MA (bA (Ψ.sp f).md as) v=jr Z/\(bA (Ψ.sp f).md as).Nodup/\(pe Ψ as E).a (Ψ.sp f).md (clear (bA (Ψ.sp f).md as) v) λg h=>∃Y,XA (Ψ.sp f).md g Z=jr Y/\(Ψ.sp f).run Y (λr s=>∃w,vC (bA (Ψ.sp f).md as) s h=jr w/\Q r kf w) E
  #[e,λv Q=>e v λt _ h=>JI t.er λb=>Q b h,YD.a]
 | .isi a c,E=>let t:vA->(Bool->vA->Prop)->Prop:=λv Q=>(pe Ψ a E).e v λx _ h=>Bm c x.er λb=>Q b h
  #[λv Q=>t v λk h=>Q (.d (.bool k)) kd h,t,YD.a]
 | .bi f as,E=>let e:vA->TK->Prop:=λv Q=>(pe Ψ as E).a [] v λg h=>BZ f (ZB g) λz k=>Q z k h
  #[e,λv Q=>e v λt _ h=>JI t.er λb=>Q b h,YD.a]
 | .mt m o as,E=>let e:vA->TK->Prop:=λv Q=>if isMut m=kf then Cf (x6 o) λj=>vD v[j]? λt=>cJ m t=kf/\(pe Ψ as E).a [] (v.set j (jr (.bor t))) λg w=>NE g=kf/\w[j]?=jr (jr (.bor t))/\JL m t (SF g) λr K=>Q r kf (w.set j (jr (.own K))) else(pe Ψ o E).e v λx n h=>O2 m (fA x n).vw=kf/\sq (fA x n) h ((pe Ψ as E).a []) λg w=>Pr m (fA x n).vw (ZB g) λz k=>Q z k w
  #[e,λv Q=>e v λt _ h=>JI t.er λb=>Q b h,YD.a]
 | .idx a b,E=>let e:vA->TK->Prop:=λv Q=>(pe Ψ a E).e v λx n h=>sq (fA x n) h (cu (pe Ψ b E).e) λy w=>(BO (fA x n).vw (fA y.1 y.2).vw λz=>Q z kd w)∨(XU (fA x n).vw y.1.er λz=>Q z kd w)
  #[e,λv Q=>e v λt _ h=>JI t.er λb=>Q b h,YD.a]
 | .slc a lo hi,E=>#[λv Q=>(pe Ψ a E).e v λx n h =>
   sq (α:=Option Int) (fA x n) h (if isNop lo=kf then λv (R:Option Int->vA->Prop)=>R kv v else λv R=>(pe Ψ lo E).e v λl _ w=>cG l.er λo=>R o w) λl w =>
   sq (α:=Option Int) (fA x n) w (if isNop hi=kf then λv (R:Option Int->vA->Prop)=>R kv v else λv R=>(pe Ψ hi E).e v λu _ p=>cG u.er λo=>R o p) λu p=>kG (fA x n).vw l u λz k=>Q z k p,YD.t,YD.a]
 | .nop,_=>YD|.lst as,E=>#[λv Q=>(pe Ψ as E).a [] v λg h=>NE g=kf/\g.9<=kb/\Q (.lst (SF g)) kf h,YD.t,YD.a]|.tup as,E=>#[λv Q=>(pe Ψ as E).a [] v λg h=>NE g=kf/\g.9<=kb/\Q (ZD (SF g)) kf h,YD.t,YD.a]|.comp mask tgs tg ik its cond elt,E=>#[λv Q=>(pe Ψ its E).a [] v λg h=>NB ik (ZB g) λq =>
   PC (tG tg (DO tgs.9 mask (lockA h)) (if isNop cond=kf then λv R=>R kf v else(pe Ψ cond (λ_=>False)).t) (pe Ψ elt (λ_=>False)).e) q [] λW=>Q (.lst W) kf h,YD.t,YD.a]
 | .dnew b,_=>#[λv Q=>Q (.dct b [] []) kf v,YD.t,YD.a]|.dsp a b,E=>#[λv Q=>(pe Ψ a E).e v λy m h=>BH y m=kf/\(pe Ψ b E).e h λx n w=>BH x n=kf/\TD kf y.er/\Q (.dct kf [y.er] [x]) kf w,YD.t,YD.a]|.ng i,_=>#[λv Q=>Q (.d (.int (-i))) kd v,YD.t,YD.a]|.trv a,E=>#[λv Q=>(pe Ψ a E).e v λx n h=>zb (fA x n).vw λz k=>Q z k h,YD.t,YD.a]|.lrv a,E=>#[λv Q=>(pe Ψ a E).e v λx n h=>Gb (fA x n).vw λz k=>Q z k h,YD.t,YD.a]|.anil,_=>#[YD.e,YD.t,λ_ v Q=>Q [] v]|.acons a as,E=>#[YD.e,YD.t,λX v Q=>if(X.headD .fro).isMut=kf then C8 a=kf/\(pe Ψ as E).a X.tail v λg h=>Q ((.d .none,kf)::g) h
   else(pe Ψ a E).e v λx n h=>sq (α:=List (T×Bool)) (if n=kf then .d .none else x) h ((pe Ψ as E).a X.tail) λg w=>Q ((x,n)::g) w]
structure PEnds where
 nx:vA->Prop
 rt:T->vA->Prop
 bk:vA->Prop:=λ_=>False
 ct:vA->Prop:=λ_=>False
noncomputable def EF:PX->LN
 | .var i=>[i]|.idx a _=>EF a|.ife _ a b=>EF a++EF b|.and a b | .or a b=>EF a++EF b
 | .acons a h=>EF a++EF h|_=>[]
noncomputable def yN:Option (Option Sl)->Bool
 |some (jr (.own _))=>kf|some (jr (.bor _))=>kd|some kv=>kd|none=>kd
def nC(ρ:vA):LN->LN
 |[]=>[]|i::is=>if yN ρ[i]?=kf then i::nC ρ is else nC ρ is
noncomputable def CC:LN->vA->vA->vA
 |[],_,ρ=>ρ|i::L,ρ0,ρ=>CC L ρ0 (ρ.set i (ρ0[i]?.getD kv))
def DV(J L:LN)(h:vA)(N:vA->Prop)(ρ:vA):Prop:=(∀i∈L,i∉J/\ρ[i]?=h[i]?.map gG)/\N (CC L h ρ)
def uI(body:PEnds->vA->Prop)(z:Tg)(Z:PEnds):LT->vA->Prop
 |[],ρ=>Z.nx ρ|x::xs,ρ=>OP z x ρ λy=>body { Z with nx:=λh=>uI body z Z xs h,ct:=λh=>uI body z Z xs h,bk:=Z.nx } y
def Hw(ρ:vA)(i:Nat)(R:T->vA->Prop):Option (Option Sl)->Prop
 |some (jr (.own t))=>R t (ρ.set i kv)|some (jr (.bor t))=>t.isD=kf/\R t ρ|some kv=>False|none=>False
def aD(Ψ:PEv)(E:XE)(y:T->vA->Prop):PX->vA->Prop
 | .var i,ρ=>Hw ρ i y ρ[i]?|.ife c a b,ρ=>(pe Ψ c E).t ρ λk h=>if k=kf then aD Ψ E y a h else aD Ψ E y b h|e,ρ=>(pe Ψ e E).e ρ λx n h=>BH x n=kf/\y x h
def fq:T->D->D->(T->Prop)->Prop
 | .lst ts,.int i,x,Q=>∃n,XS ts.9 i=jr n/\Q (.lst (ts.set n (.d x)))|.dct b ks ts,k,x,Q=>TD b k/\ks.9<kb/\Q (yK b ks ts k (.d x))|_,_,_,_=>False
noncomputable def Jw:PX->Option (Nat×Option PX)
 | .var j=>jr (j,kv)|.idx (.var j) k=>jr (j,jr k)|_=>kv
def Jj(k:D)(t:T)(Q:T->Prop):Prop:=∃h x,t=.dct kf h x/\TD kf k/\h.9<kb/\((∃n,dA h k=jr n/\Q t)∨(dA h k=kv/\Q (.dct kf (h++[k]) (x++[.dct kf [] []]))))
def Ve:T->Bool
 | .dct kf _ _=>kf|_=>kd
def cq(z:D)(t:T)(Q:T->(T->T)->Prop):Prop:=∃b x h n s,t=.dct b x h/\TD b z/\dA x z=jr n/\h[n]?=jr s/\Q s λy=>.dct b x (h.set n y)
def pB(Ψ:PEv)(E:XE):PT->PEnds->vA->Prop
 | .nil,Z,u=>Z.nx u|.seq s r,Z,u=>pB Ψ E s { Z with nx:=λw=>pB Ψ E r Z w } u|.set i e,Z,u=>(pe Ψ e E).e u λx n h=>BH x n=kf/\Z.nx (h.set i (bD x.er))|.expr e,Z,u=>(pe Ψ e E).e u λ_ _ h=>Z.nx h|.ret e,Z,u=>aD Ψ E Z.rt e u|.ife c a b,Z,u=>(pe Ψ c E).t u λk h=>if k=kf then pB Ψ E a Z h else pB Ψ E b Z h|.for_ tg ik its body,Z,u=>(pe Ψ its E).a [] u λX h=>NB ik (ZB X) λf =>
   if rS X=kf then uI (pB Ψ E body) tg { Z with nx:=λv=>Z.nx (kill tg.ix v) } f h
   else uI (pB Ψ E body) tg { Z with nx:=λv=>DV tg.ix (nC h (EF its)) h Z.nx (kill tg.ix v) } f (lock (nC h (EF its)) h)
 | .own i e,Z,u=>(pe Ψ e E).e u λx n h=>BH x n=kf/\Z.nx (h.set i (jr (.own x)))|.six o i e,Z,u=>match Jw o with
  |none=>False|some (j,kv)=>vD u[j]? λt=>(pe Ψ e E).e (u.set j (jr (.bor t))) λx n h=>BH x n=kf/\(pe Ψ i E).e h λy m v=>BH y m=kf/\v[j]?=jr (jr (.bor t))/\fq t y.er x.er λq=>Z.nx (v.set j (jr (.own q)))|some (j,jr k)=>vD u[j]? λt=>(pe Ψ e E).e (u.set j (jr (.bor t))) λx n h=>BH x n=kf/\(pe Ψ k E).e h λz l v=>BH z l=kf/\cq z.er t λs put=>(pe Ψ i E).e v λy m g=>BH y m=kf/\g[j]?=jr (jr (.bor t))/\fq s y.er x.er λY=>Z.nx (g.set j (jr (.own (put Y))))
 | .sdf j k,Z,u=>vD u[j]? λt=>Ve t=kf/\(pe Ψ k E).e (u.set j (jr (.bor t))) λy m h=>BH y m=kf/\h[j]?=jr (jr (.bor t))/\Jj y.er t λq=>Z.nx (h.set j (jr (.own q)))|.whl c body,Z,u=>∃W:Nat->vA->Prop,(∃m,W m u)/\∀m u,W m u->(pe Ψ c E).t u λb h=>if b=kf then
   pB Ψ E body { Z with nx:=λw=>∃p,p < m/\W p w,ct:=λw=>∃p,p < m/\W p w,bk:=Z.nx } h else Z.nx h
 | .frz is s,Z,u=>pB Ψ E s Z (frzAt is u)
abbrev pF(Ψ:PEv):PT->PEnds->vA->Prop:=pB Ψ λ_=>False
theorem _root_.L2.Same.rd{H x:Hp}(e:Same H x){a:ko}{u:HO}(h:Rd H a u):Rd x a u:=by
 rcases h with h|⟨o,h⟩
 exact .inl (e _ _ h);exact .inr #[o,e _ _ h]
theorem _root_.L2.Same.tupl{K:QC}{H x:Hp}{a:ko}{xs:LV}(e:Same H x)(h:rD K H a xs):rD K x a xs:=by rcases h with h|h;exact .inl (e.rd h);exact .inr h
mutual
theorem IY{K:QC}{H x:Hp}(e:Same H x):∀{k:NK}{v:V},Vo K H k v->Vo K x k v
 | .s _,_,h=>h|.t _,_,#[a,xs,h,q,p]=>#[a,xs,h,e.tupl q,kys_mono e p]
theorem kys_mono{K:QC}{H y:Hp}(e:Same H y):∀{ks:List NK}{vs:LV},KyVs K H ks vs->KyVs K y ks vs
 |[],_,h=>h|_::_,_,#[x,r,h,p,q]=>#[x,r,h,IY e p,kys_mono e q]
end
section
variable{K:QC}{H x:Hp}{vs:LV}{ds:List D}
theorem _root_.L2.Same.key(e:Same H x){b:ko}{k:NK}(h:yP K H b k):yP K x b k:=#[IY e h.1,h.2]
theorem HK.mono(e:Same H x){b:Bool}{o:HO}{ks:List D}(h:HK K H b o ks vs):HK K x b o ks vs:=by
 cases b with|true=>let#[f,y,a,k,w,v,u]:=h;exact#[f,y,a,k,w,λp z=>e.key (v p z),u]|false=>exact h
theorem Rep.mono2(e:Same H x):(∀{v:V}{d:D},Rep K H v d->Rep K x v d)/\∀{vs:LV}{ds:List D},Reps K H vs ds->Reps K x vs ds :=
 Rep.both (P:=Rep K x) (R:=Reps K x) .non .bl .int .str (λh _ r=>.lst (e.seq h) r) (λh _ r=>.tup (e.tupl h) r) (λh q _ r=>.dct (e _ _ h) (q.mono e) r) .nil λ_ _ h r=>.cons h r
theorem Rep.mono(e:Same H x){v:V}{d:D}(h:Rep K H v d):Rep K x v d:=(Rep.mono2 e).1 h
theorem Reps.mono(e:Same H x)(h:Reps K H vs ds):Reps K x vs ds:=(Rep.mono2 e).2 h
theorem Reps.append{ws:LV}{es:List D}(h:Reps K H vs ds)(r:Reps K H ws es):Reps K H (vs++ws) (ds++es):=Reps.ind (R:=λvs ds=>Reps K H (vs++ws) (ds++es)) r (λh t=>.cons h t) h
theorem Reps.reverse(h:Reps K H vs ds):Reps K H vs.reverse ds.reverse:=Reps.ind (R:=λvs ds=>Reps K H vs.reverse ds.reverse) .nil (λr y=>by rw[wv,wv];exact y.append (.cons r .nil)) h
theorem Reps.get{K:QC}{H:Hp}:∀{vs:LV}{ds:List D}{i:Nat}{d:D},Reps K H vs ds->ds[i]?=jr d->∃v,vs[i]?=jr v/\Rep K H v d
 |_,_,i,_,.nil,h=>by simp at h|_,_,0,_,.cons h _,e=>by simp at e;subst e;exact#[_,rfl,h]|_,_,i+1,d,.cons _ t,e=>by let#[v,z,y]:=Reps.get (i:=i) t (by simpa using e);exact#[v,by simpa using z,y]
theorem Reps.drop{K:QC}{H:Hp}:∀{vs:LV}{ds:List D}(n:Nat),Reps K H vs ds->Reps K H (vs.drop n) (ds.drop n)
 |_,_,0,r=>r|_,_,_+1,.nil=>.nil|_,_,n+1,.cons _ t=>Reps.drop n t
theorem Reps.take{K:QC}{H:Hp}:∀{vs:LV}{ds:List D}(n:Nat),Reps K H vs ds->Reps K H (vs.take n) (ds.take n)
 |_,_,0,_=>.nil|_,_,_+1,.nil=>.nil|_,_,n+1,.cons h t=>.cons h (Reps.take n t)
theorem Reps.bools{K:QC}{H:Hp}:∀{vs:LV}{bs:List Bool},Reps K H vs (bs.map PyData.bool)->vs=bs.map V.bl
 |_,[],.nil=>rfl|_,b::bs,.cons h t=>by cases h;rw[QX,Reps.bools t]
theorem PB{p:ko}{o:HO}(h:H p=kv):Same H (DA H p o):=λb u q=>by rw[xA (iA q h)];exact q
end
mutual
inductive Tr(K:QC)(F H:Hp):Bool->V->T->(ko->Prop)->Prop where
 |d {st:Bool}{v:V}{x:D}{S:mB}:Rep K F v x->(∀b,¬ S b)->Tr K F H st v (.d x) S
 |lst {st:Bool}{a:ko}{vs:LV}{ts:LT}{S S':mB}:H a=jr (.lst vs)->F a=kv->Trs K F H st vs ts S'->¬ S' a->(∀b,S b↔b=a∨S' b)->Tr K F H st (.ref a) (.lst ts) S
 |tup {st:Bool}{a:ko}{vs:LV}{ts:LT}{S S':mB}:H a=jr (.tup vs)->F a=kv->Trs K F H st vs ts S'->¬ S' a->(∀b,S b↔b=a∨S' b)->Tr K F H st (.ref a) (.tup ts) S
 |lstF {a:ko}{vs:LV}{ds:List D}{S:mB}:uC K F a vs->Reps K F vs ds->(∀b,¬ S b)->Tr K F H kd (.ref a) (.lst (ds.map T.d)) S
 |dct {st b:Bool}{a:ko}{o:HO}{ks:List D}{vs:LV}{ts:LT}{S S':mB}:H a=jr o->HK K F b o ks vs->F a=kv->Trs K F H st vs ts S'->¬ S' a->(∀b,S b↔b=a∨S' b)->Tr K F H st (.ref a) (.dct b ks ts) S
inductive Trs(K:QC)(F H:Hp):Bool->LV->LT->(ko->Prop)->Prop where
 |nil {st:Bool}{S:mB}:(∀b,¬ S b)->Trs K F H st [] [] S
 |cons {st:Bool}{v:V}{t:T}{vs:LV}{ts:LT}{S S1 S2:mB}:Tr K F H st v t S1->Trs K F H st vs ts S2->(∀b,S1 b->¬ S2 b)->(∀b,S b↔S1 b∨S2 b)->Trs K F H st (v::vs) (t::ts) S
end
section
variable{K:QC}{F H w c:Hp}
section
variable{R:Bool->LV->LT->(ko->Prop)->Prop}{st b:Bool}{v:V}{t:T}{S:mB}{vs:LV}{ts:LT}{ds ks:List D}{i:Int}{kvs:List (D×D)}
theorem Tr.both{P:Bool->V->T->(ko->Prop)->Prop}
    (d:∀{st:Bool}{v:V}{x:D}{S:mB},Rep K F v x->(∀b,¬ S b)->P st v (.d x) S)
    (lst:∀{st:Bool}{a:ko}{vs:LV}{ts:LT}{S S':mB},H a=jr (.lst vs)->F a=kv->Trs K F H st vs ts S'->¬ S' a->(∀b,S b↔b=a∨S' b)->R st vs ts S'->P st (.ref a) (.lst ts) S)
    (tup:∀{st:Bool}{a:ko}{vs:LV}{ts:LT}{S S':mB},H a=jr (.tup vs)->F a=kv->Trs K F H st vs ts S'->¬ S' a->(∀b,S b↔b=a∨S' b)->R st vs ts S'->P st (.ref a) (.tup ts) S)
    (y:∀{a:ko}{vs:LV}{ds:List D}{S:mB},uC K F a vs->Reps K F vs ds->(∀b,¬ S b)->P kd (.ref a) (.lst (ds.map T.d)) S)
    (dct:∀{st b:Bool}{a:ko}{o:HO}{ks:List D}{vs:LV}{ts:LT}{S S':mB},H a=jr o->HK K F b o ks vs->F a=kv->Trs K F H st vs ts S'->¬ S' a->(∀b,S b↔b=a∨S' b)->R st vs ts S'->P st (.ref a) (.dct b ks ts) S)
    (u:∀{st:Bool}{S:mB},(∀b,¬ S b)->R st [] [] S)
    (z:∀{st:Bool}{v:V}{t:T}{vs:LV}{ts:LT}{S S1 k:mB},Tr K F H st v t S1->Trs K F H st vs ts k->(∀b,S1 b->¬ k b)->(∀b,S b↔S1 b∨k b)->P st v t S1->R st vs ts k->R st (v::vs) (t::ts) S) :
    (∀{st:Bool}{v:V}{t:T}{S:mB},Tr K F H st v t S->P st v t S)/\∀{st:Bool}{vs:LV}{ts:LT}{S:mB},Trs K F H st vs ts S->R st vs ts S :=
  #[λh=>Tr.rec (motive_1:=λst v t S _=>P st v t S) (motive_2:=λst vs ts S _=>R st vs ts S) @d @lst @tup @y @dct @u @z h,
   λh=>Trs.rec (motive_1:=λst v t S _=>P st v t S) (motive_2:=λst vs ts S _=>R st vs ts S) @d @lst @tup @y @dct @u @z h]
theorem Tr.mono2(e:Same F w):(∀{st:Bool}{v:V}{t:T}{S:mB},Tr K F H st v t S->(∀b,S b->c b=H b/\w b=kv)->Tr K w c st v t S)/\∀{st:Bool}{vs:LV}{ts:LT}{S:mB},Trs K F H st vs ts S->(∀b,S b->c b=H b/\w b=kv)->Trs K w c st vs ts S :=
 Tr.both (P:=λst v t S=>(∀b,S b->c b=H b/\w b=kv)->Tr K w c st v t S) (R:=λst v t S=>(∀b,S b->c b=H b/\w b=kv)->Trs K w c st v t S)
  (λr n _=>.d (r.mono e) n)
  (λ{_ a _ _ _ _} h _ _ n q x k=>.lst ((k a ((q a).mpr (.inl rfl))).1.trans h) (k a ((q a).mpr (.inl rfl))).2 (x λb hb=>k b ((q b).mpr (.inr hb))) n q)
  (λ{_ a _ _ _ _} h _ _ n q x k=>.tup ((k a ((q a).mpr (.inl rfl))).1.trans h) (k a ((q a).mpr (.inl rfl))).2 (x λb hb=>k b ((q b).mpr (.inr hb))) n q)
  (λh r n _=>.lstF (e.seq h) (r.mono e) n)
  (λ{_ _ a _ _ _ _ _ _} h u _ _ n q x k=>.dct ((k a ((q a).mpr (.inl rfl))).1.trans h) (u.mono e) (k a ((q a).mpr (.inl rfl))).2 (x λb hb=>k b ((q b).mpr (.inr hb))) n q)
  (λn _=>.nil n)
  (λ_ _ n q z y k=>.cons (z λb hb=>k b ((q b).mpr (.inl hb))) (y λb hb=>k b ((q b).mpr (.inr hb))) n q)
theorem Tr.mono(e:Same F w)(h:Tr K F H st v t S)(k:∀b,S b->c b=H b/\w b=kv):Tr K w c st v t S:=(Tr.mono2 e).1 h k
theorem Trs.mono(e:Same F w)(h:Trs K F H st vs ts S)(k:∀b,S b->c b=H b/\w b=kv):Trs K w c st vs ts S:=(Tr.mono2 e).2 h k
theorem Tr.weak2:(∀{st:Bool}{v:V}{t:T}{S:mB},Tr K F H st v t S->Tr K F H kd v t S)/\∀{st:Bool}{vs:LV}{ts:LT}{S:mB},Trs K F H st vs ts S->Trs K F H kd vs ts S :=
 Tr.both (P:=λ_ v t S=>Tr K F H kd v t S) (R:=λ_ v t S=>Trs K F H kd v t S) .d (λh f _ n q x=>.lst h f x n q) (λh f _ n q x=>.tup h f x n q) .lstF (λh u f _ n q x=>.dct h u f x n q) .nil λ_ _ n q z y=>.cons z y n q
theorem Tr.weak(h:Tr K F H st v t S):Tr K F H kd v t S:=Tr.weak2.1 h
theorem Trs.weak(h:Trs K F H st vs ts S):Trs K F H kd vs ts S:=Tr.weak2.2 h
theorem M9{C:mB}{a:ko}{S':mB}(q:∀b,S b↔b=a∨S' b)(h:C a)(k:∀b,S' b->C b)(b:ko)(hb:S b):C b:=((q b).mp hb).elim (λe=>e▸h) (k b)
theorem Tr.dom2:(∀{st:Bool}{v:V}{t:T}{S:mB},Tr K F H st v t S->∀b,S b->H b≠kv/\F b=kv)/\∀{st:Bool}{vs:LV}{ts:LT}{S:mB},Trs K F H st vs ts S->∀b,S b->H b≠kv/\F b=kv :=
 have y:∀{a:ko}{o:HO},H a=jr o->H a≠none:=λh z=>by rw[h]at z;cases z
 Tr.both (P:=λ_ _ _ S=>∀b,S b->H b≠kv/\F b=kv) (R:=λ_ _ _ S=>∀b,S b->H b≠kv/\F b=kv)
  (λ_ n b hb=>Qe hb (n b)) (λh f _ _ q x=>M9 q #[y h,f] x) (λh f _ _ q x=>M9 q #[y h,f] x) (λ_ _ n b hb=>Qe hb (n b)) (λh _ f _ _ q x=>M9 q #[y h,f] x)
  (λn b hb=>Qe hb (n b)) λ_ _ _ q k u b hb=>((q b).mp hb).elim (k b) (u b)
theorem Tr.dom(h:Tr K F H st v t S):∀b,S b->H b≠kv/\F b=none:=Tr.dom2.1 h
theorem Trs.dom(h:Trs K F H st vs ts S):∀b,S b->H b≠kv/\F b=none:=Tr.dom2.2 h
theorem Tr.kept2(e:Same F w):(∀{st:Bool}{v:V}{t:T}{S:mB},Tr K F H st v t S->(∀b u,S b->H b=jr u->w b=jr u)->Rep K w v t.er)/\∀{st:Bool}{vs:LV}{ts:LT}{S:mB},Trs K F H st vs ts S->(∀b u,S b->H b=jr u->w b=jr u)->Reps K w vs (ersT ts) :=
 Tr.both (P:=λ_ v t S=>(∀b u,S b->H b=jr u->w b=jr u)->Rep K w v t.er) (R:=λ_ v t S=>(∀b u,S b->H b=jr u->w b=jr u)->Reps K w v (ersT t))
  (λr _ _=>r.mono e)
  (λ{_ a _ _ _ _} h _ _ _ q x k=>by unfold T.er;exact .lst (uC.of (k a _ ((q a).mpr (.inl rfl)) h)) (x λb u hb=>k b u ((q b).mpr (.inr hb))))
  (λ{_ a _ _ _ _} h _ _ _ q x k=>by unfold T.er;exact .tup (rD.of (k a _ ((q a).mpr (.inl rfl)) h)) (x λb u hb=>k b u ((q b).mpr (.inr hb))))
  (λh r _ _=>by unfold T.er;rw[xB];exact .lst (e.seq h) (r.mono e))
  (λ{_ _ a _ _ _ _ _ _} h f _ _ _ q x k=>by unfold T.er;exact .dct (k a _ ((q a).mpr (.inl rfl)) h) (f.mono e) (x λb u hb=>k b u ((q b).mpr (.inr hb))))
  (λ_ _=>.nil)
  (λ_ _ _ q z y k=>.cons (z λb u hb=>k b u ((q b).mpr (.inl hb))) (y λb u hb=>k b u ((q b).mpr (.inr hb))))
theorem Tr.kept(e:Same F w)(h:Tr K F H st v t S)(k:∀b u,S b->H b=jr u->w b=jr u):Rep K w v t.er:=(Tr.kept2 e).1 h k
theorem Tr.rep(f:Same F H)(h:Tr K F H st v t S):Rep K H v t.er:=h.kept f λ_ _ _ e=>e
theorem Trs.ind(z:∀{st:Bool}{S:mB},(∀b,¬ S b)->R st [] [] S)
  (x:∀{st:Bool}{v:V}{t:T}{vs:LV}{ts:LT}{S S1 y:mB},Tr K F H st v t S1->Trs K F H st vs ts y->(∀b,S1 b->¬ y b)->(∀b,S b↔S1 b∨y b)->R st vs ts y->R st (v::vs) (t::ts) S) (h:Trs K F H st vs ts S):R st vs ts S :=
 (Tr.both (P:=λ_ _ _ _=>True) (λ_ _=>trivial) (λ_ _ _ _ _ _=>trivial) (λ_ _ _ _ _ _=>trivial) (λ_ _ _=>trivial) (λ_ _ _ _ _ _ _=>trivial) z λh t n q _ r=>x h t n q r).2 h
theorem Trs.length(h:Trs K F H st vs ts S):vs.9=ts.length:=Trs.ind (R:=λ_ vs ts _=>vs.9=ts.9) (λ_=>rfl) (λ_ _ _ _ e=>wy Nat.succ e) h
theorem Trs.of_reps(h:Reps K F vs ds):Trs K F H st vs (ds.map T.d) (λ_=>False) :=
 Reps.ind (R:=λvs ds=>Trs K F H st vs (ds.map T.d) λ_=>False) (.nil λ_ z=>z) (λh t=>.cons (.d h λ_ z=>z) t (λ_ z=>z.elim) λb=>by simp) h
theorem Trs.un(h:Trs K F H st vs ts S)(e:SD ts=jr ds):Reps K F vs ds/\∀b,¬ S b:=by
 have u:=fM e;clear e;revert ds;refine Trs.ind (R:=λ_ vs ts S=>∀{ds:List D},ts=ds.map T.d->Reps K F vs ds/\∀b,¬ S b) (λn ds e=>?_) (λh _ _ q x ds e=>?_) h;cases ds with|nil=>exact#[.nil,n]|cons d r=>cases e
 cases ds with
 |nil=>cases e|cons d r =>
  injection e with e1 e2;let#[z,y]:=x e2;subst e1;cases h with|d rep m=>exact#[.cons rep z,λb hb=>((q b).mp hb).elim (m b) (y b)]
theorem Trs.get{i:Nat}(h:Trs K F H st vs ts S)(e:ts[i]?=jr t):∃v S1,vs[i]?=jr v/\Tr K F H st v t S1/\∀b,S1 b->S b:=by
 revert i;refine Trs.ind (R:=λst vs ts S=>∀{i:Nat},ts[i]?=jr t->∃v S1,vs[i]?=jr v/\Tr K F H st v t S1/\∀b,S1 b->S b) (λn i e=>by cases e) (λh _ n q x i e=>?_) h;cases i with|zero=>cases e;exact#[_,_,rfl,h,λb hb=>(q b).mpr (.inl hb)]|succ i=>let#[v,S1,u,z,y]:=x (i:=i) e;exact#[v,S1,u,z,λb hb=>(q b).mpr (.inr (y b hb))]
theorem Trs.at(r:Trs K F H st vs ts S)(h:AC ts i=jr t):∃v S1,AC vs i=jr v/\Tr K F H st v t S1/\∀b,S1 b->S b:=by
 unfold AC at h ⊢;rw[r.9];cases e:XS ts.9 i with|none=>rw[e]at h;cases h|some j=>rw[e]at h;exact r.get h
theorem Trs.append{ws:LV}{us:LT}{S1 x:mB}(h:Trs K F H st vs ts S1)(r:Trs K F H st ws us x)(k:∀b,S1 b->¬ x b):Trs K F H st (vs++ws) (ts++us) (λb=>S1 b∨x b) :=
 Trs.ind (R:=λst vs ts S1=>Trs K F H st ws us x->(∀b,S1 b->¬ x b)->Trs K F H st (vs++ws) (ts++us) λb=>S1 b∨x b)
  (λ{_ S} n r _=>by have e:(λb=>S b∨x b)=x:=funext λb=>qs #[λz=>z.resolve_left (n b),.inr];rw[e];exact r)
  (λh _ n q y r k=>.cons h (y r λb hb=>k b ((q b).mpr (.inr hb))) (λb hb z=>z.elim (n b hb) (k b ((q b).mpr (.inl hb)))) λb=>by rw[q b,or_assoc]) h r k
theorem Trs.one(h:Tr K F H st v t S):Trs K F H st [v] [t] S:=.cons h (.nil (S:=λ_=>False) λ_ z=>z) (λ_ _ z=>z) λb=>by simp
theorem OH(e:(T.d (.dict kvs)).vw=.ls ts):False:=by
 have e:bC kvs=.ls ts:=e;unfold bC at e;cases h:UD kvs with|none=>rw[h]at e;cases e|some b=>rw[h]at e;cases e
theorem vM(e:(T.d (.dict kvs)).vw=.tp ts):False:=by
 have e:bC kvs=.tp ts:=e;unfold bC at e;cases h:UD kvs with|none=>rw[h]at e;cases e|some b=>rw[h]at e;cases e
theorem Tr.ls(f:Same F H)(h:Tr K F H st v t S)(e:t.vw=.ls ts):∃a vs S',v=.ref a/\uC K H a vs/\Trs K F H kd vs ts S'/\∀b,S' b->S b:=by
 cases h with
 |d r n =>
  cases r with|lst q r=>injection e with e;subst e;exact#[_,_,_,rfl,f.seq q,Trs.of_reps r,λb hb=>hb.elim]|dct _ _ _=>exact(OH e).elim|_=>cases e
 |lst h _ r n q=>injection e with e;subst e;exact#[_,_,_,rfl,uC.of h,r.weak,λb hb=>(q b).mpr (.inr hb)]|tup=>cases e|dct=>cases e|lstF h r n=>injection e with e;subst e;exact#[_,_,_,rfl,f.seq h,Trs.of_reps r,λb hb=>hb.elim]
theorem Tr.tp(f:Same F H)(h:Tr K F H st v t S)(e:t.vw=.tp ts):∃a vs S',v=.ref a/\rD K H a vs/\Trs K F H kd vs ts S'/\∀b,S' b->S b:=by
 cases h with
 |d r n =>
  cases r with|tup q r=>injection e with e;subst e;exact#[_,_,_,rfl,f.tupl q,Trs.of_reps r,λb hb=>hb.elim]|dct _ _ _=>exact(vM e).elim|_=>cases e
 |tup h _ r n q=>injection e with e;subst e;exact#[_,_,_,rfl,rD.of h,r.weak,λb hb=>(q b).mpr (.inr hb)]|lst=>cases e|lstF=>cases e|dct=>cases e
theorem yZ{u:Bool}{o:HO}(h:HK K H u o ks vs)(e:UD (ks.zip ds)=jr b):u=b:=by
 cases ks with
 |nil=>cases e|cons k ks =>
  cases ds with
  |nil=>cases e|cons d ds =>
   cases u with
   |true =>
    let#[m,kvs,_,y,_,g,_]:=h;cases kvs with
    |nil=>cases y|cons p r =>
     have a:=(g p QD).1;let#[f,n,j]:=p;cases f with|s x=>cases a|t l=>rw[QX]at y;injection y with y _;subst y;injection e
   |false =>
    rcases h with⟨kvs,_,_,y,_⟩| ⟨_,_,y,_⟩
    rotate_left
    cases y;cases kvs with
    |nil=>cases y|cons p r =>
     rw[QX]at y;injection y with y _;subst y;let#[k,v]:=p;cases k with|inl i=>cases e|inr z=>injection e
theorem Tr.dc(f:Same F H)(h:Tr K F H st v t S)(e:t.vw=.dc b ks ts):∃a o vs S',v=.ref a/\H a=jr o/\HK K F b o ks vs/\Trs K F H kd vs ts S'/\(∀b,S' b->S b)/\∀w c,Same F w->Same w c->(∀b,S b->c b=H b)->c a=jr o:=by
 cases h with
 |d r n =>
  cases r with
  |@dct X a o y l ds h q r =>
   have hl:y.9=ds.length:=by rw[q.len,Reps.length r]
   have g:(y.zip ds).map (λx=>x.1)=y:=QAH (WH hl);have u:(y.zip ds).map (λx=>x.2)=ds:=WV (WH hl.symm);have e:bC (y.zip ds)=.dc b ks ts:=e;unfold bC at e;cases z:UD (y.zip ds) with
   |none=>rw[z]at e;cases e|some p =>
    rw[z]at e;injection e with z1 z2 z3;subst z1;rw[g]at z2;subst z2;have m:ts=ds.map T.d:=by have j:=wy (List.map T.d) u;rw[Qa]at j;rw[<- z3,<- j];rfl
    subst m;cases yZ q z;exact#[_,_,_,_,rfl,f _ _ h,q,Trs.of_reps r,λb hb=>hb.elim,λw c g u _=>u _ _ (g _ _ h)]
  |_=>cases e
 |dct h q _ r n s=>injection e with z1 z2 z3;subst z1 z2 z3;exact#[_,_,_,_,rfl,h,q,r.weak,λb hb=>(s b).mpr (.inr hb),λw c _ _ k=>(k _ ((s _).mpr (.inl rfl))).trans h]|lst=>cases e|tup=>cases e|lstF=>cases e
theorem Tr.sc{x:D}(h:Tr K F H st v t S)(e:t.vw=.sc x):t=.d x/\Rep K F v x:=by
 cases h with
 |@d _ _ y _ r n =>
  cases y with
  |list ds=>cases e|tuple ds=>cases e|dict ds =>
   have e:bC ds=.sc x:=e;unfold bC at e;cases z:UD ds with|none=>rw[z]at e;injection e with e;subst e;exact#[rfl,r]|some b=>rw[z]at e;cases e
  |_=>injection e with e;subst e;exact#[rfl,r]
 |tup=>cases e|lst=>cases e|lstF=>cases e|dct=>cases e
theorem Tr.int(h:Tr K F H st v t S)(e:t.vw=.sc (.int i)):v=.int i:=by let#[_,r]:=h.sc e;cases r;rfl
theorem Tr.str{i:Str}(h:Tr K F H st v t S)(e:t.vw=.sc (.str i)):v=.str i:=by let#[_,r]:=h.sc e;cases r;rfl
end
end
def Sl.t:Sl->T
 | .own t=>t|.bor t=>t
def Sl.st:Sl->Bool
 | .own _=>kf|.bor _=>kd
noncomputable abbrev Ft:=Nat->ko->Prop
structure Rl(K:QC)(F H:Hp)(S:Ft)(ρ:vA)(σ:St):Prop where
 fh:Same F H
 len:ρ.9=σ.9
 sl:∀(i:Nat) s,ρ[i]?=jr (jr s)->∃v,σ[i]?=jr (jr v)/\Tr K F H s.st v s.t (S i)
 dj:∀(i j:Nat) t s,i≠j->ρ[i]?=jr (jr (.own t))->ρ[j]?=jr (jr s)->∀b,S i b->¬ S j b
def U(ρ:vA)(S:Ft)(b:ko):Prop:=∃(i:Nat) (t:T),ρ[i]?=jr (jr (.own t))/\S i b
structure Stp(F H:Hp)(S:Ft)(ρ:vA)(F' H':Hp)(S':Ft)(ρ':vA):Prop where
 ff:Same F F'
 hh:∀b u,H b=jr u->¬ U ρ S b->H' b=jr u
 dm:∀b,H' b=kv->H b=kv
 fn:∀b,F b=kv->F' b≠kv->U ρ S b∨H b=kv
 uu:∀b,U ρ' S' b->U ρ S b∨H b=kv
 bo:∀(j:Nat) t,ρ'[j]?=jr (jr (.bor t))->t.isD=kd->ρ[j]?=jr (jr (.bor t))/\S' j=S j
structure Ste(F H:Hp)(S:Ft)(ρ:vA)(F' H':Hp)(S':Ft)(ρ':vA):Prop extends Stp F H S ρ F' H' S' ρ' where
 ow:∀(j:Nat) t,ρ'[j]?=jr (jr (.own t))->∃t0,ρ[j]?=jr (jr (.own t0))
section
variable{K:QC}{F H X m B E:Hp}{S S1 C:Ft}{ρ l A:vA}{σ:St}
section
variable{v:V}{t:T}{Z W:mB}{i:Nat}{s:Sl}{b p:ko}{vs:LN}{g:Hp}{c:Ft}{y:vA}{n:Bool}
theorem Stp.refl:Stp F H S ρ F H S ρ:=#[.refl _,λ_ _ h _=>h,λ_ h=>h,λb h z=>Qe h z,λ_ h=>.inl h,λ_ _ h _=>#[h,rfl]]
theorem Ste.refl:Ste F H S ρ F H S ρ:=#[Stp.refl,λ_ t h=>#[t,h]]
theorem Stp.trans(a:Stp F H S ρ X m S1 l)(b:Stp X m S1 l B E C A):Stp F H S ρ B E C A where
 ff:=a.ff.trans b.ff
 hh:=λx u h n=>b.hh x u (a.hh x u h n) λz=>by rcases a.uu x z with q|q;exact n q;rw[q]at h;cases h
 dm:=λx h=>a.dm x (b.dm x h)
 fn:=λx h z=>by
  by_cases q:X x=kv;rcases b.fn x q z with w|w
  ·exact a.uu x w
  exact .inr (a.dm x w);exact a.fn x h q
 uu:=λx h=>by rcases b.uu x h with w|w;exact a.uu x w;exact .inr (a.dm x w)
 bo:=λj t h n=>by let#[o,f]:=b.bo j t h n;let#[e,k]:=a.bo j t o n;exact#[e,f.trans k]
theorem Ste.trans(a:Ste F H S ρ X m S1 l)(b:Ste X m S1 l B E C A):Ste F H S ρ B E C A:=#[a.toStp.trans b.toStp,λj t h=>by let#[x,z]:=b.ow j t h;exact a.ow j x z]
theorem Stp.keep(s:Stp F H S ρ X m S1 l){st:Bool}(h:Tr K F H st v t Z)(n:∀b,Z b->¬ U ρ S b):Tr K X m st v t Z :=
 h.mono s.ff λb hb=>by
  let#[x,w]:=h.dom b hb;refine#[?_,?_];cases e:H b with|none=>exact Qe e x|some u=>exact s.hh b u e (n b hb)
  by_cases q:X b=kv
  ·exact q
  rcases s.fn b w q with z|z
  ·exact Qe z (n b hb)
  exact Qe z x
theorem Rl.dom(I:Rl K F H S ρ σ)(h:ρ[i]?=jr (jr s))(hb:S i b):H b≠kv/\F b=none:=by let#[v,_,r]:=I.sl i s h;exact r.dom b hb
theorem Rl.isD(I:Rl K F H S ρ σ)(h:ρ[i]?=jr (jr s))(x:s.t.isD=kf):¬ S i b:=by
 let#[v,_,r]:=I.sl i s h;generalize s.t=t at r x;generalize s.st=st at r;cases r with|d r n=>exact n b|_=>cases x
structure Held(F H:Hp)(S:Ft)(ρ:vA)(Z:mB):Prop where
 dom:∀b,Z b->H b≠kv/\F b=kv
 nw:∀(i:Nat) s,ρ[i]?=jr (jr s)->∀b,Z b->¬ S i b
theorem Held.nu(h:Held F H S ρ Z):∀b,Z b->¬ U ρ S b:=λb hb #[i,t,z,x]=>h.nw i _ z b hb x
theorem Held.step(h:Held F H S ρ Z)(s:Stp F H S ρ X m S1 l)(j:Rl K X m S1 l σ):Held X m S1 l Z where
 dom:=λb hb=>by
  let#[u,k]:=h.dom b hb;refine#[λz=>u (s.dm b z),?_];by_cases q:X b=kv;exact q;rcases s.fn b k q with z|z
  ·exact Qe z (h.nu b hb)
  exact Qe z u
 nw:=λi w e b hb z=>by
  cases w with
  |own t=>rcases s.uu b ⟨i,t,e,z⟩ with q|q;exact h.nu b hb q;exact(h.dom b hb).1 q
  |bor t =>
   cases x:t.isD with|true=>exact j.isD e x z|false=>let#[f,a]:=s.bo i t e x;rw[a]at z;exact h.nw i _ f b hb z
theorem Held.none:Held F H S ρ λ_=>False:=#[λ_ z=>z.elim,λ_ _ _ _ z=>z.elim]
theorem Held.or{Y:mB}(a:Held F H S ρ Z)(b:Held F H S ρ Y):Held F H S ρ λx=>Z x∨Y x:=#[λx h=>h.elim (a.dom x) (b.dom x),λi s e x h=>h.elim (a.nw i s e x) (b.nw i s e x)]
noncomputable def oJ(F H:Hp)(W:mB):Hp:=open Classical in λb=>if W b then H b else F b
theorem nJ(h:W b):oJ F H W b=H b:=Qc h
theorem rC(h:¬ W b):oJ F H W b=F b:=QB h
theorem cH(h:∀b,W b->F b=kv):Same F (oJ F H W):=λb u e=>by rw[rC λz=>by rw[h b z]at e;cases e];exact e
theorem se(f:Same F H):Same (oJ F H W) H:=λb u e=>by by_cases hb:W b;rw[nJ hb]at e;exact e;rw[rC hb]at e;exact f b u e
theorem Rl.frz(I:Rl K F H S ρ σ){W:mB}(h:Held F H S ρ W):Rl K (oJ F H W) H S ρ σ where
 fh:=se I.fh
 len:=I.len
 sl:=λi s e=>by let#[v,u,x]:=I.sl i s e;refine#[v,u,x.mono (cH λb hb=>(h.dom b hb).2) λb hb=>#[rfl,?_]];rw[rC λz=>h.nw i s e b z hb];exact(x.dom b hb).2
 dj:=I.dj
theorem Stp.frz(s:Stp F H S ρ X m S1 l){W:mB}(x:∀b,W b->X b=kv)(fr:∀b,W b->H b=kv∨U ρ S b):Stp F H S ρ (oJ X m W) m S1 l :=
 #[s.ff.trans (cH x),s.hh,s.dm,λb h z=>by by_cases q:W b;exact(fr b q).symm;rw[rC q]at z;exact s.fn b h z,s.uu,s.bo]
theorem Ste.frz(s:Ste F H S ρ X m S1 l){W:mB}(h:∀b,W b->X b=kv)(fr:∀b,W b->H b=kv∨U ρ S b):Ste F H S ρ (oJ X m W) m S1 l:=#[s.toStp.frz h fr,s.ow]
theorem Stp.new(s:Stp F H S ρ X m S1 l){p:ko}(h:m p=kv)(o:HO):Stp F H S ρ X (DA m p o) S1 l :=
 #[s.ff,λb u e n=>PB h b u (s.hh b u e n),λb e=>by by_cases hb:b=p;rw[hb,YA]at e;cases e;rw[xA hb]at e;exact s.dm b e,s.fn,s.uu,s.bo]
theorem Ste.new(s:Ste F H S ρ X m S1 l){p:ko}(h:m p=kv)(o:HO):Ste F H S ρ X (DA m p o) S1 l:=#[s.toStp.new h o,s.ow]
theorem Rl.same(I:Rl K F H S ρ σ)(h:Same H m):Rl K F m S ρ σ where
 fh:=I.fh.trans h
 len:=I.len
 sl:=λi s e=>by
  let#[v,z,x]:=I.sl i s e;refine#[v,z,x.mono (.refl _) λb hb=>#[?_,(x.dom b hb).2]];cases e:H b with|none=>exact Qe e (x.dom b hb).1|some u=>exact h b u e
 dj:=I.dj
theorem Rl.new(I:Rl K F H S ρ σ){p:ko}(h:H p=kv)(o:HO):Rl K F (DA H p o) S ρ σ:=I.same (PB h)
theorem Stp.newT(s:Stp F H S ρ X m S1 l)(h:m p=kv)(u:X p=kv)(o:HO):Stp F H S ρ (DA X p o) (DA m p o) S1 l :=
 let x:=s.new h o
 #[s.ff.trans (PB u),x.hh,x.dm,λb e z=>by by_cases hb:b=p;rw[hb];exact .inr (s.dm p h);rw[xA hb]at z;exact s.fn b e z,s.uu,s.bo]
theorem Ste.newT(s:Ste F H S ρ X m S1 l)(h:m p=kv)(x:X p=kv)(o:HO):Ste F H S ρ (DA X p o) (DA m p o) S1 l:=#[s.toStp.newT h x o,s.ow]
theorem Rl.newT(I:Rl K F H S ρ σ)(h:H p=kv)(o:HO):Rl K (DA F p o) (DA H p o) S ρ σ where
 fh:=λb u e=>by by_cases hb:b=p;rw[hb,YA]at e ⊢;exact e;rw[xA hb]at e ⊢;exact I.fh b u e
 len:=I.len
 sl:=λi s e=>by let#[v,k,x]:=I.sl i s e;refine#[v,k,x.mono (PB (I.fh.free h)) λb hb=>?_];have w:b≠p:=λz=>(x.dom b hb).1 (by rw[z];exact h);rw[xA w,xA w];exact#[rfl,(x.dom b hb).2]
 dj:=I.dj
theorem v3(ρ:vA)(i:Nat):(lockA ρ)[i]?=ρ[i]?.map gG:=by unfold lockA;rw[Qd]
theorem JB{ρ:vA}(h:(lockA ρ)[i]?=jr (jr s)):∃x,ρ[i]?=jr (jr x)/\s=.bor x.t:=by
 rw[v3]at h;cases e:ρ[i]? with
 |none=>rw[e]at h;cases h|some o =>
  rw[e]at h;cases o with
  |none=>cases h|some x =>
   cases x with|own t=>injection h with h;injection h with h;subst h;exact#[_,rfl,rfl]|bor t=>injection h with h;injection h with h;subst h;exact#[_,rfl,rfl]
theorem xD(b:ko):¬ U (lockA ρ) S b:=λ#[i,t,h,_]=>by let#[x,_,e]:=JB h;cases e
theorem Rl.lockA(I:Rl K F H S ρ σ):Rl K F H S (lockA ρ) σ where
 fh:=I.fh
 len:=by unfold L3.lockA;rw[QF];exact I.len
 sl:=λi s e=>by let#[x,h,rfl]:=JB e;let#[v,u,z]:=I.sl i x h;exact#[v,u,z.weak]
 dj:=λi j t s _ h=>by let#[x,_,e]:=JB h;cases e
theorem Stp.unlockA(s:Stp F H S (L3.lockA ρ) X m S1 l):Stp F H S ρ X m S ρ :=
 #[s.ff,λb u e _=>s.hh b u e (xD b),s.dm,λb h z=>(s.fn b h z).elim (λq=>Qe q (xD b)) .inr,λ_ h=>.inl h,λ_ _ h _=>#[h,rfl]]
theorem Rl.unlockA(I:Rl K F H S ρ σ)(s:Stp F H S (L3.lockA ρ) X m S1 l)(f:Same X m):Rl K X m S ρ σ where
 fh:=f
 len:=I.len
 sl:=λi sl e=>by let#[v,x,h]:=I.sl i sl e;exact#[v,x,s.keep h λb _=>xD b]
 dj:=I.dj
structure VR(K:QC)(vs:LN)(g:Hp)(c:Ft)(y:vA)(F H:Hp)(S:Ft)(ρ:vA)(v:V)(t:T)(n:Bool)(Z:mB):Prop where
 tr:Tr K F H n v t Z
 fr:n=kf->∀b,Z b->g b=kv∨U y c b
 tm:n=kd->∀b,Z b->∃(i:Nat) (s:Sl),i∈vs/\ρ[i]?=jr (jr s)/\S i b
 nw:n=kf->∀(i:Nat) s,ρ[i]?=jr (jr s)->∀b,Z b->¬ S i b
theorem VR.d{vs:LN}{g:Hp}{c:Ft}{y:vA}{v:V}{x:D}(n:Bool)(r:Rep K F v x):VR K vs g c y F H S ρ v (.d x) n (λ_=>False) :=
 #[.d r λ_ z=>z,λ_ _ z=>z.elim,λ_ _ z=>z.elim,λ_ _ _ _ _ z=>z.elim]
theorem VR.held(h:VR K vs g c y F H S ρ v t kf Z):Held F H S ρ Z:=#[λb hb=>h.tr.dom b hb,h.nw rfl]
theorem VR.vars{ws:LN}(h:VR K vs g c y F H S ρ v t n Z)(k:∀i∈vs,i∈ws):VR K ws g c y F H S ρ v t n Z :=
 #[h.tr,h.fr,λe b hb=>let#[i,s,z,x]:=h.tm e b hb;#[i,s,k i z,x],h.nw]
theorem VR.from(s:Stp F H S ρ X m S1 l)(h:VR K vs m S1 l B E C A v t n Z):VR K vs H S ρ B E C A v t n Z :=
 #[h.tr,λe b hb=>by rcases h.fr e b hb with q|q;exact .inl (s.dm b q);exact(s.uu b q).symm,h.tm,h.nw]
theorem VR.frz{vs:LN}{v:V}{t:T}{n:Bool}{Z:mB}(s:Ste F H S ρ X m S1 l)(I:Rl K X m S1 l σ)(h:VR K vs H S ρ X m S1 l v t n Z) :
  ∃B o,Ste F H S ρ B m S1 l/\Rl K B m S1 l σ/\Tr K B m kd v (fA t n) o/\(BH t n=kf->Rep K B v t.er)/\(∀b,o b->∃(i:Nat) (s:Sl),i∈vs/\l[i]?=jr (jr s)/\S1 i b) /\
   ∀st a t' k,Tr K X m st a t' k->(∀b,k b->∃(i:Nat) (s:Sl),l[i]?=jr (jr s)/\S1 i b)->Tr K B m st a t' k:=by
 cases n with
 |true =>
  have w:=h.held;have j:=cH (H:=m) λb hb=>(w.dom b hb).2;have f:=h.tr.kept j λb u hb e=>by rw[nJ hb];exact e
  refine#[oJ X m Z,λ_=>False,s.frz (λb hb=>(w.dom b hb).2) (h.fr rfl),I.frz w,.d f λ_ z=>z,λ_=>f,λb z=>z.elim,λst a t' k r G=>r.mono j λb hb=>#[rfl,?_]];let#[i,Y,L,J]:=G b hb;rw[rC λz=>w.nw i Y L b z J];exact(r.dom b hb).2
 |false =>
  refine#[X,Z,s,I,h.tr,?_,h.tm rfl,λ_ _ _ _ r _=>r];intro e;have q:=h.tr;cases t with
  |d x=>cases q with|d r n=>exact r
  |_=>cases e
end
end
noncomputable abbrev cB(K:QC)(vs:LN)(F H:Hp)(S:Ft)(ρ:vA)(σ:St)(Q:TK)(R:VK):Prop :=
 ∀v z x y h t n Z,Ste F H S ρ z x y h->Rl K z x y h σ->VR K vs H S ρ z x y h v t n Z->Q t n h->R v x
noncomputable abbrev LH(K:QC)(F H:Hp)(S:Ft)(ρ:vA)(σ:St)(Q:Bool->vA->Prop)(R:Bool->Hp->Prop):Prop :=
 ∀b z x y h,Ste F H S ρ z x y h->Rl K z x y h σ->Q b h->R b x
section
variable{K:QC}{ws:LN}{F H B A:Hp}{S S1:Ft}{ρ Y:vA}{σ:St}{v w:V}{a b:T}{J G:mB}{Q:TK}{R:VK}{E C:Bool}
section
variable{X o:Hp}{m:Ft}{u:vA}{p:ko}{vs:LV}{ds:List D}
theorem cB.from(k:cB K ws F H S ρ σ Q R)(s:Ste F H S ρ X o m u):cB K ws X o m u σ Q R:=λv f e y h t n Z x z r q=>k v f e y h t n Z (s.trans x) z (r.from s.toStp) q
theorem LH.from{Q:Bool->vA->Prop}{R:Bool->Hp->Prop}(k:LH K F H S ρ σ Q R)(s:Ste F H S ρ X o m u):LH K X o m u σ Q R:=λb f e y h x z q=>k b f e y h (s.trans x) z q
theorem cB.vars{us:LN}(k:cB K ws F H S ρ σ Q R)(h:∀i∈us,i∈ws):cB K us F H S ρ σ Q R:=λv e z y x t n Z s I r q=>k v e z y x t n Z s I (r.vars h) q
theorem cB.d(k:cB K ws F H S ρ σ Q R)(s:Ste F H S ρ B A S1 Y)(I:Rl K B A S1 Y σ){x:D}{n:Bool}(r:Rep K B v x)(q:Q (.d x) n Y):R v A:=k v B A S1 Y _ n _ s I (VR.d n r) q
theorem cB.list(k:cB K ws F H S ρ σ Q R)(s:Ste F H S ρ B A S1 Y)(I:Rl K B A S1 Y σ)(x:A p=kv){ts:LT}{W:mB}(r:Trs K B A kf vs ts W)
  (fr:∀b,W b->H b=kv∨U ρ S b) (y:Held B A S1 Y W) (q:Q (.lst ts) kf Y):R (.ref p) (DA A p (.lst vs)):=by
 have g:∀b,A b≠kv->b≠p:=λb h z=>h (by rw[z];exact x);refine k _ B _ S1 Y _ kf (λb=>b=p∨W b) (s.new x _) (I.new x _) #[.lst YA (I.fh.free x) (r.mono (.refl _) λb hb=>#[?_,(y.dom b hb).2]) (λz=>(y.dom p z).1 x) (λb=>WP),λ_ b hb=>?_,λz=>(by cases z),λ_ i f e b hb z=>?_] q;rw[xA (g b (y.dom b hb).1)];rcases hb with rfl|hb
 ·exact .inl (s.dm _ x)
 exact fr b hb;rcases hb with rfl|hb
 ·exact(I.dom e z).1 x
 exact y.nw i f e b hb z
theorem cB.listD(k:cB K ws F H S ρ σ Q R)(s:Ste F H S ρ B A S1 Y)(I:Rl K B A S1 Y σ)(h:A p=kv)(r:Reps K B vs ds)(q:Q (.lst (ds.map T.d)) kf Y):R (.ref p) (DA A p (.lst vs)) :=
 k.list s I h (Trs.of_reps r) (λb z=>z.elim) .none q
theorem cB.tupD(k:cB K ws F H S ρ σ Q R)(s:Ste F H S ρ B A S1 Y)(I:Rl K B A S1 Y σ)(h:A p=kv){n:Bool}(r:Reps K B vs ds)(q:Q (.d (.tuple ds)) n Y):R (.ref p) (DA A p (.tup vs)) :=
 cB.d k (s.newT h (I.fh.free h) _) (I.newT h _) (.tup (rD.of YA) (r.mono (PB (I.fh.free h)))) q
theorem cB.tup(k:cB K ws F H S ρ σ Q R)(s:Ste F H S ρ B A S1 Y)(I:Rl K B A S1 Y σ){p:ko}(x:A p=kv){vs:LV}{ts:LT}{W:mB}(r:Trs K B A kf vs ts W)
  (fr:∀b,W b->H b=kv∨U ρ S b) (y:Held B A S1 Y W) (q:Q (ZD ts) kf Y):R (.ref p) (DA A p (.tup vs)):=by
 unfold ZD at q;cases e:SD ts with
 |some ds=>rw[e]at q;exact k.tupD s I x (r.un e).1 q|none =>
  rw[e]at q;have g:∀b,A b≠kv->b≠p:=λb h z=>h (by rw[z];exact x);refine k _ B _ S1 Y _ kf (λb=>b=p∨W b) (s.new x _) (I.new x _) #[.tup YA (I.fh.free x) (r.mono (.refl _) λb hb=>#[?_,(y.dom b hb).2]) (λz=>(y.dom p z).1 x) (λb=>WP),λ_ b hb=>?_,λz=>(by cases z),λ_ i f e b hb z=>?_] q;rw[xA (g b (y.dom b hb).1)];rcases hb with rfl|hb
  ·exact .inl (s.dm _ x)
  exact fr b hb;rcases hb with rfl|hb
  ·exact(I.dom e z).1 x
  exact y.nw i f e b hb z
theorem Ln{op:g6}(s:Ste F H S ρ B A S1 Y)(I:Rl K B A S1 Y σ)(L:Tr K B A E v a J)(W:Tr K B A C w b G)(h:binT op a.vw b.vw λz n=>Q z n Y)(k:cB K ws F H S ρ σ Q R):Te K op v w A R:=by
 have Z:∀{i j:Int},a.vw=.sc (.int i)->b.vw=.sc (.int j)->v=.int i/\w=.int j:=λf e=>#[L.int f,W.int e]
 cases op with
 |Add =>
  rcases h with⟨i,j,f,e,h⟩| ⟨x,y,f,e,h⟩| ⟨O,M,ds,es,f,e,e1,e2,hl,q⟩| ⟨O,M,ds,es,f,e,e1,e2,hn,hn2,hl,q⟩
  let#[rfl,rfl]:=Z f e;exact k.d s I (.int _) h;obtain rfl:=L.str f;obtain rfl:=W.str e;exact#[h.1,k.d s I (.str _) h.2];let#[p,P,_,rfl,hp,rp,_]:=L.ls I.fh f;let#[p2,N,_,rfl,hq,rq,_]:=W.ls I.fh e;have r:=(rp.un e1).1;have g:=(rq.un e2).1;exact .inl #[P,N,hp,hq,by rw[r.9,g.9];exact hl,λl hl=>k.listD s I hl (r.append g) q];let#[p,P,_,rfl,hp,rp,_]:=L.tp I.fh f;let#[p2,N,_,rfl,hq,rq,_]:=W.tp I.fh e;have r:=(rp.un e1).1;have g:=(rq.un e2).1;refine .inr #[p,p2,P,N,rfl,rfl,hp,hq,?_,by rw[r.9,g.9];exact hl,λz=>?_,λ_ l hl=>?_];intro z;subst z;cases r;exact hn rfl;subst z;cases g;exact Qe rfl hn2;exact k.tupD s I hl (r.append g) q
 |Sub=>let#[i,j,f,e,h]:=h;let#[rfl,rfl]:=Z f e;exact k.d s I (.int _) h|Mult=>let#[i,j,f,e,h]:=h;let#[rfl,rfl]:=Z f e;exact#[h.1,k.d s I (.int _) h.2]|FloorDiv=>let#[i,j,f,e,h]:=h;let#[rfl,rfl]:=Z f e;exact#[h.1,k.d s I (.int _) h.2]|Mod=>let#[i,j,f,e,h]:=h;let#[rfl,rfl]:=Z f e;exact#[h.1,k.d s I (.int _) h.2]|_=>exact h.elim
theorem Og{x y:D}{r:Bool->Prop}(neg:Bool)(e:Rep K A v x)(z:Rep K A w y)(h:Yv x y λk=>r (if neg then !k else k))(k:∀c,r c->R (.bl c) A):rEq K neg v w A R:=by
 have n:BE x/\BE y/\r (if neg then !PyData.eqv x y else Qo x y)->(∃l f,Rep K A v l/\Rep K A w f/\BE l/\BE f/\R (.bl (if neg then !PyData.eqv l f else Qo l f)) A):=λ#[Z,s,q] =>
  #[x,y,e,z,Z,s,k _ q]
 unfold Yv at h;split at h;cases e;cases z;exact k _ h;cases e;cases z;exact k _ h;cases e;cases z;exact k _ h;have g:=n h;rename_i n1 n2 n3;cases e with
 |int i =>
  cases z with|int j=>exact Qe rfl (n1 i j rfl)|_=>exact g
 |str i =>
  cases z with|str j=>exact Qe rfl (n2 i j rfl)|_=>exact g
 |bl i =>
  cases z with|bl j=>exact Qe rfl (n3 i j rfl)|_=>exact g
 |_=>exact g
theorem y9{F:Hp}{v w:V}{a b:D}(x:Rep K F v a)(h:Rep K F w b)(z:VB a=kf)(y:VB b=kf):Ze v w=Qo a b:=by cases x<;>cases h<;>first|exact Qe (show kd=kf from z) QG|exact Qe (show kd=kf from y) QG | (simp only[Qo];rfl) | (simp only[Qo])
theorem gX{F:Hp}{v:V}{a:D}(h:Rep K F v a)(x:VB a=kf):rG v=true:=by cases h<;>first|rfl|exact Qe (show kd=kf from x) QG
theorem ZU{F:Hp}(h:Reps K F vs ds)(f:ds.all VB=kf):vs.all rG=kf :=
 Reps.ind (R:=λvs ds=>ds.all VB=kf->vs.all rG=kf) (λ_=>rfl) (λh x f=>by rw[qr,QZ]at f ⊢;exact#[gX h f.1,x f.2]) h f
theorem VN{F:Hp}{v:V}{a:D}(x:Rep K F v a)(z:VB a=kf):∀{vs:LV}{ds:List D},Reps K F vs ds->ds.all VB=kf->inV v vs=ds.any λy=>Qo y a
 |_,_,.nil,_=>rfl|_,_,.cons h t,f=>by rw[qr,QZ]at f;have e:=VN x z t f.2;unfold inV at e ⊢;rw[WL,WL,y9 h x f.1 z,e]
end
mutual
theorem JY{F:Hp}:∀{k:NK}{v:V},Rep K F v (tD k)->Vo K F k v
 | .s x,v,h=>by have h:Rep K F v (.str x):=h;cases h;rfl|.t ks,v,h=>by
  have h:Rep K F v (.tuple (tDs ks)):=h;cases h with|tup z y=>exact#[_,_,rfl,z,reps_key y]
theorem reps_key{F:Hp}:∀{ks:List NK}{vs:LV},Reps K F vs (tDs ks)->KyVs K F ks vs
 |[],vs,h=>by have h:Reps K F vs []:=h;cases h;rfl|k::ks,vs,h=>by
  have h:Reps K F vs (tD k::tDs ks):=h;cases h with|cons h t=>exact#[_,_,rfl,JY h,reps_key t]
end
section
variable{k x y:D}{o:HO}{ks ds:List D}{vs xs:LV}{X:Bool->Prop}{U:fv}{W:Bool->Hp->Prop}{n:String}{Y:mB}{ts:LT}
theorem KR{F:Hp}{v:V}(hk:TD kf k)(r:Rep K F v k):∃q p,k=tD q/\v=.ref p/\yP K F p q:=by let#[q,rfl,h]:=hk;have r:=JY r;let#[p,_,rfl,_]:=id r;exact#[_,p,rfl,rfl,r,h]
theorem NG(q:NK):∀(kvs:List KE),lH kvs q=(dA (kvs.map λp=>tD p.1) (tD q)).bind λn=>(kvs.map (·.2.2))[n]?
 |[]=>rfl|p::r=>by rw[QX,QX];unfold dA;by_cases e:p.1=q;rw[MS e,Qc (by rw[e])];rfl;rw[NS e,QB λz=>e (RV z),NG q r];cases dA (r.map λp=>tD p.1) (tD q)<;>rfl
theorem RJ(q:Key):∀(kvs:List (Key×V)),bM kvs q=(dA (kvs.map λp=>kD p.1) (kD q)).bind λn=>(kvs.map (·.2))[n]?
 |[]=>rfl|p::r=>by rw[QX,QX];unfold dA;by_cases e:p.1=q;rw[xM e,Qc (by rw[e])];rfl;rw[uM e,QB λz=>e (Z8 z),RJ q r];cases dA (r.map λp=>kD p.1) (kD q)<;>rfl
theorem HK.get{a:ko}{b:Bool}(u:H1 a=jr o)(q:HK K H1 b o ks vs)(e:Rep K H1 w k)(hk:TD b k):iS K H1 a w ((dA ks k).bind λn=>vs[n]?):=by
 cases b with
 |true=>let#[v,h,rfl,rfl,rfl,g,_]:=q;let#[q,p,rfl,rfl,f]:=KR hk e;exact#[v,h,q,u,g,f,(NG q h).symm]|false =>
  let#[z,rfl]:=hk;cases e;rcases q with⟨h,_,rfl,rfl,rfl,_⟩| ⟨v,rfl,rfl,rfl⟩
  exact .inl #[h,u,(RJ (.inr z) h).symm];exact .inr #[v,u,rfl]
theorem KU{b:Bool}(q:HK K H1 b o ks vs):((dA ks k).bind λn=>vs[n]?).isSome=(dA ks k).isSome:=by
 cases e:dA ks k with
 |none=>rfl|some n =>
  have z:=(Qh.mp (OC e)).1;have h:n<vs.length:=by rw[<- q.len];exact z
  simp[h]
theorem kX{b neg:Bool}{a:ko}(u:H1 a=jr o)(q:HK K H1 b o ks vs)(z:Rep K H1 v x)(hk:TD b x)(h:R (.bl (if neg then !(dA ks x).isSome else(dA ks x).isSome)) H1):pT K neg v (.ref a) H1 R :=
 .inr (.inr #[_,q.get u z hk,by rw[KU q];exact h])
theorem Xg(neg:Bool)(z:Rep K H1 v x)(e:Rep K H1 w y)(h:gv x y λk=>X (if neg then !k else k))(k:∀c,X c->R (.bl c) H1):pT K neg v w H1 R:=by
 unfold gv at h;split at h;cases z;cases e;exact k _ h;rename_i ds;have u:=e;cases e with
 |lst l f =>
  rcases h.1 with⟨g,fs⟩| ⟨j,i⟩
  refine .inl #[_,_,rfl,.inl l,gX z g,ZU f fs,?_];rw[VN z g f fs];exact k _ h.2;exact .inr (.inl #[_,ds,z,.inl u,j,i,k _ h.2])
 rename_i ds;have u:=e;cases e with
 |tup l f =>
  rcases h.1 with⟨g,fs⟩| ⟨j,i⟩
  refine .inl #[_,_,rfl,.inr l,gX z g,ZU f fs,?_];rw[VN z g f fs];exact k _ h.2;exact .inr (.inl #[_,ds,z,.inr u,j,i,k _ h.2])
 let#[b,p,hk,q]:=h;cases e with
 |@dct s a o ks vs ds h m r =>
  have hl:ks.9=ds.length:=by rw[m.len,Reps.length r]
  rw[QAH (WH hl)]at q;cases yZ m p;exact kX h m z hk (k _ q)
 exact h.elim
theorem AQ{g:Int->Int->Bool}(u:Rep K H1 v x)(z:Rep K H1 w y)(h:V1 g x y X)(k:∀c,X c->R (.bl c) H1):N0 g v w H1 R:=by unfold V1 at h;split at h;cases u;cases z;exact k _ h;exact h.elim
theorem Rep.non_iff(h:Rep K H1 v x):decide (v=.non)=D8 x:=by cases h<;>rfl
theorem sX(u:Rep K H1 v x)(z:Rep K H1 w y)(h:tX U x y X)(k:∀c,X c->R (.bl c) H1):e9 K U v w H1 R:=by
 cases U with|Eq=>exact Og kd u z h k|NotEq=>exact Og kf u z h k|Lt=>exact AQ u z h k|LtE=>exact AQ u z h k|Gt=>exact AQ u z h k|GtE=>exact AQ u z h k|In=>exact Xg kd u z h k|NotIn=>exact Xg kf u z h k|Is=>have a:U3 x y X:=h;unfold U3 at a;split at a;cases z;have e:=u.non_iff;show R (.bl (decide (v=.non))) H1;rw[e];exact k _ a;cases z;cases u;exact#[_,rfl,k _ a];exact a.elim|IsNot=>have a:U3 x y λk=>X (!k):=h;unfold U3 at a;split at a;cases z;have e:=u.non_iff;show R (.bl (!decide (v=.non))) H1;rw[e];exact k _ a;cases z;cases u;exact#[_,rfl,k _ a];exact a.elim
theorem VZ(f:Same F1 H1)(z:Rep K H1 v x)(u:Tr K F1 H1 sb w b Zb)(h:Ue U x b X)(k:∀c,X c->R (.bl c) H1):e9 K U v w H1 R:=by
 cases b with
 |d y=>exact sX z (u.rep f) h k|lst ts=>exact sX z (u.rep f) h k|tup ts=>exact sX z (u.rep f) h k|dct b ks ts =>
  let#[hk,h]:=h;cases u with
  |dct a e _ _ _ _ =>
   rcases h with⟨rfl,q⟩| ⟨rfl,q⟩
   exact kX (neg:=kd) a (e.mono f) z hk (k _ q);exact kX (neg:=kf) a (e.mono f) z hk (k _ q)
theorem mJ(r:Reps K F xs ds):(!ds.isEmpty)=!xs.isEmpty:=by cases r<;>rfl
theorem fY(z:Rep K H1 v x)(h:JI x X)(k:∀c,X c->W c H1):TF K v H1 W:=by
 unfold JI at h;split at h;cases z;exact k _ h;cases z;exact k _ h;cases z;exact k _ h;cases z;exact#[h.1,k _ h.2];cases z with|lst w u=>rw[mJ u]at h;exact#[_,.inl #[_,w,rfl],k _ h]
 cases z with|tup w u=>rw[mJ u]at h;exact#[_,.inr (.inl #[_,w,rfl]),k _ h]
 exact h.elim
theorem O9(z:Rep K H1 v x)(h:xo x X)(k:∀c,X c->W c H1):P9 v H1 W:=by unfold xo at h;split at h;cases z;exact k _ h;exact h.elim
theorem Cm(s:Ste F H S ρ F1 H1 S1 ρ1)(I:Rl K F1 H1 S1 ρ1 σ)(A:Tr K F1 H1 sa v a Za)(E:∀b,Za b->∃(i:Nat) (s:Sl),i∈ws/\ρ1[i]?=jr (jr s)/\S1 i b)(m:Tr K F1 H1 sb w b Zb)(h:BO a.vw b.vw λz=>Q z kd ρ1)(k:cB K ws F H S ρ σ Q R):O0 K v w H1 R:=by
 rcases h with⟨z,i,c,j,g,f,e,q⟩| ⟨ts,i,d,j,g,f,q⟩| ⟨ts,i,d,j,g,f,q⟩
 obtain rfl:=A.str j;obtain rfl:=m.int g;exact#[f,c,e,k.d s I (.str _) q];let#[p,xs,G,rfl,C,l,B]:=A.ls I.fh j;obtain rfl:=m.int g;let#[x,Z,e,r,u]:=l.at f;exact#[xs,x,.inl C,e,k _ F1 H1 S1 ρ1 _ kd Z s I #[r,λz=>(by cases z),λ_ b hb=>E b (B b (u b hb)),λz=>(by cases z)] q];let#[p,xs,G,rfl,C,l,B]:=A.tp I.fh j;obtain rfl:=m.int g;let#[x,Z,e,r,u]:=l.at f;exact#[xs,x,.inr C,e,k _ F1 H1 S1 ρ1 _ kd Z s I #[r,λz=>(by cases z),λ_ b hb=>E b (B b (u b hb)),λz=>(by cases z)] q]
theorem cn(s:Ste F H S ρ F1 H1 S1 ρ1)(I:Rl K F1 H1 S1 ρ1 σ)(l:Tr K F1 H1 sa v a Za)(e:∀b,Za b->∃(i:Nat) (s:Sl),i∈ws/\ρ1[i]?=jr (jr s)/\S1 i b)(j:Rep K H1 w y)(h:XU a.vw y λz=>Q z kd ρ1)(k:cB K ws F H S ρ σ Q R):O0 K v w H1 R:=by
 let#[b,ks,ts,n,d,G,hk,C,A,q]:=h;let#[p,o,vs,L,rfl,B,J,f,m,_]:=l.dc I.fh G;let#[x,Z,E,r,u]:=f.get A;have g:=(J.mono I.fh).get B j hk;rw[C]at g;have g:iS K H1 p w (vs[n]?):=g;rw[E]at g;have fin:=k _ F1 H1 S1 ρ1 _ kd Z s I #[r,λz=>(by cases z),λ_ b hb=>e b (m b (u b hb)),λz=>(by cases z)] q;cases w with|str z=>exact#[x,g,fin]|ref c=>exact#[x,g,fin]|_=>exact g.elim
theorem Reps.cut(r:Reps K F xs ds)(h z:Option Int):Reps K F (CU xs h z) (cD ds h z):=by unfold CU cD;rw[r.9];exact(r.drop _).take _
theorem pj{g i:Option Int}(s:Ste F H S ρ F1 H1 S1 ρ1)(I:Rl K F1 H1 S1 ρ1 σ)(b:Tr K F1 H1 sa v a Za)(h:kG a.vw g i λz n=>Q z n ρ1)(k:cB K ws F H S ρ σ Q R):Lw K v g i H1 R:=by
 rcases h with⟨z,u,h⟩| ⟨ts,ds,u,e,q⟩| ⟨ts,ds,u,e,n,q⟩
 obtain rfl:=b.str u;exact#[h.1,k.d s I (.str _) h.2];let#[p,xs,_,rfl,f,w,_]:=b.ls I.fh u;exact .inl #[p,xs,rfl,f,λl hl=>k.listD s I hl ((w.un e).1.cut _ _) q];let#[p,xs,_,rfl,f,w,_]:=b.tp I.fh u;refine .inr #[p,xs,rfl,f,by rw[(w.un e).1.length];exact n,λl hl=>k.tupD s I hl ((w.un e).1.cut _ _) q]
theorem Jc{P:Option Int->Prop}{z:Option Int->Hp->Prop}(u:Rep K H1 v x)(h:cG x P)(k:∀o,P o->z o H1):TM v H1 z:=by unfold cG at h;split at h;cases u;exact k _ h;exact h.elim
noncomputable def Tu:D->kn
 | .none=>.type "NoneType"|.bool _=>.type "bool"|.int _=>.type "int"|.str _=>.type "str"|.list _=>.type "list"|.tuple _=>.type "tuple"|.dict _=>.type "dict"
theorem Rep.ty(w:Rep K H1 v x):TyOf K H1 v (Tu x)∨iz K H1 v (Tu x):=by
 cases w with
 |non=>exact .inl .non|bl b=>exact .inl (.bl _)|int b=>exact .inl (.int _)|str b=>exact .inl (.str _)|lst h u=>exact .inr (.inl #[_,_,rfl,h,rfl])|tup h u=>exact .inr (.inr #[_,_,rfl,h,rfl])|@dct b _ _ _ _ _ h q _ =>
  cases b with
  |true=>let#[a,z,rfl,_]:=q;exact .inl (.dT h)|false =>
   rcases q with⟨z,_,rfl,_⟩| ⟨a,rfl,_⟩
   exact .inl (.dK h);exact .inl (.dT h)
theorem lm{k:Bool}(h:isD n x=jr k)(z:DP n=kf):QBq K (Tu x) (.type n)=jr k:=by simp only[DP,wz,beq_iff_eq]at z;rcases z with((((rfl|rfl)|rfl)|rfl)|rfl)|rfl<;>cases x<;>simp[isD]at h<;>subst h<;>rfl
theorem Xm{k:Bool}(z:Rep K H1 v x)(h:isD n x=jr k)(u:DP n=kf)(q:R (.bl k) H1):Cj K [v,.ty n] H1 R :=
 #[Tu x,.type n,k,z.ty,rfl,lm h u,q]
inductive Tn(K:QC)(F H:Hp)(Y:mB):LV->LT->Prop where
 |nil:Tn K F H Y [] []
 |cons {v:V}{t:T}{vs:LV}{ts:LT}{Z:mB}:Tr K F H kd v t Z->(∀b,Z b->Y b)->Tn K F H Y vs ts->Tn K F H Y (v::vs) (t::ts)
theorem kM(ts:LT):∀{xs:List (T×Bool)},CO xs=ts->ZB xs=ts.map T.vw
 |[],h=>by subst h;rfl|p::r,h=>by subst h;simp only[ZB,CO,QX,kM _ rfl]
theorem Tn.one{x:Vw}(h:Tn K F H Y vs ts)(e:ts.map T.vw=[x]):∃v t Z,vs=[v]/\ts=[t]/\t.vw=x/\Tr K F H kd v t Z/\∀b,Z b->Y b:=by
 cases h with
 |nil=>cases e|cons r z t =>
  simp only[QX,Wm]at e;cases t with|nil=>exact#[_,_,_,rfl,rfl,e.1,r,z]|cons _ _ _=>simp at e
theorem Tn.two{x y:Vw}(h:Tn K F H Y vs ts)(e:ts.map T.vw=[x,y]):∃v w t u Z a,vs=[v,w]/\ts=[t,u]/\t.vw=x/\u.vw=y/\Tr K F H kd v t Z/\Tr K F H kd w u a/\(∀b,Z b->Y b)/\(∀b,a b->Y b):=by
 cases h with|nil=>cases e|cons r z t=>simp only[QX,Wm]at e;let#[v,u,a,rfl,rfl,i,g,f]:=t.one e.2;exact#[_,_,_,_,_,_,rfl,rfl,e.1,i,r,g,z,f]
theorem jK:∀{xs:LV}{z:LS},Reps K F xs (z.map j0)->xs=z.map V.str
 |_,[],.nil=>rfl|_,y::z,.cons h t=>by cases h;rw[QX,jK t]
theorem bP:∀(h:LS),Reps K F (h.map V.str) (h.map j0)
 |[]=>.nil|y::h=>.cons (.str y) (bP h)
theorem aN:∀{xs:LV}{z:LJ},Reps K F xs (z.map j1)->xs=z.map V.int
 |_,[],.nil=>rfl|_,y::z,.cons h t=>by cases h;rw[QX,aN t]
theorem FP:∀(h:LJ),Reps K F (h.map V.int) (h.map j1)
 |[]=>.nil|y::h=>.cons (.int y) (FP h)
theorem C0{α:Type}{g:α->D}{u:LV}(Z:xs.Perm u):∀{l:List α},Reps K F xs (l.map g)->∃z:List α,z.Perm l/\Reps K F u (z.map g):=by
 induction Z with
 |nil=>intro l r;exact#[l,QBt _,r]|cons x _ m =>
  intro l r;cases l with
  |nil=>cases r|cons a l=>cases r with|cons h t=>let#[z,p,v]:=m t;exact#[a::z,p.cons _,.cons h v]
 |swap x y C =>
  intro l r;cases l with
  |nil=>cases r|cons a l=>cases l with
   |nil=>cases r with|cons h t=>cases t
   |cons b l=>cases r with
    |cons h t=>cases t with|cons A t=>exact#[b::a::l,QDB.swap _ _ _,.cons A (.cons h t)]
 |trans _ _ s q=>intro l r;let#[B,i,e]:=s r;let#[j,f,w]:=q e;exact#[j,f.trans i,w]
theorem bW{ls:List (LS)}(h:Reps K F xs (ls.map ED)):∀x∈xs,∃a,∃u:LS,x=.ref a/\uC K F a (u.map V.str):=by
 induction ls generalizing xs with
 |nil=>cases h;exact λ_ z=>nomatch z
 |cons l ls v =>
  cases h with
  |cons r t =>
   intro x h;rcases QL.mp h with e|h;subst e;cases r with|lst q r=>exact#[_,l,rfl,by rw[<- jK r];exact q]
   exact v t x h
theorem jo{P:Bi}(s:Ste F H S ρ F1 H1 S1 ρ1)(I:Rl K F1 H1 S1 ρ1 σ)(g:Tn K F1 H1 Y vs ts)(h:BZ P (ts.map T.vw) λz n=>Q z n ρ1)(k:cB K ws F H S ρ σ Q R):zu K P vs H1 R:=by
 cases P with
 |len =>
  rcases h with⟨z,e,h⟩| ⟨A,e,h⟩| ⟨A,e,h⟩
  let#[v,t,Z,rfl,rfl,e,r,_]:=g.one e;obtain rfl:=r.str e;exact .inl #[_,rfl,h.1,k.d s I (.int _) h.2];let#[v,t,Z,rfl,rfl,e,r,_]:=g.one e;let#[p,xs,_,rfl,b,f,_]:=r.ls I.fh e;exact .inr #[_,xs,rfl,.inl b,by rw[f.9];exact k.d s I (.int _) h];let#[v,t,Z,rfl,rfl,e,r,_]:=g.one e;let#[p,xs,_,rfl,b,f,_]:=r.tp I.fh e;exact .inr #[_,xs,rfl,.inr b,by rw[f.9];exact k.d s I (.int _) h]
 |any=>let#[A,bs,e,hb,q]:=h;let#[v,t,Z,rfl,rfl,e,r,_]:=g.one e;let#[p,xs,_,rfl,b,f,_]:=r.ls I.fh e;obtain rfl:=(f.un hb).1.bools;exact#[bs,b,k.d s I (.bl _) q]|all=>let#[A,bs,e,hb,q]:=h;let#[v,t,Z,rfl,rfl,e,r,_]:=g.one e;let#[p,xs,_,rfl,b,f,_]:=r.ls I.fh e;obtain rfl:=(f.un hb).1.bools;exact#[bs,b,k.d s I (.bl _) q]|list =>
  let#[x,A,ds,e,G,hb,q]:=h;let#[v,t,Z,rfl,rfl,e,r,_]:=g.one e;cases x with|ls A=>cases G;let#[p,xs,_,rfl,b,f,_]:=r.ls I.fh e;exact#[_,xs,rfl,.inl b,λl hl=>k.listD s I hl (f.un hb).1 q]|tp A=>cases G;let#[p,xs,_,rfl,b,f,_]:=r.tp I.fh e;exact#[_,xs,rfl,.inr b,λl hl=>k.listD s I hl (f.un hb).1 q]|_=>cases G
 |min=>let#[i,j,e,q]:=h;let#[v,w,t,u,Z1,Z2,rfl,rfl,e1,e2,M,r2,_]:=g.two e;obtain rfl:=M.int e1;obtain rfl:=r2.int e2;exact#[i,j,rfl,k.d s I (.int _) q]|sorted =>
  rcases h with⟨A,J,e,hb,m,q⟩| ⟨A,ls,e,hb,m,q⟩| ⟨A,ns,e,hb,m,q⟩
  let#[v,t,Z,rfl,rfl,e,r,_]:=g.one e;let#[p,xs,_,rfl,b,f,_]:=r.ls I.fh e;obtain rfl:=jK (f.un hb).1;exact#[_,rfl,.inl #[J,b,m,λl B hl C N=>k.listD s I hl (bP B) (q B C N)]];let#[v,t,Z,rfl,rfl,e,r,_]:=g.one e;let#[p,xs,_,rfl,b,f,_]:=r.ls I.fh e;have L:=(f.un hb).1;refine#[_,rfl,.inr (.inl #[xs,b,by rw[Reps.length L,QF];exact m,λx G=>?_,λl ys hl b=>?_])];let#[a,J,e,sq]:=bW L x G;exact#[a,J,e,I.fh.seq sq];let#[O,C,M]:=C0 b.symm L;exact k.listD s I hl M (q O C);let#[v,t,Z,rfl,rfl,e,r,_]:=g.one e;let#[p,xs,_,rfl,b,f,_]:=r.ls I.fh e;obtain rfl:=aN (f.un hb).1;exact#[_,rfl,.inr (.inr #[ns,b,m,λl E hl C N=>k.listD s I hl (FP E) (q E C N)])]
 |tuple=>let#[A,ds,e,hb,q]:=h;let#[v,t,Z,rfl,rfl,e,r,_]:=g.one e;let#[p,xs,_,rfl,b,f,_]:=r.ls I.fh e;exact#[_,xs,rfl,b,λl hl=>k.tupD s I hl (f.un hb).1 q]
theorem Dl{m:Mt}(s:Ste F H S ρ F1 H1 S1 ρ1)(I:Rl K F1 H1 S1 ρ1 σ)(b:Tr K F1 H1 sa v a Za)(f:Tn K F1 H1 Y vs ts)(h:Pr m a.vw (ts.map T.vw) λz n=>Q z n ρ1)(k:cB K ws F H S ρ σ Q R):Dd K m v vs H1 R:=by
 cases m with|lix=>let#[C,j,i,w,hb,hl,e,B,q]:=h;let#[p,xs,_,rfl,l,g,_]:=b.ls I.fh w;obtain rfl:=aN (g.un hb).1;let#[v,t,Z,rfl,rfl,e,r,_]:=f.one e;obtain rfl:=r.int e;exact#[p,j,i,rfl,l,hl,rfl,B,k.d s I (.int _) q]|index=>let#[z,y,i,u,w,e,A,q]:=h;obtain rfl:=b.str w;let#[v,t,Z,rfl,rfl,e,r,_]:=f.one e;obtain rfl:=r.str e;exact#[z,y,i,u,rfl,rfl,A,k.d s I (.int _) q]|_=>exact h.elim
theorem Ls{x:Vw}(h:x.isS=kf):∃z,x=.sc (.str z):=by
 cases x with
 |sc d=>cases d with|str z=>exact#[z,rfl]|_=>exact(QG h).elim
 |_=>exact(QG h).elim
theorem Ms{x:Vw}(h:x.isL=kf):∃ts,x=.ls ts:=by
 cases x with|ls ts=>exact#[ts,rfl]|_=>exact(QG h).elim
theorem Mr{m:Mt}(e:Same F1 H1)(w:Tr K F1 H1 sa v a Za)(h:O2 m a.vw=kf):K4 K m.ty v H1:=by
 cases m with|lix=>let#[ts,u]:=Ms h;let#[p,xs,_,rfl,b,_]:=w.ls e u;exact .inl #[rfl,_,b]|index=>let#[z,u]:=Ls (jA h).1;obtain rfl:=w.str u;rfl|_=>exact(QG (jA h).2).elim
end
end
inductive AV(K:QC)(F H:Hp):List Md->LV->List (T×Bool)->(ko->Prop)->(ko->Prop)->Prop where
 |nil {md:List Md}{W Y:mB}:(∀b,¬ W b)->AV K F H md [] [] W Y
 |chg {md:List Md}{v:V}{vs:LV}{x:T}{xs:List (T×Bool)}{W Y:mB}:(md.headD .fro).isMut=kf->AV K F H md.tail vs xs W Y->AV K F H md (v::vs) ((x,kf)::xs) W Y
 |new {md:List Md}{v:V}{vs:LV}{x:T}{xs:List (T×Bool)}{Z W W' Y:mB}:(md.headD .fro).isMut=kd->Tr K F H kf v x Z->AV K F H md.tail vs xs W' Y->(∀b,Z b->¬ W' b)->(∀b,W b↔Z b∨W' b) ->
   AV K F H md (v::vs) ((x,kf)::xs) W Y
 |tmp {md:List Md}{v:V}{vs:LV}{x:T}{xs:List (T×Bool)}{Z W Y:mB}:(md.headD .fro).isMut=kd->Tr K F H kd v x Z->(∀b,Z b->Y b)->AV K F H md.tail vs xs W Y ->
   AV K F H md (v::vs) ((x,kd)::xs) W Y
section
variable{K:QC}{F H o l:Hp}{S S1:Ft}{ρ g:vA}{σ:St}
section
variable{Y W:mB}{md:List Md}{vs:LV}{xs:List (T×Bool)}{ws:LN}{c:Hp}{w:Ft}{y:vA}
theorem AV.sub{u:mB}(h:AV K F H md vs xs W Y)(k:∀b,Y b->u b):AV K F H md vs xs W u:=by
 induction h with|nil h=>exact .nil h|chg h t x=>exact .chg h (x k)|new h r t n q x=>exact .new h r (x k) n q|tmp h r z t x=>exact .tmp h r (λb hb=>k b (z b hb)) (x k)
theorem AV.dom(h:AV K F H md vs xs W Y):∀b,W b->H b≠kv/\F b=none:=by
 induction h with|nil h=>exact λb hb=>Qe hb (h b)|chg h t x=>exact x|new h r t n q x=>exact λb hb=>((q b).mp hb).elim (r.dom b) (x b)|tmp h r z t x=>exact x
theorem AV.length(h:AV K F H md vs xs W Y):vs.9=xs.length:=by
 induction h with|nil h=>rfl|chg h t x=>simp[x]|new h r t n q x=>simp[x]|tmp h r z t x=>simp[x]
theorem AV.trs(h:AV K F H md vs xs W Y):(∀(i:Nat),(md.getD i .fro).isMut=kd)->NE xs=kf->Trs K F H kf vs (SF xs) W:=by
 induction h with
 |nil h=>exact λ_ _=>.nil h|@chg md _ _ _ _ _ _ h t u =>
  intro m;have:=m 0;cases md with|nil=>cases h|cons a r=>exact Qe h (by simpa using this)
 |@new md v vs x xs Z W k Y h r t n q u =>
  intro m e;simp only[NE,QZ]at e;exact .cons r (u (λi=>by cases md with|nil=>exact m i|cons a md=>exact m (i+1)) e.2) n q
 |@tmp md v vs x xs Z W Y h r z t u =>
  intro m e;simp only[NE,QZ]at e;refine .cons (S1:=λ_=>False) ?_ (u (λi=>by cases md with|nil=>exact m i|cons a md=>exact m (i+1)) e.2) (λ_ z=>z.elim) λb=>by simp
  cases x with
  |d x=>cases r with|d r n=>exact .d r λ_ z=>z
  |_=>exact Qe e.1 (by simp[BH,T.isD])
theorem Xl(i:Nat):((([]:List Md).getD i .fro).isMut)=false:=rfl
theorem AV.tn(h:AV K F H md vs xs W Y)(e:Same F o)(k:∀b,W b->o b=H b)(f:∀b,Y b->F b=kv->o b=kv)(i:md=[]):Tn K o H Y vs (CO xs):=by
 induction h with|nil h=>exact .nil|chg h t a=>subst i;cases h|@new md v vs x xs Z W m Y h r t n q a=>subst i;refine .cons (Z:=λ_=>False) ?_ (λb z=>z.elim) (a (λb hb=>k b ((q b).mpr (.inr hb))) f rfl);exact .d (r.kept e λb u hb j=>by rw[k b ((q b).mpr (.inl hb))];exact j) λ_ z=>z|@tmp md v vs x xs Z W Y h r z t a=>subst i;exact .cons (r.mono e λb hb=>#[rfl,f b (z b hb) (r.dom b hb).2]) z (a k f rfl)
structure AR(K:QC)(ws:LN)(md:List Md)(c:Hp)(w:Ft)(y:vA)(F H:Hp)(S:Ft)(ρ:vA)(vs:LV)(xs:List (T×Bool))(W Y:mB):Prop where
 av:AV K F H md vs xs W Y
 fr:∀b,W b->c b=kv∨U y w b
 tm:∀b,Y b->∃(i:Nat) (s:Sl),i∈ws/\ρ[i]?=jr (jr s)/\S i b
 nw:∀(i:Nat) s,ρ[i]?=jr (jr s)->∀b,W b->¬ S i b
theorem AR.held(h:AR K ws md c w y F H S ρ vs xs W Y):Held F H S ρ W:=#[h.av.dom,h.nw]
theorem AR.from{v u:Hp}{z:Ft}{x:vA}(s:Stp F H S ρ o l S1 g)(h:AR K ws md l S1 g v u z x vs xs W Y):AR K ws md H S ρ v u z x vs xs W Y :=
 #[h.av,λb hb=>by rcases h.fr b hb with q|q;exact .inl (s.dm b q);exact(s.uu b q).symm,h.tm,h.nw]
theorem AR.vars{us:LN}(h:AR K ws md c w y F H S ρ vs xs W Y)(k:∀i∈ws,i∈us):AR K us md c w y F H S ρ vs xs W Y :=
 #[h.av,h.fr,λb hb=>let#[i,s,z,x]:=h.tm b hb;#[i,s,k i z,x],h.nw]
theorem AR.frz{ws:LN}{vs:LV}{xs:List (T×Bool)}{W Y:mB}(s:Ste F H S ρ o l S1 g)(I:Rl K o l S1 g σ)(h:AR K ws [] H S ρ o l S1 g vs xs W Y) :
  ∃v,Ste F H S ρ v l S1 g/\Rl K v l S1 g σ/\Tn K v l Y vs (CO xs) /\
   ∀st k t' u,Tr K o l st k t' u->(∀b,u b->∃(i:Nat) (s:Sl),g[i]?=jr (jr s)/\S1 i b)->Tr K v l st k t' u:=by
 have x:=h.held;have f:=cH (H:=l) λb hb=>(x.dom b hb).2;refine#[oJ o l W,s.frz (λb hb=>(x.dom b hb).2) h.fr,I.frz x,h.av.tn f (λb hb=>nJ hb) (λb m n=>?_) rfl,λst k t' u r j=>r.mono f λb hb=>#[rfl,?_]];let#[i,a,_,e,p]:=h.tm b m;rw[rC λz=>h.nw i a e b z p];exact n;let#[i,a,q,e]:=j b hb;rw[rC λz=>x.nw i a q b z e];exact(r.dom b hb).2
noncomputable def aB:List Md->LV->LV
 |_,[]=>[]|md,v::vs=>match md.headD .fro with
  | .chg=>v::aB md.tail vs|_=>aB md.tail vs
noncomputable abbrev Bu(K:QC)(p:PX)(md:List Md)(F H:Hp)(S:Ft)(ρ:vA)(σ:St)(Q:List (T×Bool)->vA->Prop)(R:LV->Hp->Prop):Prop :=
 ∀vs u x z h xs W Y,Ste F H S ρ u x z h->Rl K u x z h σ->AR K (EF p) md H S ρ u x z h vs xs W Y->(aB md vs).map (λv=>jr (jr v))=(bA md p).map (λj=>σ[j]?)->Q xs h->R vs x
def lu(K:QC)(F H:Hp)(x:XD)(h:Option ko):Prop:=∃a fs,h=jr a/\H a=jr (.xd fs)/\xm (λ(p:Str×V) (q:Str×D)=>p.1=q.1/\Rep K F p.2 q.2) fs x.2
def IE(K:QC)(F H:Hp)(S:Ft)(ρ:vA)(E:XE)(a:XK):Prop:=∀x v u h k z,Stp F H S ρ u h k z->Same u h->lu K u h x v->E x->a x.1 v h
theorem IE.from{E:XE}{u:XK}(h:IE K F H S ρ E u)(s:Stp F H S ρ o l S1 g):IE K o l S1 g E u:=λx k e b a z v f r q=>h x k e b a z (s.trans v) f r q
theorem IE.never:IE K F H S ρ (λ_=>False) (λ_ _ _=>False):=λ_ _ _ _ _ _ _ _ _ z=>z
inductive ArgsR(K:QC)(F H:Hp)(Y:mB):List Md->LV->LT->Prop where
 |nil {md:List Md}:ArgsR K F H Y md [] []
 |chg {md:List Md}{v:V}{vs:LV}{t:T}{ts:LT}:md.headD .fro=.chg->ArgsR K F H Y md.tail vs ts->ArgsR K F H Y md (v::vs) (t::ts)
 |rd {md:List Md}{v:V}{vs:LV}{t:T}{ts:LT}{Z:mB}:md.headD .fro≠.chg->Tr K F H kd v t Z->(∀b,Z b->Y b)->ArgsR K F H Y md.tail vs ts->ArgsR K F H Y md (v::vs) (t::ts)
structure Frm(M:mB)(F H F' H':Hp):Prop where
 ff:Same F F'
 fh:Same F' H'
 hh:∀b u,H b=jr u->¬ M b->H' b=jr u
 dm:∀b,H' b=kv->H b=kv
 fn:∀b,F b=kv->F' b≠kv->M b∨H b=kv
def lift(K:QC)(P:PSp):Sp:=λvs H Q E=>∃(F:Hp) (u:LT) (M Y:mB),Same F H/\ArgsR K F H Y P.md vs u/\Trs K F H kf (aB P.md vs) (MB P.md u) M/\(∀b,Y b->¬ M b) /\
 P.run u (λr e=>∀v z h Z k,Frm M F H z h->Tr K z h kf v r Z->Trs K z h kf (aB P.md vs) e k->(∀b,Z b->¬ k b)->(∀b,Z b∨k b->M b∨H b=kv)->Q v h)
  (λx=>∀a z h,Frm M F H z h->lu K z h x a->E x.1 a h)
structure GOk(K:QC)(Γ:Ev)(Ψ:PEv):Prop where
 sp:∀f vs H Q E,lift K (Ψ.sp f) vs H Q E->Γ.sp f vs H Q E
 va:∀x d,Ψ.va x=jr d->∀F,Rep K F (Γ.va x) d
structure PSnd(K:QC)(Γ:Ev)(Ψ:PEv)(p:PX):Prop where
 e:∀{E:XE}{EK:XK}{F H:Hp}{S:Ft}{ρ:vA}{σ:St}{Q:TK}{R:VK},Rl K F H S ρ σ->IE K F H S ρ E EK->(pe Ψ p E).e ρ Q->cB K (EF p) F H S ρ σ Q R->(wp K Γ p EK).e σ H R
 t:∀{E:XE}{EK:XK}{F H:Hp}{S:Ft}{ρ:vA}{σ:St}{Q:Bool->vA->Prop}{R:Bool->Hp->Prop},Rl K F H S ρ σ->IE K F H S ρ E EK->(pe Ψ p E).t ρ Q->LH K F H S ρ σ Q R->(wp K Γ p EK).t σ H R
 a:∀{E:XE}{EK:XK}{F H:Hp}{S:Ft}{ρ:vA}{σ:St}{md:List Md}{Q:List (T×Bool)->vA->Prop}{R:LV->Hp->Prop},Rl K F H S ρ σ->IE K F H S ρ E EK->(∀j∈bA md p,∃v,σ[j]?=jr (jr v))->(pe Ψ p E).a md ρ Q->Bu K p md F H S ρ σ Q R->(wp K Γ p EK).a σ H R
end
end
section
variable{K:QC}{Γ:Ev}{Ψ:PEv}{E:XE}{c:XK}{F H A U:Hp}{S S1:Ft}{ρ o:vA}{σ:St}
section
variable{b a u:PX}{RR:LV->Hp->Prop}{P:List (T×Bool)->vA->Prop}{Y Z:mB}{t:T}{st:Bool}{ts:LT}{v:V}
theorem mq(N:PSnd K Γ Ψ b)(I:Rl K F H S ρ σ)(X:IE K F H S ρ E c){x:T}{P:T×Bool->vA->Prop}{RR:VK}(h:sq x ρ (cu (pe Ψ b E).e) P)
  (M:∀w p g S' k y m Z,Ste F H S ρ p g S' k->Rl K p g S' k σ->(∀st v l,Tr K F H st v x l->Tr K p g st v x l)->(x.isD=kd->k=ρ/\S'=S)->VR K (EF b) H S ρ p g S' k w y m Z->P (y,m) k->RR w g) :
  (wp K Γ b c).e σ H RR:=by
 unfold sq at h;cases W:x.isD with
 |true =>
  rw[W,Qc rfl]at h;refine N.e I X h λw p g S' k y m Z s C r q=>M w p g S' k y m Z s C (λst v l B=>?_) (λz=>(by rw[W]at z;cases z)) r q;cases x with
  |d x=>cases B with|d r n=>exact .d (r.mono s.ff) n
  |_=>cases W
 |false =>
  rw[W,QB (by simp)]at h;have X':IE K F H S (lockA ρ) E c:=λx dx F2 H2 S2 O Q f r q=>X x dx F2 H2 S ρ Q.unlockA f r q;refine N.e I.lockA X' h λw p g S' k y m Z s C r q=>?_;have kp:∀st v t l,Tr K F H st v t l->Tr K p g st v t l:=λst v t l B=>s.keep B λb _=>xD b;refine M w p g S ρ y m Z #[s.unlockA,λj t h=>#[t,h]] (I.unlockA s.toStp C.fh) (λst v l B=>kp st v _ l B) (λ_=>#[rfl,rfl]) #[r.tr,λe b hb=>?_,λe b hb=>?_,λe i L hi b hb z=>?_] q;exact .inl ((r.fr e b hb).elim id λz=>Qe z (xD b));let#[i,L,h1,J,G]:=r.tm e b hb;cases L with
  |own t=>let#[t0,h0]:=s.ow i t J;let#[_,_,e0]:=JB h0;cases e0|bor t =>
   cases W:t.isD with|true=>exact Qe G (C.isD J W)|false=>let#[g1,g2]:=s.bo i t J W;let#[R,g3,_]:=JB g1;rw[g2]at G;exact#[i,R,h1,g3,G]
  rcases r.fr e b hb with q|q
  ·exact(I.dom hi z).1 q
  exact Qe q (xD b)
theorem nq{md:List Md}(O:PSnd K Γ Ψ b)(I:Rl K F H S ρ σ)(X:IE K F H S ρ E c)(Q:∀j∈bA md b,∃v,σ[j]?=jr (jr v)){x:T}(h:sq x ρ ((pe Ψ b E).a md) P)
  (N:∀ws l e S' k L W Y,Ste F H S ρ l e S' k->Rl K l e S' k σ->(∀st v g,Tr K F H st v x g->Tr K l e st v x g)->(x.isD=kd->k=ρ/\S'=S)->AR K (EF b) md H S ρ l e S' k ws L W Y->(aB md ws).map (λv=>jr (jr v))=(bA md b).map (λj=>σ[j]?)->P L k->RR ws e) :
  (wp K Γ b c).a σ H RR:=by
 unfold sq at h;cases m:x.isD with
 |true =>
  rw[m,Qc rfl]at h;refine O.a I X Q h λw l e S' k y W Y s B r C q=>N w l e S' k y W Y s B (λst v g p=>?_) (λz=>(by rw[m]at z;cases z)) r C q;cases x with
  |d x=>cases p with|d r n=>exact .d (r.mono s.ff) n
  |_=>cases m
 |false =>
  rw[m,QB (by simp)]at h;have X':IE K F H S (lockA ρ) E c:=λx dx F2 H2 S2 R s2 f r q=>X x dx F2 H2 S ρ s2.unlockA f r q;refine O.a I.lockA X' Q h λw l e S' k y W Y s B r C q=>?_;have kp:∀st v t g,Tr K F H st v t g->Tr K l e st v t g:=λst v t g p=>s.keep p λb _=>xD b;refine N w l e S ρ y W Y #[s.unlockA,λj t h=>#[t,h]] (I.unlockA s.toStp B.fh) (λst v g p=>kp st v _ g p) (λ_=>#[rfl,rfl]) #[r.av,λb hb=>?_,λb hb=>?_,λi M hi b hb z=>?_] C q;exact .inl ((r.fr b hb).elim id λz=>Qe z (xD b));let#[i,M,h1,J,G]:=r.tm b hb;cases M with
  |own t=>let#[t0,h0]:=s.ow i t J;let#[_,_,e0]:=JB h0;cases e0|bor t =>
   cases m:t.isD with|true=>exact Qe G (B.isD J m)|false=>let#[g1,g2]:=s.bo i t J m;let#[s0,g3,_]:=JB g1;rw[g2]at G;exact#[i,s0,h1,g3,G]
  rcases r.fr b hb with q|q
  ·exact(I.dom hi z).1 q
  exact Qe q (xD b)
theorem YE(l:PSnd K Γ Ψ a)(I:Rl K F H S ρ σ)(X:IE K F H S ρ E c){P:TK}{RR:VK}(h:(pe Ψ a E).e ρ P)
  (j:∀v w z S' y x n Z,Ste F H S ρ w z S' y->Rl K w z S' y σ->IE K w z S' y E c->Tr K w z kd v (fA x n) Z->(BH x n=kf->Rep K w v x.er)->(∀b,Z b->∃(i:Nat) (s:Sl),i∈EF a/\y[i]?=jr (jr s)/\S' i b)->P x n y->RR v z) :
  (wp K Γ a c).e σ H RR:=by
 refine l.e I X h λv w z S' y x n Z s B r q=>?_;let#[C,p,k,W,g,m,f,_]:=r.frz s B;exact j v C z S' y x n p k W (X.from k.toStp) g m f q
theorem K5(ia:PSnd K Γ Ψ a)(ib:PSnd K Γ Ψ b)(I:Rl K F H S ρ σ)(X:IE K F H S ρ E c){P:T->Bool->T->Bool->vA->Prop}{RR:V->V->Hp->Prop}
  (h:(pe Ψ a E).e ρ λx n o=>sq (fA x n) o (cu (pe Ψ b E).e) λy k=>P x n y.1 y.2 k)
  (kk:∀v w l f S' z x n y m j Zb,Ste F H S ρ l f S' z->Rl K l f S' z σ->IE K l f S' z E c->Tr K l f kd v (fA x n) j->(∀b,j b->∃(i:Nat) (s:Sl),i∈EF a/\z[i]?=jr (jr s)/\S' i b)->Tr K l f kd w (fA y m) Zb->(∃p Z2,Same p f/\Tr K p f m w y Z2) ->
   P x n y m z->RR v w f):(wp K Γ a c).e σ H λv U=>(wp K Γ b c).e σ U λw B=>RR v w B:=by
 refine YE ia I X h λv A U S1 o x n j Q I1 X1 q _ M q1=>?_;refine mq ib I1 X1 q1 λw p B J k y m Z O L kp hs G q2=>?_;let#[F3,Z3,N,I3,R,_,_,k3]:=G.frz O L;have C:∀b,j b->∃(i:Nat) (s:Sl),i∈EF a/\k[i]?=jr (jr s)/\J i b:=by
  cases W:(fA x n).isD with
  |true =>
   intro b hb;exfalso;generalize fA x n=t at q W;cases q with|d r n=>exact n b hb|_=>cases W
  |false=>let#[e1,e2]:=hs W;rw[e1,e2];exact M
 have g:=Q.trans N;exact kk v w F3 B J k x n y m j Z3 g I3 (X.from g.toStp) (k3 _ _ _ _ (kp _ _ _ q) λb hb=>let#[i,s,_,h2]:=C b hb;#[i,s,h2]) C R #[p,Z,L.fh,G.tr] q2
theorem RX(e:PSnd K Γ Ψ u)(I:Rl K F H S ρ σ)(X:IE K F H S ρ E c)(h:(pe Ψ u E).a [] ρ P)
  (k:∀vs z y S' x xs Y,Ste F H S ρ z y S' x->Rl K z y S' x σ->IE K z y S' x E c->Tn K z y Y vs (CO xs)->(∀b,Y b->∃(i:Nat) (s:Sl),i∈EF u/\x[i]?=jr (jr s)/\S' i b)->P xs x->RR vs y):(wp K Γ u c).a σ H RR:=by
 refine e.a (md:=[]) I X (λj f=>by cases u<;>cases f) h λvs z y S' x xs W Y s l r _ q=>?_;let#[m,w,g,t,_]:=r.frz s l;exact k vs m y S' x xs Y w g (X.from w.toStp) t r.tm q
theorem Ap(ia:PSnd K Γ Ψ a)(ib:PSnd K Γ Ψ u)(I:Rl K F H S ρ σ)(X:IE K F H S ρ E c){P1:T->Bool->Prop}{P:T->Bool->List (T×Bool)->vA->Prop}{R1:V->Hp->Prop}{RR:V->LV->Hp->Prop}
  (h:(pe Ψ a E).e ρ λx n o=>P1 x n/\sq (fA x n) o ((pe Ψ u E).a []) λxs w=>P x n xs w)
  (k1:∀v f z x n k,Same f z->Tr K f z kd v (fA x n) k->P1 x n->R1 v z)
  (kk:∀v vs f z S' y x n xs k Y,Ste F H S ρ f z S' y->Rl K f z S' y σ->IE K f z S' y E c->Tr K f z kd v (fA x n) k->(∀b,k b->∃(i:Nat) (s:Sl),i∈EF a/\y[i]?=jr (jr s)/\S' i b)->Tn K f z Y vs (CO xs) ->
   P x n xs y->RR v vs z):(wp K Γ a c).e σ H λv U=>R1 v U/\(wp K Γ u c).a σ U λvs p=>RR v vs p:=by
 refine YE ia I X h λv A U S1 o x n k M C X1 l _ G #[R,Q]=>#[k1 v A U x n k C.fh l R,?_]
 refine nq ib C X1 (λj hj=>by cases u<;>cases hj) Q λvs F2 p B w xs W Y L I2 kp hs N _ O=>?_;let#[F3,J,I3,tn,k3]:=N.frz L I2;have q:∀b,k b->∃(i:Nat) (s:Sl),i∈EF a/\w[i]?=jr (jr s)/\B i b:=by
  cases m:(fA x n).isD with
  |true =>
   intro b hb;exfalso;generalize fA x n=t at l m;cases l with|d r n=>exact n b hb|_=>cases m
  |false=>let#[e1,e2]:=hs m;rw[e1,e2];exact G
 have g:=M.trans J;exact kk v vs F3 p B w x n xs k Y g I3 (X.from g.toStp) (k3 _ _ _ _ (kp _ _ _ l) λb hb=>let#[i,s,_,h2]:=q b hb;#[i,s,h2]) q tn O
def OZ(K:QC)(F H:Hp)(Y:mB):Item->T->Prop
 | .one v,t=>∃Z,Tr K F H kd v t Z/\∀b,Z b->Y b|.tup vs,t=>∃h,t=.d (.tuple h)/\Reps K F vs h
theorem OZ.mono{it:Item}(h:OZ K F H Y it t)(e:Same F A)(k:∀b,Y b->U b=H b/\A b=kv):OZ K A U Y it t:=by
 cases it with|one v=>let#[Z,r,z]:=h;exact#[Z,r.mono e λb hb=>k b (z b hb),z]|tup y=>let#[ts,x,r]:=h;exact#[ts,x,r.mono e]
theorem IW{xs:LV}(h:Trs K F H st xs ts Z)(z:∀b,Z b->Y b):xm (OZ K F H Y) (xs.map .one) ts :=
 Trs.ind (R:=λ_ xs ts Z=>(∀b,Z b->Y b)->xm (OZ K F H Y) (xs.map .one) ts) (λ_ _=>.nil) (λh _ _ q x z=>.cons #[_,h.weak,λb hb=>z b ((q b).mpr (.inl hb))] (x λb hb=>z b ((q b).mpr (.inr hb)))) h z
theorem kZ{Y:mB}{α:Type}(f:α->V)(g:α->D)(h:∀x,Rep K F (f x) (g x)):∀(l:List α),xm (OZ K F H Y) (l.map λx=>.one (f x)) (l.map λx=>T.d (g x))
 |[]=>.nil|x::r=>.cons #[λ_=>False,.d (h x) λ_ z=>z,λ_ z=>z.elim] (kZ f g h r)
theorem Tr.lsS(f:Same F H)(h:Tr K F H st v t Z)(e:t.vw=.ls ts):∃a vs S',v=.ref a/\uC K H a vs/\Trs K F H kd vs ts S'/\(∀b,S' b->Z b)/\∀y x,Same F y->Same y x->(∀b,Z b->x b=H b)->uC K x a vs:=by
 cases h with
 |d r n =>
  cases r with|lst q r=>injection e with e;subst e;exact#[_,_,_,rfl,f.seq q,Trs.of_reps r,λb hb=>hb.elim,λy x w z _=>(w.trans z).seq q]|dct _ _ _=>exact(OH e).elim|_=>cases e
 |lst h _ r n q=>injection e with e;subst e;exact#[_,_,_,rfl,uC.of h,r.weak,λb hb=>(q b).mpr (.inr hb),λy x _ _ k=>uC.of ((k _ ((q _).mpr (.inl rfl))).trans h)]|tup=>cases e|dct=>cases e|lstF h r n=>injection e with e;subst e;exact#[_,_,_,rfl,f.seq h,Trs.of_reps r,λb hb=>hb.elim,λy x w z _=>(w.trans z).seq h]
theorem Tr.tpS(f:Same F H)(h:Tr K F H st v t Z)(e:t.vw=.tp ts):∃a vs S',v=.ref a/\rD K H a vs/\Trs K F H kd vs ts S'/\(∀b,S' b->Z b)/\∀y x,Same F y->Same y x->(∀b,Z b->x b=H b)->rD K x a vs:=by
 cases h with
 |d r n =>
  cases r with|tup q r=>injection e with e;subst e;exact#[_,_,_,rfl,f.tupl q,Trs.of_reps r,λb hb=>hb.elim,λy x w z _=>(w.trans z).tupl q]|dct _ _ _=>exact(vM e).elim|_=>cases e
 |tup h _ r n q=>injection e with e;subst e;exact#[_,_,_,rfl,rD.of h,r.weak,λb hb=>(q b).mpr (.inr hb),λy x _ _ k=>rD.of ((k _ ((q _).mpr (.inl rfl))).trans h)]|lst=>cases e|lstF=>cases e|dct=>cases e
theorem Tr.seqS(f:Same F H)(h:Tr K F H st v t Z)(e:t.vw.seq=jr ts):∃a vs sz,v=.ref (Src.adr sz)/\rO K H sz vs/\(∃S',Trs K F H kd vs ts S')/\a=Src.adr sz/\∀g k,Same F g->Same g k->(∀b,Z b->k b=H b)->rO K k sz vs:=by
 generalize ev:t.vw=w at e;cases w with|ls i=>cases e;let#[a,vs,S',rfl,z,x,_,y]:=h.lsS f ev;exact#[a,vs,.l a,rfl,z,#[S',x],rfl,y]|tp i=>cases e;let#[a,vs,S',rfl,z,x,_,y]:=h.tpS f ev;exact#[a,vs,.t a,rfl,z,#[S',x],rfl,y]|_=>cases e
end
mutual
theorem EW{F:Hp}:∀{k:NK}{v:V},Vo K F k v->Rep K F v (tD k)
 | .s x,v,h=>by cases(show v=.str x from h);exact .str x|.t ks,v,#[a,xs,e,q,p]=>by subst e;exact .tup q (ky_reps p)
theorem ky_reps{F:Hp}:∀{ks:List NK}{vs:LV},KyVs K F ks vs->Reps K F vs (tDs ks)
 |[],vs,h=>by cases(show vs=[] from h);exact .nil|k::ks,vs,#[x,r,e,p,q]=>by subst e;exact .cons (EW p) (ky_reps q)
end
theorem xZ{Y:mB}:∀{kvs:List KE}{ds:List D},HG K F kvs->Reps K F (kvs.map (·.2.2)) ds->xm (OZ K F H Y) (kvs.map λp=>.tup [.ref p.2.1,p.2.2]) (((kvs.map λp=>tD p.1).zip ds).map λp=>T.d (.tuple [p.1,p.2]))
 |[],_,_,.nil=>.nil|p::r,_,hk,.cons h t=>by simp only[QX,Wl];exact .cons #[[_,_],rfl,.cons (EW (hk p QD).1) (.cons h .nil)] (xZ (λp x=>hk p (QE _ x)) t)
theorem vZ{Y:mB}:∀{kvs:List KE},HG K F kvs->xm (OZ K F H Y) (kvs.map λp=>.one (.ref p.2.1)) ((kvs.map λp=>tD p.1).map T.d)
 |[],_=>.nil|p::r,hk=>.cons #[λ_=>False,.d (EW (hk p QD).1) λ_ z=>z,λ_ z=>z.elim] (vZ λp h=>hk p (QE _ h))
theorem zZ{Y:mB}:∀{xs x:LV}{ds es:List D},Reps K F xs ds->Reps K F x es->xm (OZ K F H Y) ((xs.zip x).map λp=>.tup [p.1,p.2]) ((ds.zip es).map λp=>T.d (.tuple [p.1,p.2]))
 |_,_,_,_,.nil,_=>by simp only[List.zip_nil_left,wa];exact .nil|_,_,_,_,.cons _ _,.nil=>by simp only[List.zip_nil_right,wa];exact .nil|_,_,_,_,.cons h t,.cons h' t'=>by simp only[Wl,QX];exact .cons #[[_,_],rfl,.cons h (.cons h' .nil)] (zZ t t')
theorem gU{Y:mB}:∀{xs:LV}{ds:List D}(_:Reps K F xs ds) (g:Nat->Int) (n:Nat),xm (OZ K F H Y) ((xs.zipIdx n).map λp=>.tup [.int (g p.2),p.1]) ((ds.zipIdx n).map λp=>T.d (.tuple [.int (g p.2),p.1]))
 |_,_,.nil,g,n=>by simp only[List.zipIdx_nil,wa];exact .nil|_,_,.cons h t,g,n=>by simp only[List.zipIdx_cons,QX];exact .cons #[[_,_],rfl,.cons (.int _) (.cons h .nil)] (gU t g (n+1))
theorem IM{α x:Type}{R:α->x->Prop}:∀{l z:List α}{m y:List x},xm R l m->xm R z y->xm R (l++z) (m++y)
 |_,_,_,_,.nil,h=>h|_,_,_,_,.cons r t,h=>.cons r (IM t h)
theorem AM{α h:Type}{R:α->h->Prop}:∀{l:List α}{m:List h},xm R l m->xm R l.reverse m.reverse
 |_,_,.nil=>.nil|_,_,.cons r t=>by rw[wv,wv];exact IM (AM t) (.cons r .nil)
theorem cK{R:ItK}{Y:mB}{vs:LV}{ts:LT}{RD:LT->Prop}{RR:List Item->(Hp->Prop)->Hp->Prop}(f:Same F H)(B:Tn K F H Y vs ts)(h:NB R (ts.map T.vw) RD)
  (k:∀xs O st,xm (OZ K F H Y) xs O->(∀m l,Same F m->Same m l->(∀b,Y b->l b=H b)->st l)->RD O->RR xs st H):cC K R vs H RR:=by
 cases R with
 |val =>
  rcases h with⟨J,e,h⟩| ⟨J,e,h⟩| ⟨G,J,e,h⟩
  let#[v,t,Z,rfl,rfl,e,r,z]:=B.one e;let#[p,xs,S',rfl,M,s,L,W]:=r.lsS f e;exact .inl #[xs,M,k _ _ _ (IW s λb hb=>z b (L b hb)) (λm l y g q=>W m l y g λb hb=>q b (z b hb)) h];let#[v,t,Z,rfl,rfl,e,r,z]:=B.one e;let#[p,xs,S',rfl,M,s,L,W]:=r.tpS f e;exact .inr (.inl #[xs,M,k _ _ _ (IW s λb hb=>z b (L b hb)) (λm l y g q=>W m l y g λb hb=>q b (z b hb)) h]);let#[v,t,Z,rfl,rfl,y,C,E]:=B.one e;let#[a,o,xs,_,rfl,ha,dk,s,_,W]:=C.dc f y;let#[A,X,rfl,rfl,rfl,h4,_]:=dk;exact .inr (.inr #[A,X,ha,k _ _ _ (vZ h4) (λm l y g q=>W m l y g λb hb=>q b (E b hb)) h])
 |rng1=>let#[j,e,h]:=h;let#[v,t,Z,rfl,rfl,e,r,_]:=B.one e;obtain rfl:=r.int e;exact#[h.1,k _ _ _ (kZ (λ(i:Nat)=>.int (i:Int)) (λ(i:Nat)=>.int (i:Int)) (λc=>.int _) _) (λ_ _ _ _ _=>trivial) h.2]|rev=>let#[J,e,h]:=h;let#[v,t,Z,rfl,rfl,e,r,z]:=B.one e;let#[p,xs,S',rfl,M,s,L,W]:=r.lsS f e;have q:=AM (IW s λb hb=>z b (L b hb));rw[<- WW]at q;exact#[xs,M,k _ _ _ q (λm l y g q=>W m l y g λb hb=>q b (z b hb)) h]|zip2=>let#[ts,J,I,es,e,N,g4,q]:=h;let#[v,w,t,u,Z,Z',rfl,rfl,y,g,C,r2,E,y2]:=B.two e;let#[a,xs,_,rfl,hq,s,_,W]:=C.lsS f y;let#[b,O,_,rfl,hq2,P,_,S]:=r2.lsS f g;exact#[xs,O,hq,hq2,k _ _ _ (zZ (s.un N).1 (P.un g4).1) (λm l y g q=>#[W m l y g λb hb=>q b (E b hb),S m l y g λb hb=>q b (y2 b hb)]) q]|enum=>let#[x,J,I,e,g1,N,q]:=h;let#[v,t,Z,rfl,rfl,y,C,E]:=B.one e;let#[a,xs,sz,rfl,hq,#[_,s],_,W]:=C.seqS f (by rw[y];exact g1);exact#[sz,xs,rfl,hq,k _ _ _ (gU (s.un N).1 (λi=>(i:Int)) 0) (λm l y g q=>W m l y g λb hb=>q b (E b hb)) q]|itm =>
  rcases h with⟨G,J,I,e,N,q⟩| ⟨e,q⟩
  rotate_left
  let#[v,t,Z,rfl,rfl,y,C,E]:=B.one e;let#[_,s]:=C.sc y;generalize ed:PyData.dict []=d at s;cases s with
  |@dct b a o G vs I h Q r =>
   have ez:G.zip I=[]:=by injection ed with ed;exact ed.symm
   have hl:G.9=I.length:=by rw[Q.len,Reps.length r]
   have ek:G=[]:=by
    cases G with
    |nil=>rfl|cons k G =>
     cases I with|nil=>cases hl|cons d I=>cases ez
   subst ek;have eo:∃A,o=.dT A []:=by
    cases b with
    |true =>
     let#[A,X,y,g,_]:=Q;cases X with|nil=>exact#[A,y]|cons p r=>cases g
    |false =>
     rcases Q with⟨X,n,_,g,_⟩| ⟨A,y,_⟩
     cases X with|nil=>exact Qe rfl n|cons p r=>cases g
     exact#[A,y]
   let#[A,rfl]:=eo;exact#[A,[],f _ _ h,k _ _ _ .nil (λm l y g _=>g _ _ (y _ _ h)) q]
  |_=>cases ed
  let#[v,t,Z,rfl,rfl,y,C,E]:=B.one e;let#[a,o,xs,_,rfl,ha,dk,s,_,W]:=C.dc f y;let#[A,X,rfl,rfl,rfl,h4,_]:=dk;exact#[A,X,ha,k _ _ _ (xZ h4 (s.un N).1) (λm l y g q=>W m l y g λb hb=>q b (E b hb)) q]
end
section
variable{i j:Nat}{Z:mB}
def PH(S:Ft)(i:Nat)(Z:mB):Ft:=λj=>if j=i then Z else S j
theorem yB{S:Ft}:PH S i Z i=Z:=Qc rfl
theorem ZA{S:Ft}(h:j≠i):PH S i Z j=S j:=QB h
theorem lA{α:Type}{l:List α}{x y:α}(h:(l.set i x)[j]?=jr y):(i=j/\y=x/\i<l.9)∨(i≠j/\l[j]?=jr y):=by rw[wR]at h;by_cases e:i=j;subst e;rw[Qc rfl]at h;by_cases hl:i<l.9;rw[Qc hl]at h;cases h;exact .inl #[rfl,rfl,hl];rw[QB hl]at h;cases h;rw[QB e]at h;exact .inr #[e,h]
theorem rY{α:Type}{l:List α}{x:α}(h:i<l.9):(l.set i x)[i]?=jr x:=by rw[wR,Qc rfl,Qc h]
theorem bE{α:Type}{l:List α}{x:α}(h:i≠j):(l.set i x)[j]?=l[j]?:=by rw[wR,QB h]
end
section
variable{K:QC}{Γ:Ev}{Ψ:PEv}{E:XE}{L:XK}{F H D G:Hp}{S S1:Ft}{ρ C:vA}{σ:St}
section
variable{Z Y:mB}{A X:Hp}{S':Ft}{g:vA}{o:St}{st:Bool}{B:Tg}{k:Nat}{l:List Bool}
theorem Rl.setB(I:Rl K F H S ρ σ)(i:Nat){v:V}{t:T}(r:Tr K F H kd v t Z)(m:∀(j:Nat) u,j≠i->ρ[j]?=jr (jr (.own u))->∀b,Z b->¬ S j b):Rl K F H (PH S i Z) (ρ.set i (jr (.bor t))) (σ.set i (jr v)) where
 fh:=I.fh
 len:=by simpa using I.len
 sl:=λj s h=>by
  rcases lA h with⟨rfl,e,hl⟩| ⟨w,h⟩
  cases e;exact#[v,rY (by rw[<- I.len];exact hl),by rw[yB];exact r];rw[bE w,ZA (qC w)];exact I.sl j s h
 dj:=λj k z s n x y b hb hk=>by
  rcases lA x with⟨_,e,_⟩| ⟨f,x⟩
  cases e;rw[ZA (qC f)]at hb;rcases lA y with⟨e,_,_⟩| ⟨a,y⟩
  subst e;rw[yB]at hk;exact m j z n x b hk hb;rw[ZA (qC a)]at hk;exact I.dj j k z s n x y b hb hk
structure Bd(J:LN)(F H:Hp)(S:Ft)(ρ:vA)(σ:St)(A X:Hp)(S':Ft)(g:vA)(o:St):Prop where
 ff:Same F A
 hh:Same H X
 fn:∀b,F b=kv->A b≠kv->H b=kv
 out:∀j,j∉J->g[j]?=ρ[j]?/\S' j=S j/\o[j]?=σ[j]?
 inn:∀j t,j∈J->g[j]?≠jr (jr (.own t))
theorem Bd.U{J:LN}(h:Bd J F H S ρ σ A X S' g o){b:ko}(u:U g S' b):L3.U ρ S b:=by let#[i,t,x,z]:=u;by_cases y:i∈J;exact Qe x (h.inn i t y);let#[w,v,_]:=h.out i y;rw[w]at x;rw[v]at z;exact#[i,t,x,z]
theorem Bd.dm{J:LN}(h:Bd J F H S ρ σ A X S' g o)(b:ko)(e:X b=kv):H b=none:=h.hh.free e
theorem tY{Y:mB}(s:∀b,Y b->¬ U ρ S b):∀(w:LN) {vs:LV}{ts:LT}{S1:Ft}{C g:vA}{x:St}{J:LN},(∀i∈w,i∈J)->Rl K F H S1 C x->(∀b,U C S1 b->U ρ S b)->Tn K F H Y vs ts->zD w ts C=jr g ->
  ∃o S',dB w vs x=jr o/\Rl K F H S' g o/\(∀j,j∉J->g[j]?=C[j]?/\S' j=S1 j/\o[j]?=x[j]?)/\(∀j t,g[j]?=jr (jr (.own t))->j∉w/\C[j]?=jr (jr (.own t)))
 |[],_,_,S1,C,g,x,J,hJ,I,hu,.nil,h=>by simp only[zD,Qv]at h;subst h;exact#[x,S1,rfl,I,λ_ _=>#[rfl,rfl,rfl],λj t h=>#[(by simp),h]]|[],_,_,_,_,_,_,_,_,_,_,.cons _ _ _,h=>by simp[zD]at h|_::_,_,_,_,_,_,_,_,_,_,_,.nil,h=>by simp[zD]at h|i::w,_,_,S1,C,g,x,J,hJ,I,hu,.cons (v:=v) (t:=t) (Z:=Z) r z tl,h=>by
  simp only[zD]at h;have nu:∀b,Z b->¬ U C S1 b:=λb hb u=>s b (z b hb) (hu b u);have I2:=I.setB i r λj u _ y b hb N=>nu b hb #[j,u,y,N];have p:∀b,U (C.set i (jr (.bor t))) (PH S1 i Z) b->U ρ S b:=λb #[j,u,q,W]=>by
   rcases lA q with⟨_,e,_⟩| ⟨n,q⟩
   cases e;rw[ZA (qC n)]at W;exact hu b #[j,u,q,W]
  let#[o,S',R,Q,P,O]:=tY s w (λj y=>hJ j (QE _ y)) I2 p tl h;refine#[o,S',R,Q,λj y=>?_,λj u y=>?_];let#[f,a,M]:=P j y;have n:i≠j:=λe=>y (e▸hJ i QD);rw[bE n]at f M;rw[ZA (qC n)]at a;exact#[f,a,M];let#[f,a]:=O j u y;rcases lA a with⟨_,e,_⟩| ⟨n,a⟩
  cases e;exact#[λm=>(QL.mp m).elim (λe=>n e.symm) f,a]
theorem Tn.of_trs{vs:LV}{ts:LT}(h:Trs K F H st vs ts Z)(z:∀b,Z b->Y b):Tn K F H Y vs ts :=
 Trs.ind (R:=λ_ vs ts Z=>(∀b,Z b->Y b)->Tn K F H Y vs ts) (λ_ _=>.nil) (λh _ _ q x z=>.cons h.weak (λb hb=>z b ((q b).mpr (.inl hb))) (x λb hb=>z b ((q b).mpr (.inr hb)))) h z
theorem zV{it:Item}{t:T}{QP:vA->Prop}{RP:St->Hp->Prop}(I:Rl K F H S ρ σ)(hy:∀b,Y b->¬ U ρ S b)(r:OZ K F H Y it t)(h:OP B t ρ QP)
  (k:∀m f w x O,Bd B.ix F H S ρ σ w x O m f->Rl K w x O m f->QP m->RP f x):bindI K B it σ H RP:=by
 have nm:∀(i:Nat) {v:V}{t:T}{Z:mB}{w x:Hp}{O:Ft},Same F w->Same H x->(∀b,F b=kv->w b≠kv->H b=kv)->Rl K w x O ρ σ->O=S->Tr K w x kd v t Z->(∀b,Z b->¬ U ρ S b)->QP (ρ.set i (jr (.bor t)))->B=.nm i->RP (σ.set i (jr v)) x:=by
  intro i v t Z w x O R e2 e3 I2 hS r hz q ht;subst hS ht;refine k _ _ w x (PH O i Z) #[R,e2,e3,λj N=>?_,λj u N hu=>?_] (I2.setB i r λj u _ N b hb hs=>hz b hb #[j,u,N,hs]) q;have n:i≠j:=λe=>N (by subst e;exact QJ.mpr rfl);exact#[bE n,ZA (qC n),bE n];have e:j=i:=QJ.mp N;subst e;rcases lA hu with⟨_,e,_⟩| ⟨n,_⟩
  cases e;exact n rfl
 have tp:∀(y:LN) {W:LV}{P:LT}{x:Hp}{g:vA},Same H x->B=.tp y->Tn K F x Y W P->zD y P ρ=jr g->QP g->∃o,dB y W σ=jr o/\RP o x:=by intro y W P x g e2 ht r e q;subst ht;let#[o,S',g1,g2,g3,g4]:=tY hy y (J:=y) (λi hi=>hi) (I.same e2) (λb u=>u) r e;exact#[o,g1,k _ _ F x S' #[.refl _,e2,λb h z=>Qe h z,g3,λj u N hu=>(g4 j u hu).1 N] g2 q]
 cases it with
 |one v =>
  let#[Z,r,z]:=r;cases B with|nm i=>exact nm i (.refl _) (.refl _) (λb h z=>Qe h z) I rfl r (λb hb=>hy b (z b hb)) h rfl|tp y=>have Q:(match t.vw with | .tp P=>∃g,zD y P ρ=jr g/\QP g|_=>False):=h;split at Q;rename_i P e;let#[g,R,q]:=Q;let#[a,W,S',rfl,M,rp,z2]:=r.tp I.fh e;let#[o,g1,g2]:=tp y (.refl _) rfl (Tn.of_trs rp λb hb=>z b (z2 b hb)) R q;exact#[W,o,M,g1,g2];exact Q.elim
 |tup W =>
  let#[ds,rfl,rd]:=r;cases B with|nm i=>intro p M;refine nm i (PB (I.fh.free M)) (PB M) (λb h1 Q=>?_) (I.newT M (.tup W)) rfl (.d (S:=λ_=>False) (.tup (rD.of YA) (rd.mono (PB (I.fh.free M)))) λ_ z=>z) (λb z=>z.elim) h rfl;by_cases hb:b=p;rw[hb];exact M;rw[xA hb]at Q;exact Qe h1 Q|tp y=>intro X s;let#[g,R,q]:=h;exact tp y s rfl (Tn.of_trs (Trs.of_reps (st:=kd) rd) λb hb=>hb.elim) R q
noncomputable def Ke(k:Nat)(S:Ft):Ft:=λi=>if i<k then λ_=>False else S (i - k)
theorem KP:∀(m:List Bool) (ρ:vA) (i:Nat) s,(dC m ρ)[i]?=jr (jr s)->ρ[i]?=jr (jr s)/\m.getD i kd=kd
 |[],ρ,i,s,h=>by
  have e:dC [] ρ=ρ:=by cases ρ<;>rfl
  rw[e]at h;exact#[h,rfl]
 |b::m,[],i,s,h=>by simp[dC]at h|b::m,v::ρ,0,s,h=>by
  cases b with|true=>simp[dC]at h|false=>simp[dC]at h;simp[h]
 |b::m,v::ρ,i+1,s,h=>by simp only[dC,w9]at h;let#[y,x]:=KP m ρ i s h;exact#[by simpa using y,by simpa using x]
theorem JP:∀(m:List Bool) (σ:St) (i:Nat) v,σ[i]?=jr (jr v)->m.getD i kd=kd->(MC m σ)[i]?=jr (jr v)
 |[],σ,i,v,h,_=>by
  have e:MC [] σ=σ:=by cases σ<;>rfl
  rw[e];exact h
 |b::m,[],i,v,h,_=>by simp at h|b::m,w::σ,0,v,h,hb=>by
  have:b=false:=by simpa using hb
  subst this;simpa[MC]using h
 |b::m,w::σ,i+1,v,h,hb=>by simp only[MC,w9];exact JP m σ i v (by simpa using h) (by simpa using hb)
theorem ZP:∀(m:List Bool) (ρ:vA),(dC m ρ).9=ρ.9
 |[],ρ=>by cases ρ<;>rfl|_::_,[]=>rfl|b::m,v::ρ=>by simp[dC,ZP m ρ]
theorem sG{ρ:vA}{i:Nat}{s:Sl}(h:(DO k l ρ)[i]?=jr (jr s)):k<=i/\ρ[i - k]?=jr (jr s)/\l.getD (i - k) kd=false:=by unfold DO at h;rcases QBX i k with z|z;rw[qS (by simpa using z),WA]at h;split at h<;>cases h;rw[Qu (by simpa using z)]at h;simp only[wI]at h;let#[y,x]:=KP l ρ _ s h;exact#[z,y,x]
theorem Rl.ent(I:Rl K F H S ρ σ)(k:Nat)(l:List Bool):Rl K F H (Ke k S) (DO k l ρ) (tJ k l σ) where
 fh:=I.fh
 len:=by simp[DO,tJ,ZP,bK,I.len]
 sl:=λi s h=>by let#[u,z,y]:=sG h;let#[v,a,w]:=I.sl _ s z;refine#[v,?_,?_];unfold tJ;rw[Qu (by simpa using u)];simp only[wI];exact JP l σ _ v a y;unfold Ke;rw[QB ()];exact w
 dj:=λi j t s n z y b hb x=>by let#[p,f,_]:=sG z;let#[m,e,_]:=sG y;unfold Ke at hb x;rw[QB ()]at hb x;exact I.dj (i - k) (j - k) t s () f e b hb x
theorem tZ(b:ko):¬ U (DO k l (lockA ρ)) S' b:=λ#[i,t,h,_]=>by let#[_,x,_]:=sG h;let#[_,_,e]:=JB x;cases e
theorem Paired.get_of{α v:Type}{R:α->v->Prop}{xs:List α}{u:List v}(h:xm R xs u):∀{i:Nat}{x:α},xs[i]?=jr x->∃y,u.drop i=y::u.drop (i+1)/\R x y:=by
 induction h with
 |nil=>intro i x e;simp at e|@cons x y xs u h t a =>
  intro i z e;cases i with|zero=>simp at e;subst e;exact#[y,by simp,h]|succ i=>let#[w,f,b]:=a (i:=i) (by simpa using e);exact#[w,by simpa using f,b]
structure Pur(F H A X:Hp):Prop where
 ff:Same F A
 hh:Same H X
 fn:∀b,F b=kv->A b≠kv->H b=kv
theorem Pur.trans{u y:Hp}(a:Pur F H D G)(b:Pur D G u y):Pur F H u y:=#[a.ff.trans b.ff,a.hh.trans b.hh,λx h z=>by by_cases q:D x=kv;exact a.hh.free (b.fn x q z);exact a.fn x h q]
theorem Pur.ste(p:Pur F H D G):Ste F H S ρ D G S ρ:=#[#[p.ff,λb u h _=>p.hh b u h,λb h=>p.hh.free h,λb h z=>.inr (p.fn b h z),λb h=>.inl h,λ_ _ h _=>#[h,rfl]],λ_ t h=>#[t,h]]
theorem Pur.rl(p:Pur F H D G)(f:Same D G)(I:Rl K F H S ρ σ):Rl K D G S ρ σ:=#[f,I.len,λi s e=>by
 let#[v,y,h]:=I.sl i s e;exact#[v,y,h.mono p.ff λb hb=>by
  let#[x,z]:=h.dom b hb;refine#[?_,?_];cases e:H b with|none=>exact Qe e x|some u=>exact p.hh b u e
  by_cases q:D b=kv
  ·exact q
  exact Qe (p.fn b z q) x],I.dj]
theorem Stp.pur(s:Stp F H S ρ D G S' g)(n:∀b,¬ U ρ S b):Pur F H D G:=#[s.ff,λb u h=>s.hh b u h (n b),λb h z=>(s.fn b h z).elim (λq=>Qe q (n b)) id]
theorem Pur.trs(p:Pur F H D G){v:LV}{t:LT}(h:Trs K F H st v t Z):Trs K D G st v t Z:=h.mono p.ff λb hb=>by
  let#[x,y]:=h.dom b hb;refine#[?_,?_];cases e:H b with|none=>exact Qe e x|some u=>exact p.hh b u e
  by_cases q:D b=kv
  ·exact q
  exact Qe (p.fn b y q) x
theorem n9{ws:LN}{N:Nat}{c:vA->(Bool->vA->Prop)->Prop}{e:vA->TK->Prop}{tc:TT}{te:TE}{us:LN}
  (ic:∀{F H:Hp}{S:Ft}{ρ:vA}{σ:St}{Q:Bool->vA->Prop}{R:Bool->Hp->Prop},Rl K F H S ρ σ->c ρ Q->LH K F H S ρ σ Q R->tc σ H R)
  (ie:∀{F H:Hp}{S:Ft}{ρ:vA}{σ:St}{Q:TK}{R:VK},Rl K F H S ρ σ->e ρ Q->cB K us F H S ρ σ Q R->te σ H R)
  {F0 H0:Hp}{S0:Ft}{P:vA}(s:Ste F0 H0 S0 P F H S ρ) (I:Rl K F H S ρ σ) {xs:List Item}{M:LT}{st:Hp->Prop}(pr:xm (OZ K F H Y) xs M) (hyd:∀b,Y b->H b≠kv/\F b=kv) (hst:∀A X,Same F A->Same A X->(∀b,Y b->X b=H b)->st X) {Q:TK}{R:VK}
  (h:PC (tG B (DO N l (lockA ρ)) c e) M [] λM=>Q (.lst M) kf ρ) (k:cB K ws F0 H0 S0 P σ Q R) :
  RZ K xs st B tc te (tJ N l σ) H R:=by
 refine p9 ?_;have len:=qP pr;have yk:∀{A X:Hp},Pur F H A X->∀b,Y b->X b=H b/\A b=none:=λ{A X} p b hb=>by
  let#[d1,d2]:=hyd b hb;refine#[?_,?_];cases e:H b with|none=>exact Qe e d1|some u=>exact p.hh b u e
  by_cases q:A b=kv
  ·exact q
  exact Qe (p.fn b d2 q) d1
 refine#[λi m X=>∃A w W,Pur F H A X/\Same A X/\Trs K A X kf m w W/\(∀b,W b->H b=kv)/\PC (tG B (DO N l (lockA ρ)) c e) (M.drop i) w λM=>Q (.lst M) kf ρ,
  #[F,[],λ_=>False,#[.refl _,.refl _,λb h z=>Qe h z],I.fh,.nil λ_ z=>z,λ_ z=>z.elim,by simpa using h],?_,?_,?_]
 rintro i m X _ ⟨A,w,W,p,f,_,_,_⟩;exact hst A X p.ff f λb hb=>(yk p b hb).1;rintro i x m G hx ⟨D,w,W,p1,f1,J,hw,hc⟩;let#[y,hd,ry]:=Paired.get_of pr hx;rw[hd]at hc;unfold PC at hc;unfold tG at hc;have I1:Rl K D G (Ke N S) (DO N l (lockA ρ)) (tJ N l σ):=((p1.rl f1 I).lockA).ent N l;refine zV I1 (λb _=>tZ b) (ry.mono p1.ff (yk p1)) hc λρ2 σ2 F2 H2 S2 O I2 hc=>?_;have p2:Pur D G F2 H2:=#[O.ff,O.hh,O.fn]
 have nu2:∀b,¬ U ρ2 S2 b:=λb u=>tZ b (O.U u);refine ic I2 hc λb F3 H3 S3 ρ3 s3 I3 q=>?_;have p3:Pur F2 H2 F3 H3:=s3.toStp.pur nu2;have nu3:∀b,¬ U ρ3 S3 b:=λb #[j,t,h1,_]=>by let#[t0,h0]:=s3.ow j t h1;by_cases hj:j∈B.ix;exact O.inn j t0 hj h0;rw[(O.out j hj).1]at h0;let#[_,h1,_]:=sG h0;let#[_,_,e]:=JB h1;cases e
 have a:=p1.trans (p2.trans p3);cases b with
 |false=>exact#[F3,w,W,a,I3.fh,p3.trs (p2.trs J),hw,q]|true =>
  refine ie I3 q λv F4 H4 S4 ρ4 z n Z s4 I4 r4 #[hk,hl,hc]=>?_;have p4:Pur F3 H3 F4 H4:=s4.toStp.pur nu3;have ra4:=p4.trs (p3.trs (p2.trs J));have rz:∃Z',Tr K F4 H4 kf v z Z'/\∀b,Z' b->H3 b=none:=by
   cases n with
   |true=>exact#[Z,r4.tr,λb hb=>(r4.fr rfl b hb).elim id λu=>Qe u (nu3 b)]|false =>
    cases z with
    |d x =>
     have tr:=r4.tr;cases tr with|d r n=>exact#[λ_=>False,.d r λ_ z=>z,λ_ z=>z.elim]
    |_=>exact Qe hk (by simp[BH,T.isD])
  let#[Z',rz,fz]:=rz;refine#[by rw[J.9];exact hl,F4,_,λb=>W b∨Z' b,a.trans p4,I4.fh,ra4.append (Trs.one rz) λb hb hz=>?_,λb hb=>?_,hc];have q1:=(J.dom b hb).1;exact q1 ((p2.trans p3).hh.free (fz b hz));rcases hb with hb|hb
  ·exact hw b hb
  exact a.hh.free (fz b hb)
 rintro m X ⟨A,w,W,p,f,J,hw,hc⟩;rw[len,List.drop_length]at hc;unfold PC at hc;have I':=p.rl f I;refine#[by rw[J.9];exact hc.1,λq hq=>?_];refine cB.list (k.from s) (p.ste) I' hq J (λb hb=>.inl (hw b hb)) #[J.dom,λi sl hi b hb z=>?_] hc.2;exact(I.dom hi z).1 (hw b hb)
end
end
section
variable{K:QC}{Γ:Ev}{Ψ:PEv}{E:XE}{p:XK}{F H l c:Hp}{S S1:Ft}{ρ y:vA}{σ:St}
theorem Tr.shal{v:V}{u t:T}{Z:mB}(h:Tr K F H kd v u Z)(e:FF u=jr t):Tr K F H kd v t Z:=by
 unfold FF at e;split at e;rename_i ts ev;cases x:SD ts with
 |none=>rw[x]at e;cases e|some f =>
  rw[x]at e;injection e with e;subst e;cases h with
  |d r n =>
   cases r with|lst q r=>injection ev with ev;subst ev;rw[gA]at x;injection x with x;subst x;exact .lstF q r n|dct _ _ _=>exact(OH ev).elim|_=>cases ev
  |lst k w z b a=>injection ev with ev;subst ev;show Tr K F H kd _ (.lst (f.map T.d)) Z;rw[<- fM x];exact .lst k w z b a|tup=>cases ev|dct=>cases ev|lstF k w z=>injection ev with ev;subst ev;rw[gA]at x;injection x with x;subst x;exact .lstF k w z
 split at e
 ·injection e with e;subst e;exact h
 cases e
theorem AV.pass{Y:mB}{md:List Md}{vs:LV}{xs:List (T×Bool)}{W:mB}(h:AV K F H md vs xs W Y)(e:Same F l)(k:∀b,W b->l b=H b)(G:∀b,Y b->F b=kv->l b=kv) :
  ∀{g ts:LT},XA md xs g=jr ts->ArgsR K l H Y md vs ts/\MB md ts=g:=by
 induction h with
 |nil h =>
  intro g ts w;cases g with|nil=>simp only[XA,Qv]at w;subst w;exact#[.nil,rfl]|cons _ _=>simp[XA]at w
 |@chg md v vs x xs W Y h t C =>
  intro g ts w;have f:md.headD .fro=.chg:=by generalize md.headD .fro=m at h;cases m<;>first|rfl|cases h
  unfold XA at w;rw[f]at w;cases g with
  |nil=>cases w|cons o g =>
   cases a:XA md.tail xs g with|none=>simp only[a,w4]at w;cases w|some B=>simp only[a,qE,Qv]at w;subst w;let#[s,j]:=C k G a;refine#[.chg f s,?_];unfold MB;rw[f];simp only[j]
 |@new md v vs x xs Z W J Y h r t n q C =>
  intro g ts w;have X:Tr K l H kd v (.d x.er) (λ_=>False):=.d (r.kept e λb u hb I=>by rw[k b ((q b).mpr (.inl hb))];exact I) λ_ z=>z;have i:=@C (λb hb=>k b ((q b).mpr (.inr hb))) G;unfold XA at w;cases f:md.headD .fro with
  |chg=>rw[f]at h;cases h|fro =>
   simp only[f,fA]at w;cases a:XA md.tail xs g with|none=>simp only[a,w4]at w;cases w|some B=>simp only[a,qE,Qv]at w;subst w;let#[s,j]:=i a;exact#[.rd (by rw[f];simp) X (λ_ z=>z.elim) s,by unfold MB;rw[f];exact j]
  |shal =>
   simp only[f,fA]at w;cases A:FF (.d x.er) with
   |none=>simp only[A]at w;cases w|some u =>
    simp only[A]at w;cases a:XA md.tail xs g with|none=>simp only[a,w4]at w;cases w|some B=>simp only[a,qE,Qv]at w;subst w;let#[s,j]:=i a;exact#[.rd (by rw[f];simp) (X.shal A) (λ_ z=>z.elim) s,by unfold MB;rw[f];exact j]
  |bor =>
   simp only[f,fA]at w;cases a:XA md.tail xs g with|none=>simp only[a,w4]at w;cases w|some B=>simp only[a,qE,Qv]at w;subst w;let#[s,j]:=i a;exact#[.rd (by rw[f];simp) X (λ_ z=>z.elim) s,by unfold MB;rw[f];exact j]
 |@tmp md v vs x xs Z W Y h r z t C =>
  intro g ts w;have X:Tr K l H kd v x Z:=r.mono e λb hb=>#[rfl,G b (z b hb) (r.dom b hb).2]
  have i:=@C k G;unfold XA at w;cases f:md.headD .fro with
  |chg=>rw[f]at h;cases h|fro =>
   simp only[f,fA]at w;cases x with
   |d x =>
    cases a:XA md.tail xs g with|none=>simp only[a,w4]at w;cases w|some B=>simp only[a,qE,Qv]at w;subst w;let#[s,j]:=i a;exact#[.rd (by rw[f];simp) X z s,by unfold MB;rw[f];exact j]
   |_=>cases w
  |shal =>
   simp only[f,fA]at w;cases A:FF x with
   |none=>simp only[A]at w;cases w|some u =>
    simp only[A]at w;cases a:XA md.tail xs g with|none=>simp only[a,w4]at w;cases w|some B=>simp only[a,qE,Qv]at w;subst w;let#[s,j]:=i a;exact#[.rd (by rw[f];simp) (X.shal A) z s,by unfold MB;rw[f];exact j]
  |bor =>
   simp only[f,fA]at w;cases a:XA md.tail xs g with|none=>simp only[a,w4]at w;cases w|some B=>simp only[a,qE,Qv]at w;subst w;let#[s,j]:=i a;exact#[.rd (by rw[f];simp) X z s,by unfold MB;rw[f];exact j]
theorem pD:∀(J:LN) (ρ:vA) (i:Nat) s,(clear J ρ)[i]?=jr (jr s)->i∉J/\ρ[i]?=jr (jr s)
 |[],ρ,i,s,h=>#[(by simp),h]|j::J,ρ,i,s,h=>by
  unfold clear at h;let#[u,z]:=pD J _ i s h;rcases lA z with⟨_,e,_⟩| ⟨n,x⟩
  cases e;exact#[λm=>(QL.mp m).elim (λe=>n e.symm) u,x]
theorem LP:∀(J:LN) (ρ:vA),(clear J ρ).9=ρ.9
 |[],_=>rfl|j::J,ρ=>by unfold clear;rw[LP J];simp
theorem Rl.drop(I:Rl K F H S ρ σ)(hl:y.9=ρ.9)(h:∀(i:Nat) s,y[i]?=jr (jr s)->ρ[i]?=jr (jr s)):Rl K F H S y σ :=
 #[I.fh,hl.trans I.len,λi s e=>I.sl i s (h i s e),λi j t s n z x=>I.dj i j t s n (h i _ z) (h j _ x)]
theorem yE:∀{J:LN}{ρ:vA}{x:LT},MA J ρ=jr x->x.9=J.9/\∀(i:Nat) j,J[i]?=jr j->∃t,x[i]?=jr t/\ρ[j]?=jr (jr (.own t))
 |[],ρ,x,h=>by simp only[MA,Qv]at h;subst h;exact#[rfl,λi j e=>by simp at e]|j::J,ρ,x,h=>by
  unfold MA at h;split at h;rename_i t e;cases z:MA J ρ with
  |none=>rw[z]at h;cases h|some f =>
   rw[z]at h;injection h with h;subst h;let#[w,v]:=yE z;refine#[by simp[w],λi k hk=>?_];cases i with|zero=>simp at hk;subst hk;exact#[t,rfl,e]|succ i=>let#[u,b,a]:=v i k (by simpa using hk);exact#[u,by simpa using b,a]
  cases h
theorem Rl.trs(I:Rl K F H S ρ σ):∀{J:LN}{w:LT}{vs:LV},J.Nodup->MA J ρ=jr w->vs.map (λv=>jr (jr v))=J.map (λj=>σ[j]?)->Trs K F H kf vs w (λb=>∃j∈J,S j b)
 |[],w,vs,_,h,hv=>by
  simp only[MA,Qv]at h;subst h;cases vs with|nil=>exact .nil λb #[j,m,_]=>by simp at m|cons _ _=>simp at hv
 |j::J,w,vs,nd,h,hv=>by
  unfold MA at h;split at h;rename_i t e;cases a:MA J ρ with
  |none=>rw[a]at h;cases h|some r =>
   rw[a]at h;injection h with h;subst h;cases vs with
   |nil=>simp at hv|cons v vs =>
    simp only[QX,Wm]at hv;let#[f,q,o]:=I.sl j _ e;rw[q]at hv;have:v=f:=by simpa using hv.1
    subst this;have x:=Ql.mp nd;refine .cons o (Rl.trs I x.2 a hv.2) (λb hb #[k,hk,z]=>?_) λb=>?_;let#[i,n]:=we.mp hk;let#[u,_,g]:=(yE a).2 i k n;exact I.dj j k t _ (λz=>x.1 (z▸hk)) e g b hb z;constructor
    ·rintro⟨k,hk,z⟩
     rcases QL.mp hk with e|e;subst e;exact .inl z;exact .inr #[k,e,z]
    rintro(z|⟨k,hk,z⟩)
    ·exact#[j,QD,z]
    exact#[k,QE _ hk,z]
  cases h
theorem Rl.setO(I:Rl K F H S ρ σ)(i:Nat){v:V}{t:T}{Z:mB}(hv:σ[i]?=jr (jr v))(r:Tr K F H kf v t Z)(w:∀(j:Nat) s,j≠i->ρ[j]?=jr (jr s)->∀b,Z b->¬ S j b):Rl K F H (PH S i Z) (ρ.set i (jr (.own t))) σ where
 fh:=I.fh
 len:=by simpa using I.len
 sl:=λj s h=>by
  rcases lA h with⟨rfl,e,hl⟩| ⟨g,h⟩
  cases e;exact#[v,hv,by rw[yB];exact r];rw[ZA (qC g)];exact I.sl j s h
 dj:=λj k a s n u x b hb hk=>by
  rcases lA u with⟨e,_,_⟩| ⟨f,u⟩
  subst e;rw[yB]at hb;rcases lA x with⟨e,_,_⟩| ⟨z,x⟩
  exact n e;rw[ZA (qC z)]at hk;exact w k s (qC z) x b hb hk;rw[ZA (qC f)]at hb;rcases lA x with⟨e,_,_⟩| ⟨z,x⟩
  subst e;rw[yB]at hk;exact w j _ n u b hk hb;rw[ZA (qC z)]at hk;exact I.dj j k a s n u x b hb hk
theorem KM:∀{J:LN}{w:LT}{vs:LV}{M:mB}{S1:Ft}{y x:vA},J.Nodup->Rl K F H S1 y σ->Trs K F H kf vs w M->vs.map (λv=>jr (jr v))=J.map (λj=>σ[j]?)->Held F H S1 y M->vC J w y=jr x ->
  ∃f,Rl K F H f x σ/\(∀i,i∉J->x[i]?=y[i]?/\f i=S1 i)/\∀i∈J,∀s,x[i]?=jr (jr s)->(∃t,s=.own t)/\∀b,f i b->M b
 |[],w,vs,M,S1,y,x,nd,I,r,hv,hm,h=>by
  cases w with|nil=>simp only[vC,Qv]at h;subst h;exact#[S1,I,λ_ _=>#[rfl,rfl],λi u=>by simp at u]|cons _ _=>simp[vC]at h
 |j::J,w,vs,M,S1,y,x,nd,I,r,hv,hm,h=>by
  cases r with
  |nil _=>simp[vC]at h|@cons _ v t vs ts _ Z Q G C n q =>
   simp only[vC]at h;simp only[QX,Wm]at hv;have a:=Ql.mp nd;have R:=I.setO j hv.1.symm G λk s _ hk b hb=>hm.nw k s hk b ((q b).mpr (.inl hb));have W:Held F H (PH S1 j Z) (y.set j (jr (.own t))) Q:=#[λb hb=>hm.dom b ((q b).mpr (.inr hb)),λi s u b hb z=>by
    rcases lA u with⟨rfl,_,_⟩| ⟨X,u⟩
    rw[yB]at z;exact n b z hb;rw[ZA (qC X)]at z;exact hm.nw i s u b ((q b).mpr (.inr hb)) z]
   let#[f,P,B,O]:=KM a.2 R C hv.2 W h;refine#[f,P,λi u=>?_,λi u s Y=>?_];have A:j≠i:=λe=>u (e▸QD);let#[o,g]:=B i λm=>u (QE _ m);rw[bE A]at o;rw[ZA (qC A)]at g;exact#[o,g];rcases QL.mp u with e|e
   ·subst e
    let#[o,g]:=B i a.1;rw[o]at Y;rcases lA Y with⟨_,e,_⟩| ⟨X,_⟩
    injection e with e;refine#[#[t,e],λb hb=>?_];rw[g,yB]at hb;exact(q b).mpr (.inl hb);exact Qe rfl X
   let#[N,L]:=O i e s Y;exact#[N,λb hb=>(q b).mpr (.inr (L b hb))]
theorem Le{f:Str}{as:PX}(g:GOk K Γ Ψ)(ia:PSnd K Γ Ψ as)(I:Rl K F H S ρ σ)(X:IE K F H S ρ E p){Q:TK}{R:VK}{ws:LN}(h:(pe Ψ (.call f as) E).e ρ Q)(k:cB K ws F H S ρ σ Q R):(wp K Γ (.call f as) p).e σ H R:=by
 let#[os,ho,nd,h]:=h;generalize hJ:bA (Ψ.sp f).md as=J at ho nd h;have C:∀j∈J,∃t,ρ[j]?=jr (jr (.own t)):=λj A=>by let#[i,hi]:=we.mp A;let#[t,_,e]:=(yE ho).2 i j hi;exact#[t,e]
 have I0:Rl K F H S (clear J ρ) σ:=I.drop (LP J ρ) λi s e=>(pD J ρ i s e).2;have P:∀b,U (clear J ρ) S b->U ρ S b:=λb #[i,t,h1,O]=>#[i,t,(pD J ρ i _ h1).2,O]
 have X0:IE K F H S (clear J ρ) E p:=λx dx F2 H2 S2 L m ff r q=>X x dx F2 H2 (λ_ _=>False) [] #[m.ff,λb u e n=>m.hh b u e λz=>n (P b z),m.dm,λb e z=>(m.fn b e z).imp (P b) id,λb #[i,t,e,_]=>by simp at e,λj t e=>by simp at e] ff r q;have hm:∀j∈bA (Ψ.sp f).md as,∃v,σ[j]?=jr (jr v):=λj A=>by let#[t,e]:=C j (hJ▸A);let#[v,h1,_]:=I.sl j _ e;exact#[v,h1]
 show(wp K Γ as p).a σ H λvs c=>Γ.sp f vs c R p;refine ia.a I0 X0 hm h λvs l c S1 y xs W Y s1 I1 r1 mv q1=>?_;rw[hJ]at mv;let#[ts,hp,q1]:=q1;have hw:=r1.held;have m:=s1.frz (λb hb=>(hw.dom b hb).2) r1.fr;have I2:=I1.frz hw;have yk:∀b,Y b->l b=kv->oJ l c W b=none:=λb hy hf=>by let#[i,sl,_,O,h3]:=r1.tm b hy;rw[rC λz=>r1.nw i sl O b z h3];exact hf
 let#[ar,mt]:=r1.av.pass (cH λb hb=>(hw.dom b hb).2) (λb hb=>nJ hb) yk hp;generalize oJ l c W=F2 at m I2 yk ar;have M0:=I.trs nd ho mv;have hM:Held F H S (clear J ρ) (λb=>∃j∈J,S j b):=#[λb #[j,A,hb]=>let#[t,e]:=C j A;I.dom e hb,λi s e b #[j,A,hb] z=>by let#[G,B]:=pD J ρ i s e;let#[t,et]:=C j A;exact I.dj j i t s (λq=>G (q▸A)) et B b hb z]
 have N:=hM.step m.toStp I2;have M2:Trs K F2 c kf (aB (Ψ.sp f).md vs) (MB (Ψ.sp f).md ts) (λb=>∃j∈J,S j b):=by
  rw[mt];refine M0.mono m.ff λb hb=>?_;refine#[?_,(N.dom b hb).2];cases e:H b with|none=>exact Qe e (hM.dom b hb).1|some u=>exact m.hh b u e (hM.nu b hb)
 refine g.sp f vs c R p #[F2,ts,_,Y,I2.fh,ar,M2,λb hy hb=>?_,?_];let#[i,sl,_,O,h3]:=r1.tm b hy;exact N.nw i sl O b hb h3
 ·have up:∀b,(∃j∈J,S j b)->U ρ S b:=λb #[j,A,hb]=>let#[t,e]:=C j A;#[j,t,e,hb]
  have lk:∀b,(∃j∈J,S j b)∨c b=kv->U ρ S b∨H b=none:=λb hb=>hb.imp (up b) (m.dm b);refine(Ψ.sp f).mono ?_ ?_ q1
  rotate_left
  rintro x qx dx F' H' o xr;refine X x dx F' H' (λ_ _=>False) [] #[m.ff.trans o.ff,λb u e n=>o.hh b u (m.hh b u e λz=>n (P b z)) λz=>n (up b z),λb e=>m.dm b (o.dm b e),λb e z=>?_,λb #[i,t,e,_]=>by simp at e,λj t e=>by simp at e] o.fh xr qx;by_cases q:F2 b=kv;exact lk b (o.fn b q z);exact(m.fn b e q).imp (P b) id;rintro r os' ⟨L,hput,q⟩ v F' H' Z M' o tr trs dz hf;have I3:Rl K F' H' S1 y σ:=#[o.fh,I2.len,λi s e=>by
   let#[w,g1,g2]:=I2.sl i s e;refine#[w,g1,g2.mono o.ff λb hb=>?_];let#[d1,d2]:=g2.dom b hb;have nM:¬ ∃j∈J,S j b:=λz=>N.nw i s e b z hb;refine#[?_,?_];cases e:c b with|none=>exact Qe e d1|some u=>exact o.hh b u e nM
   by_cases z:F' b=kv
   ·exact z
   exact((o.fn b d2 z).elim nM d1).elim,I2.dj]
  have nw3:∀b,(∃j∈J,S j b)∨c b=kv->∀(i:Nat) s,y[i]?=jr (jr s)->¬ S1 i b:=λb hb i s e z=>by rcases hb with hb|hb;exact N.nw i s e b hb z;exact(I2.dom e z).1 hb
  have hM':Held F' H' S1 y M':=#[trs.dom,λi s e b hb=>nw3 b (hf b (.inr hb)) i s e]
  let#[S2,I4,g2,g3]:=KM nd I3 trs mv hM' hput;have M:∀i s,L[i]?=jr (jr s)->(i∈J/\(∃t,s=.own t)/\∀b,S2 i b->M' b)∨(i∉J/\y[i]?=jr (jr s)/\S2 i=S1 i):=λi s e=>by by_cases hi:i∈J;exact .inl #[hi,g3 i hi s e];let#[G,B]:=g2 i hi;exact .inr #[hi,G▸e,B]
  have st:Ste F H S ρ F' H' S2 L:=#[#[m.ff.trans o.ff,λb u e n=>o.hh b u (m.hh b u e λz=>n (P b z)) λz=>n (up b z),λb e=>m.dm b (o.dm b e),λb e z=>by
    by_cases q:F2 b=kv;exact lk b (o.fn b q z);exact(m.fn b e q).imp (P b) id,
   λb #[i,t,h1,O]=>by
    rcases M i _ h1 with⟨_,_,e⟩| ⟨_,G,B⟩
    exact lk b (hf b (.inr (e b O)));rw[B]at O;exact(m.uu b #[i,t,G,O]).imp (P b) id,
   λj t e hd=>by
    rcases M j _ e with⟨_,⟨t',z⟩,_⟩| ⟨_,G,B⟩
    cases z;let#[b1,b2]:=m.bo j t G hd;exact#[(pD J ρ j _ b1).2,B.trans b2]],
   λj t e=>by
    rcases M j _ e with⟨A,_,_⟩| ⟨_,G,B⟩
    exact C j A;let#[t0,e0]:=m.ow j t G;exact#[t0,(pD J ρ j _ e0).2]]
  refine k v F' H' S2 L r kf Z st I4 #[tr,λ_ b hb=>?_,λz=>(by cases z),λ_ i s e b hb z=>?_] q;exact(lk b (hf b (.inl hb))).symm;rcases M i s e with⟨_,_,B⟩| ⟨_,G,B⟩
  ·exact dz b hb (B b z)
  rw[B]at z;exact nw3 b (hf b (.inl hb)) i s G z
end
section
variable{K:QC}{Γ:Ev}{Ψ:PEv}{E:XE}{O:XK}{F H F1 H1:Hp}{S S1:Ft}{ρ Q:vA}{σ:St}
section
variable{j i:Nat}{t s:T}{b:Bool}{G C:Hp}{B:Ft}{Y:vA}{W P Z:mB}{vs L:LV}{ts us:LT}{a:ko}{M o:HO}{v A J:V}{x y:D}{ks:List D}{R:Hp->Prop}{N:T->Prop}
theorem fC(z:ρ[j]?=jr (jr (.own t))){s:Sl}(h:(ρ.set j (jr (.bor t)))[i]?=jr (jr s)):(i=j/\s=.bor t)∨(i≠j/\ρ[i]?=jr (jr s)):=by
 rcases lA h with⟨rfl,e,_⟩| ⟨n,h⟩
 injection e with e;exact .inl #[rfl,e];exact .inr #[qC n,h]
theorem Rl.lock1(I:Rl K F H S ρ σ)(h:ρ[j]?=jr (jr (.own t))):Rl K F H S (ρ.set j (jr (.bor t))) σ where
 fh:=I.fh
 len:=by simpa using I.len
 sl:=λi s e=>by
  rcases fC h e with⟨rfl,rfl⟩| ⟨_,e⟩
  let#[v,g,f]:=I.sl i _ h;exact#[v,g,f.weak];exact I.sl i s e
 dj:=λi k u s n p m=>by
  rcases fC h p with⟨_,z⟩| ⟨r,w⟩
  cases z;rcases fC h m with⟨q,_⟩| ⟨_,l⟩
  ·exact I.dj i k u _ n w (q▸h)
  exact I.dj i k u s n w l
theorem Rl.lock1U(I:Rl K F H S ρ σ)(w:ρ[j]?=jr (jr (.own t)))(b:ko)(hb:S j b):¬ U (ρ.set j (jr (.bor t))) S b:=λ#[i,u,h,k]=>by
 rcases fC w h with⟨_,z⟩| ⟨n,h⟩
 cases z;exact I.dj i j u _ n h w b k hb
theorem lock1U(k:ρ[j]?=jr (jr (.own t))){b:ko}(h:U (ρ.set j (jr (.bor t))) S b):U ρ S b:=by
 let#[i,u,w,e]:=h;rcases fC k w with⟨_,z⟩| ⟨n,w⟩
 cases z;exact#[i,u,w,e]
theorem IE.lock1(X:IE K F H S ρ E O)(w:ρ[j]?=jr (jr (.own t))):IE K F H S (ρ.set j (jr (.bor t))) E O:=λx k G C B Y h f r q =>
 X x k G C (λ_ _=>False) [] #[h.ff,λb u e n=>h.hh b u e λz=>n (lock1U w z),h.dm,λb e z=>(h.fn b e z).imp (lock1U w) id,λb #[i,t,e,_]=>by simp at e,λj t e=>by simp at e] f r q
theorem vU(I:Rl K F H S ρ σ)(h:ρ[j]?=jr (jr (.own t)))(s:Ste F H S (ρ.set j (jr (.bor t))) G C B Y)(l:Rl K G C B Y σ){b:ko}(hb:S j b) :
  ∀(i:Nat) w,i≠j->Y[i]?=jr (jr w)->¬ B i b:=λi w n e z=>by
 cases w with
 |own u=>rcases s.uu b ⟨i,u,e,z⟩ with q|q;exact I.lock1U h b hb q;exact(I.dom h hb).1 q
 |bor u =>
  cases f:u.isD with
  |true=>exact l.isD e f z|false =>
   let#[k,g]:=s.bo i u e f;rw[g]at z;rcases fC h k with⟨q,_⟩| ⟨_,k⟩
   exact n q;exact I.dj j i t _ (qC n) h k b hb z
theorem SI{t':T}{v0:V}{m:Hp}{Z':mB}(I:Rl K F H S ρ σ)(w:ρ[j]?=jr (jr (.own t)))(hv:σ[j]?=jr (jr v0))(s:Ste F H S (ρ.set j (jr (.bor t))) G C B Y)(l:Rl K G C B Y σ)
  (hH:∀b u,C b=jr u->¬ S j b->m b=jr u) (dm:∀b,m b=kv->C b=kv) (r:Tr K G m kf v0 t' Z') (hz:∀b,Z' b->S j b∨W b∨C b=kv) (hw:Held G C B Y W) (frW:∀b,W b->H b=kv∨U (ρ.set j (jr (.bor t))) S b) :
  Ste F H S ρ G m (PH B j Z') (Y.set j (jr (.own t')))/\Rl K G m (PH B j Z') (Y.set j (jr (.own t'))) σ/\∀b,S j b∨W b∨C b=kv->∀(i:Nat) h,i≠j->Y[i]?=jr (jr h)->¬ B i b:=by
 have nw:∀b,S j b∨W b∨C b=kv->∀(i:Nat) h,i≠j->Y[i]?=jr (jr h)->¬ B i b:=λb hb i h n e z=>by rcases hb with hb|hb|hb;exact vU I w s l hb i h n e z;exact hw.nw i h e b hb z;exact(l.dom e z).1 hb
 have uj:∀b,S j b->U ρ S b:=λb hb=>#[j,t,w,hb]
 have lk:∀b,S j b∨W b∨C b=kv->U ρ S b∨H b=none:=λb hb=>by rcases hb with hb|hb|hb;exact .inl (uj b hb);exact(frW b hb).symm.imp (lock1U w) id;exact .inr (s.dm b hb)
 have fS:∀b,S j b->G b=none:=λb hb=>by
  by_cases q:G b=kv;exact q;rcases s.fn b (I.dom w hb).2 q with z|z
  ·exact Qe z (I.lock1U w b hb)
  exact Qe z (I.dom w hb).1
 have fh:Same G m:=λb u e=>hH b u (l.fh b u e) λz=>by rw[fS b z]at e;cases e
 have I3:Rl K G m B (Y.set j kv) σ:=#[fh,by simpa using l.len,λi h e=>by
   rcases lA e with⟨_,z,_⟩| ⟨n,e⟩
   cases z;let#[v,p,f]:=l.sl i h e;refine#[v,p,f.mono (.refl _) λb hb=>#[?_,(f.dom b hb).2]];cases eb:C b with|none=>exact Qe eb (f.dom b hb).1|some u=>exact hH b u eb λz=>vU I w s l z i h (qC n) e hb,
  λi k u h n g X=>by
   rcases lA g with⟨_,z,_⟩| ⟨_,g⟩
   cases z;rcases lA X with⟨_,z,_⟩| ⟨_,X⟩
   ·cases z
   exact l.dj i k u h n g X]
 have I4:=I3.setO j hv r λi h n e b hb=>by
  rcases lA e with⟨_,z,_⟩| ⟨_,e⟩
  cases z;exact nw b (hz b hb) i h n e
 have es:(Y.set j kv).set j (jr (.own t'))=Y.set j (jr (.own t')):=by simp
 rw[es]at I4;refine#[#[#[s.ff,λb u e n=>hH b u (s.hh b u e λz=>n (lock1U w z)) λz=>n (uj b z),λb e=>s.dm b (dm b e),λb e z=>(s.fn b e z).imp (lock1U w) id,λb #[i,u,p,f]=>?_,λi u e hd=>?_],λi u e=>?_],I4,nw];rcases lA p with⟨rfl,_,_⟩| ⟨n,p⟩
 ·rw[yB]at f
  exact lk b (hz b f)
 rw[ZA (qC n)]at f;exact(s.uu b #[i,u,p,f]).imp (lock1U w) id;rcases lA e with⟨rfl,z,_⟩| ⟨n,e⟩
 ·cases z
 let#[g,X]:=s.bo i u e hd;rcases fC w g with⟨z,_⟩| ⟨_,g⟩
 exact Qe z.symm n;exact#[g,by rw[ZA (qC n)];exact X];rcases lA e with⟨rfl,_,_⟩| ⟨n,e⟩
 ·exact#[t,w]
 let#[t0,e0]:=s.ow i u e;rcases fC w e0 with⟨_,z⟩| ⟨_,e0⟩
 cases z;exact#[t0,e0]
theorem Trs.erase{st:Bool}{S:mB}{k:Nat}(h:Trs K F H st vs ts S)(e:ts[k]?=jr t):∃v P1 u,vs[k]?=jr v/\Tr K F H st v t P1/\Trs K F H st (vs.eraseIdx k) (ts.eraseIdx k) u/\(∀b,P1 b->¬ u b)/\∀b,P1 b∨u b->S b:=by
 revert k;refine Trs.ind (R:=λst vs ts S=>∀{k:Nat},ts[k]?=jr t->∃v P1 u,vs[k]?=jr v/\Tr K F H st v t P1/\Trs K F H st (vs.eraseIdx k) (ts.eraseIdx k) u/\(∀b,P1 b->¬ u b)/\∀b,P1 b∨u b->S b) (λn k e=>by cases e) (λ{_ _ _ _ _ _ r _} h t n q f k e=>?_) h;cases k with|zero=>cases e;exact#[_,_,_,rfl,h,t,n,λb hb=>(q b).mpr hb]|succ k=>let#[v,P1,u,p,m,l,g,w]:=f (k:=k) e;refine#[v,P1,λb=>r b∨u b,p,m,.cons h l (λb hb z=>n b hb (w b (.inr z))) λb=>WP,λb hb z=>z.elim (λz=>n b z (w b (.inl hb))) (g b hb),λb hb=>(q b).mpr ?_];rcases hb with hb|hb|hb;exact .inr (w b (.inl hb));exact .inl hb;exact .inr (w b (.inr hb))
theorem bJ{α:Type}:∀{l:List α}{k:α},l.Nodup->¬ k∈l->(l++[k]).Nodup
 |[],k,_,_=>by simp|a::r,k,h,hk=>by let#[u,z]:=Ql.mp h;show(a::(r++[k])).Nodup;refine Ql.mpr #[λm=>?_,bJ z λm=>hk (QL.mpr (Or.inr m))];rcases Qf.mp m with q|q;exact u q;exact hk (QL.mpr (Or.inl (QJ.mp q).symm))
theorem OL(h:F a=kv)(r:Trs K F H kf L us P)(n:¬ P a):Tr K F (DA H a (.lst L)) kf (.ref a) (.lst us) λb=>b=a∨P b :=
 .lst (S':=P) YA h (r.mono (.refl _) λb hb=>#[xA λz=>n (z▸hb),(r.dom b hb).2]) n λb=>WP
theorem mD(w:Z a)(b:ko)(u:HO)(e:H b=jr u)(hb:¬ Z b):DA H a M b=jr u:=by have h:b≠a:=λz=>hb (by rw[z];exact w);rw[xA h];exact e
theorem HB(b:ko)(e:DA H a M b=kv):H b=none:=by by_cases hb:b=a;rw[hb,YA]at e;cases e;rw[xA hb]at e;exact e
theorem Xd{m:Mt}{N:T->T->Prop}{R:VK}(f:Same F H)(r:Tr K F H kf v s Z)(rv:Trs K F H kf vs ts W)(dj:∀b,Z b->¬ W b)(h:JL m s ts N)
  (k:∀w r s' H' S1 Zr,(∀b u,H b=jr u->¬ Z b->H' b=jr u)->(∀b,H' b=kv->H b=kv)->Tr K F H' kf v s' S1->Tr K F H' kf w r Zr->(∀b,Zr b->¬ S1 b)->(∀b,S1 b∨Zr b->Z b∨W b∨H b=kv)->N r s'->R w H'):Dd K m v vs H R:=by
 cases m with
 |append =>
  let#[us0,t0,rfl,rfl,h]:=h;cases r with
  |@lst _ a xs _ _ S' h1 h2 l X e =>
   have g:Z a:=(e a).mpr (.inl rfl);cases rv with
   |@cons _ w t ws us _ W1 W2 p r2 n q =>
    cases r2 with
    |nil n2 =>
     have hW:∀b,W b↔W1 b:=λb=>by rw[q b];simp[n2 b]
     refine#[a,xs,w,rfl,rfl,h1,by rw[l.9];exact h.1,k .non (.d .none) _ _ _ (λ_=>False) (mD g) HB (OL h2 (Trs.append l (Trs.one p) λb hb hw=>dj b ((e b).mpr (.inr hb)) ((hW b).mpr hw)) λz=>z.elim X λz=>dj a g ((hW a).mpr z)) (.d .non λ_ z=>z) (λ_ z=>z.elim) (λb hb=>?_) h.2];rcases hb with(hb|hb|hb)|hb;exact .inl (hb▸g);exact .inl ((e b).mpr (.inr hb));exact .inr (.inl ((hW b).mpr hb));exact hb.elim
 |extend =>
  let#[us0,vs0,rfl,rfl,h]:=h;cases r with
  |@lst _ a xs _ _ S' h1 h2 l X e =>
   have g:Z a:=(e a).mpr (.inl rfl);cases rv with
   |@cons _ w t ws us _ W1 W2 p r2 n q =>
    cases r2 with
    |nil n2 =>
     have hW:∀b,W b↔W1 b:=λb=>by rw[q b];simp[n2 b]
     cases p with|@lst _ c zs _ _ B g1 g2 g3 g4 I=>have dw:∀b,B b->W b:=λb hb=>(hW b).mpr ((I b).mpr (.inr hb));refine#[a,c,xs,zs,rfl,rfl,h1,g1,by rw[l.9,g3.9];exact h.1,k .non (.d .none) _ _ _ (λ_=>False) (mD g) HB (OL h2 (Trs.append l g3 λb hb hw=>dj b ((e b).mpr (.inr hb)) (dw b hw)) λz=>z.elim X λz=>dj a g (dw a z)) (.d .non λ_ z=>z) (λ_ z=>z.elim) (λb hb=>?_) h.2];rcases hb with(hb|hb|hb)|hb;exact .inl (hb▸g);exact .inl ((e b).mpr (.inr hb));exact .inr (.inl (dw b hb));exact hb.elim
 |pop =>
  let#[us0,i,j,t0,rfl,rfl,hi,ht,q]:=h;cases r with
  |@lst _ a xs _ _ S' h1 h2 l X e =>
   have g:Z a:=(e a).mpr (.inl rfl);let#[w,P1,P2,g1,g2,g3,g4,I]:=l.erase ht;have na:¬ P1 a:=λz=>X (I a (.inl z));have nb:¬ P2 a:=λz=>X (I a (.inr z));cases rv with
   |cons p r2 n q2 =>
    cases r2;cases p with
    |d p n1 =>
     cases p;refine#[a,i,xs,j,w,rfl,rfl,h1,by rw[l.9];exact hi,g1,k w t0 _ _ _ P1 (mD g) HB (OL h2 g3 nb) (g2.mono (.refl _) λb hb=>#[xA λz=>na (z▸hb),(g2.dom b hb).2]) (λb hb z=>?_) (λb hb=>?_) q];rcases z with z|z
     ·exact na (z▸hb)
     exact g4 b hb z;rcases hb with(hb|hb)|hb
     ·exact .inl (hb▸g)
     exact .inl ((e b).mpr (.inr (I b (.inr hb))));exact .inl ((e b).mpr (.inr (I b (.inl hb))))
 |_=>exact h.elim
theorem Trs.setD(w:Rep K F A x){S:mB}(n:Nat)(h:Trs K F H kf vs ts S):∃P,Trs K F H kf (vs.set n A) (ts.set n (.d x)) P/\∀b,P b->S b:=by
 revert n;refine Trs.ind (R:=λst vs ts S=>∀n:Nat,∃P,Trs K F H st (vs.set n A) (ts.set n (.d x)) P/\∀b,P b->S b) (λ{_ S} z n=>#[S,.nil z,λ_ h=>h]) (λ{_ _ _ _ _ _ S1 B} h t m q k n=>?_) h;cases n with|zero=>exact#[B,.cons (S1:=λ_=>False) (.d w λ_ z=>z) t (λ_ z=>z.elim) λb=>by simp,λb hb=>(q b).mpr (.inr hb)]|succ n=>let#[P,e,u]:=k n;exact#[λb=>S1 b∨P b,.cons h e (λb hb z=>m b hb (u b z)) λb=>WP,λb hb=>(q b).mpr (hb.imp id (u b))]
theorem Trs.part{S:mB}(h:Trs K F H kf vs ts S)(e:ts[i]?=jr t):∃v S1,vs[i]?=jr v/\Tr K F H kf v t S1/\(∀b,S1 b->S b) /\
  ∀(w:Hp) t' u,(∀b,S b->¬ S1 b->w b=H b)->Tr K F w kf v t' u->(∀b,u b->S1 b)->∃P,Trs K F w kf vs (ts.set i t') P/\∀b,P b->S b:=by
 revert i;refine Trs.ind (R:=λst vs ts S=>∀{i:Nat},ts[i]?=jr t->∃v S1,vs[i]?=jr v/\Tr K F H st v t S1/\(∀b,S1 b->S b)/\∀(w:Hp) t' u,(∀b,S b->¬ S1 b->w b=H b)->Tr K F w st v t' u->(∀b,u b->S1 b)->∃P,Trs K F w st vs (ts.set i t') P/\∀b,P b->S b) (λn i e=>by cases e) (λ{_ _ _ _ _ _ m P2} h t n q p i e=>?_) h;cases i with|zero=>cases e;exact#[_,m,rfl,h,λb hb=>(q b).mpr (.inl hb),λw t' u k r f=>#[λb=>u b∨P2 b,.cons r (t.mono (.refl _) λb hb=>#[k b ((q b).mpr (.inr hb)) λz=>n b z hb,(t.dom b hb).2]) (λb hb z=>n b (f b hb) z) λb=>WP,λb hb=>(q b).mpr (hb.imp (f b) id)]]|succ i=>let#[v,S1,h1,h2,g,I]:=p (i:=i) e;refine#[v,S1,h1,h2,λb hb=>(q b).mpr (.inr (g b hb)),λw t' u k r f=>?_];let#[P,g1,l]:=I w t' u (λb hb X=>k b ((q b).mpr (.inr hb)) X) r f;exact#[λb=>m b∨P b,.cons (h.mono (.refl _) λb hb=>#[k b ((q b).mpr (.inl hb)) λz=>n b hb (g b z),(h.dom b hb).2]) g1 (λb hb z=>n b hb (l b z)) λb=>WP,λb hb=>(q b).mpr (hb.imp id (l b))]
def bv(ks:List D)(k:D):List D:=match dA ks k with
 |some _=>ks|none=>ks++[k]
def Su{α:Type}(ks:List D)(vs:List α)(k:D)(x:α):List α:=match dA ks k with
 |some n=>vs.set n x|none=>vs++[x]
theorem MQ{α h:Type}[DecidableEq α](k:α)(key:h->α)(f:h->h)(hf:∀p,key (f p)=key p):∀(l:List h) (n:Nat),(l.map key).Nodup->(l.map key)[n]?=jr k->(∀(g:h->V) (x:V),(∀p,key p=k->g (f p)=x)->(l.map λp=>if key p=k then f p else p).map g=(l.map g).set n x)
 |[],n,_,e=>by simp at e|p::r,0,nd,e=>by
  intro g x w;have e:key p=k:=by simpa using e
  rw[QX]at nd;let#[u,m]:=Ql.mp nd;have e2:(r.map λp=>if key p=k then f p else p)=r:=by rw[show r=r.map id from(QDC r).symm,Qa];refine wW λq I=>?_;have:key q≠k:=λz=>u (QW.mpr #[q,by simpa using I,z.trans e.symm]);simp[this]
  rw[QX,e2,QX,QX,Qc e,w p e];rfl
 |p::r,n+1,nd,e=>by
  intro g x w;rw[QX]at nd;let#[u,m]:=Ql.mp nd;have e:(r.map key)[n]?=jr k:=by simpa using e
  have X:¬ key p=k:=λz=>u (by rw[z];exact qZ e);rw[QX,QX,QX,QB X,MQ k key f hf r n m e g x w];rfl
theorem put_keys{α h z:Type}[DecidableEq α](k:α)(key:h->α)(f:h->h)(g:h->z)(u:∀p,g (f p)=g p)(l:List h):(l.map λp=>if key p=k then f p else p).map g=l.map g:=by rw[Qa];refine wW λp _=>?_;show g (if key p=k then f p else p)=g p;split;exact u p;rfl
theorem HK.put{k:D}(f:Same F H)(ha:H a=jr o)(dk:HK K F b o ks vs)(ry:Rep K F J k)(hk:TD b k)(hl:ks.9<kb)
  (kk:∀o',HK K F b o' (bv ks k) (Su ks vs k A)->R (DA H a o')):uT K (.ref a) J A H R:=by
 cases b with
 |true =>
  let#[ep,u,rfl,rfl,rfl,h4,X]:=dk;cases KR hk ry with
  |intro q h =>
   let#[p,rfl,rfl,hq]:=h;refine#[ep,u,q,ha,λp hp=>f.key (h4 p hp),f.key hq,by simpa using hl,λI=>kk _ ?_];have w:=NG q u;unfold ZM bv Su;cases e:dA (u.map λp=>tD p.1) (tD q) with
   |none =>
    rw[e]at w;have w:lH u q=none:=w;rw[w];refine#[I,u++[(q,p,A)],rfl,by simp,by simp,λx l=>?_,?_];rcases Qf.mp l with l|l
    ·exact h4 x l
    rw[QJ.mp l];exact hq;rw[QR];refine bJ X λm=>vB.mp e ?_;let#[x,l,ex]:=QW.mp m;exact QW.mpr #[x,l,by rw[ex]]
   |some n =>
    rw[e]at w;have g:=OC e;have r:(u.map (·.1))[n]?=jr q:=by
     rw[Qd]at g ⊢;cases en:u[n]? with|none=>rw[en]at g;cases g|some x=>rw[en]at g;rw[qE,Qv]at g ⊢;exact RV g
    have hs:(lH u q).isSome=true:=by
     rw[w];have:n<u.length:=by have:=(Qh.mp r).1;simpa using this
     simp[this]
    rw[Qc hs];refine#[I,_,rfl,(put_keys q (·.1) (λp=>(p.1,p.2.1,A)) (λp=>tD p.1) (λ_=>rfl) u).symm,(MQ q (·.1) (λp=>(p.1,p.2.1,A)) (λ_=>rfl) u n X r (·.2.2) A λ_ _=>rfl).symm,λx l=>?_,?_];let#[y,hy,ey]:=QW.mp l;have hy:=h4 y hy;by_cases z:y.1=q;rw[Qc z]at ey;subst ey;exact hy;rw[QB z]at ey;subst ey;exact hy;have:=put_keys q (·.1) (λp:KE=>(p.1,p.2.1,A)) (·.1) (λ_=>rfl) u;rw[this];exact X
 |false =>
  let#[z,rfl]:=hk;cases ry;rcases dk with⟨u,hne,rfl,rfl,rfl,X⟩| ⟨ep,rfl,rfl,rfl⟩
  rotate_left
  exact .inr #[ep,ha,kk _ (.inl #[[(.inr z,A)],by simp,rfl,rfl,rfl,by simp])];refine .inl #[u,ha,by simpa using hl,kk _ (.inl ?_)];have w:=RJ (.inr z) u;have ez:kD (.inr z)=.str z:=rfl;rw[ez]at w;unfold fW bv Su;rw[HS];cases e:dA (u.map λp=>kD p.1) (.str z) with
  |none=>rw[e]at w;have w:bM u (.inr z)=none:=w;rw[w];refine#[u++[(.inr z,A)],by simp,rfl,by simp[ez],by simp,?_];rw[QR];refine bJ X λm=>vB.mp e ?_;let#[x,l,ex]:=QW.mp m;exact QW.mpr #[x,l,by rw[ex];rfl]|some n =>
   rw[e]at w;have g:=OC e;have r:(u.map (·.1))[n]?=jr (.inr z):=by
    rw[Qd]at g ⊢;cases en:u[n]? with|none=>rw[en]at g;cases g|some x=>rw[en]at g;rw[qE,Qv]at g ⊢;exact Z8 g
   have hs:(bM u (.inr z)).isSome=true:=by
    rw[w];have:n<u.length:=by have:=(Qh.mp r).1;simpa using this
    simp[this]
   rw[Qc hs];refine#[_,by simpa using hne,rfl,(put_keys (.inr z) (·.1) (λp=>(p.1,A)) (λp=>kD p.1) (λ_=>rfl) u).symm,(MQ (.inr z) (·.1) (λp=>(p.1,A)) (λ_=>rfl) u n X r (·.2) A λ_ _=>rfl).symm,?_];have:=put_keys (.inr z) (·.1) (λp:Key×V=>(p.1,A)) (·.1) (λ_=>rfl) u;rw[this];exact X
theorem yS(h:F a=kv)(u:HK K F b o ks L)(r:Trs K F H kf L us P)(n:¬ P a):Tr K F (DA H a o) kf (.ref a) (.dct b ks us) λb=>b=a∨P b :=
 .dct (S':=P) YA u h (r.mono (.refl _) λb hb=>#[xA λz=>n (z▸hb),(r.dom b hb).2]) n λb=>WP
theorem L5(f:Same F H)(r:Tr K F H kf v s Z)(ry:Rep K F J y)(rx:Rep K F A x)(h:fq s y x N)
  (k:∀s' H' S1,(∀b u,H b=jr u->¬ Z b->H' b=jr u)->(∀b,H' b=kv->H b=kv)->Tr K F H' kf v s' S1->(∀b,S1 b->Z b)->N s'->R H'):uT K v J A H R:=by
 cases s with
 |lst ts =>
  cases y with
  |int i =>
   let#[n,hn,q]:=h;cases ry;cases r with|@lst _ a xs _ _ S' h1 h2 m I l=>have g:Z a:=(l a).mpr (.inl rfl);let#[P,X,p]:=m.setD rx n;refine#[xs,n,h1,by rw[m.9];exact hn,k _ _ _ (mD g) HB (OL h2 X λz=>I (p a z)) (λb hb=>?_) q];rcases hb with hb|hb;exact hb▸g;exact(l b).mpr (.inr (p b hb))
  |_=>exact h.elim
 |dct b ks ts =>
  let#[hk,hl,q]:=h;cases r with
  |@dct _ _ a o _ vs _ _ S' h1 dk h2 m I l =>
   have g:Z a:=(l a).mpr (.inl rfl);refine dk.put f h1 ry hk hl λo' w=>?_;unfold bv Su at w;unfold yK at q;cases e:dA ks y with
   |some n=>rw[e]at w q;let#[P,X,p]:=m.setD rx n;refine k _ _ _ (mD g) HB (yS h2 w X λz=>I (p a z)) (λb hb=>?_) q;rcases hb with hb|hb;exact hb▸g;exact(l b).mpr (.inr (p b hb))
   |none=>rw[e]at w q;have X:=Trs.append m (Trs.one (Tr.d (S:=λ_=>False) rx λ_ z=>z)) λ_ _ z=>z;refine k _ _ _ (mD g) HB (yS h2 w X λz=>z.elim I id) (λb hb=>?_) q;rcases hb with hb|hb|hb;exact hb▸g;exact(l b).mpr (.inr hb);exact hb.elim
 |_=>exact h.elim
theorem HK.vs_inj{m:Hp}{f:List D}{u:LV}(h:HK K F b o ks vs)(h':HK K m b o f u):vs=u:=by
 cases b with|true=>let#[l,k,e,_,rfl,_]:=h;let#[g,w,z,_,rfl,_]:=h';rw[e]at z;cases z;rfl|false=>rcases h with⟨k,_,e,_,rfl,_⟩| ⟨l,e,_,rfl⟩<;>rcases h' with⟨w,_,z,_,rfl,_⟩| ⟨g,z,_,rfl⟩<;>rw[e]at z<;>cases z<;>rfl
theorem gb{F0:Hp}{n:Nat}{w:V}(f:Same F H)(r:Tr K F H kf (.ref a) (.dct b ks ts) Z)(l:H a=jr o)(q:HK K F0 b o ks vs)(hw:vs[n]?=jr w)(ht:ts[n]?=jr s)
  (ry:Rep K F J y) (rx:Rep K F A x) (h:fq s y x N)
  (k:∀s' g S1,(∀b u,H b=jr u->¬ Z b->g b=jr u)->(∀b,g b=kv->H b=kv)->Tr K F g kf (.ref a) (.dct b ks (ts.set n s')) S1->(∀b,S1 b->Z b)->N s'->R g):uT K w J A H R:=by
 cases r with
 |@dct _ _ a o' _ vs' _ _ S' h1 dk h2 h3 h4 p =>
  rw[l]at h1;cases h1;cases q.vs_inj dk;have ha:Z a:=(p a).mpr (.inl rfl);let#[w',S1,g1,g2,g3,g4]:=h3.part ht;rw[hw]at g1;cases g1;refine L5 f g2 ry rx h λs' g X hh dm rs sub q2=>?_;have keep:∀b,¬ S1 b->H b≠kv->g b=H b:=λb hb m=>by
   cases e:H b with|none=>exact Qe e m|some u=>exact hh b u e hb
  have na:¬ S1 a:=λz=>h4 (g3 a z);let#[P,p1,I]:=g4 g s' X (λb hb m=>keep b m (h3.dom b hb).1) rs sub;refine k _ g (λb=>b=a∨P b) (λb u e hb=>hh b u e λz=>hb ((p b).mpr (.inr (g3 b z)))) dm (.dct (S':=P) ((keep a na (by rw[l];simp)).trans l) dk h2 p1 (λz=>h4 (I a z)) λb=>WP) (λb hb=>?_) q2;rcases hb with hb|hb;exact hb▸ha;exact(p b).mpr (.inr (I b hb))
theorem Yj{p:ko}(f:Same F H)(X:H p=kv)(r:Tr K F H kf v t Z)(ry:Rep K F J y)(h:Jj y t N)
  (k:∀s' l S1,(∀b u,H b=jr u->¬ Z b->l b=jr u)->(∀b,l b=kv->H b=kv)->Tr K F l kf v s' S1->(∀b,S1 b->Z b∨b=p)->N s'->R l):HL K v [J,.ref p] (DA H p (.dT 0 [])) λ_ l=>R l:=by
 let#[ks,ts,rfl,hk,hl,h]:=h;cases r with
 |@dct _ _ a o _ vs _ _ S' h1 dk h2 h3 h4 h5 =>
  have ha:Z a:=(h5 a).mpr (.inl rfl);let#[ep,w,rfl,rfl,rfl,d4,d5]:=dk;have ap:a≠p:=iA h1 X;have fp:F p=none:=f.free X;have sm:Same H (DA H p (.dT 0 [])):=PB X;cases KR hk ry with
  |intro q hh =>
   let#[c,rfl,rfl,hq]:=hh;have vf:=NG q w;refine#[a,c,.ref p,ep,w,q,rfl,rfl,(xA ap).trans h1,λx g=>(f.trans sm).key (d4 x g),(f.trans sm).key hq,by simpa using hl,λu eu=>?_,λen I=>?_];rcases h with⟨n,e,q⟩| ⟨e,q⟩
   ·have r0:Tr K F H kf (.ref a) (.dct kf (w.map λp=>tD p.1) ts) Z:=.dct h1 #[ep,w,rfl,rfl,rfl,d4,d5] h2 h3 h4 h5
    refine k _ _ Z (λb u e _=>sm b u e) (λb e=>HB b e) (r0.mono (.refl _) λb hb=>#[xA λz=>(r0.dom b hb).1 (by rw[z];exact X),(r0.dom b hb).2]) (λb hb=>.inl hb) q
   rw[e]at vf;rw[vf]at eu;cases eu;rcases h with⟨n,e,q⟩| ⟨e,q2⟩
   ·have hn:=OC e
    rw[e]at vf;have:n<w.length:=by have:=(Qh.mp hn).1;simpa using this
    rw[vf]at en;have en:(w.map (·.2.2))[n]?=none:=en;rw[List.getElem?_eq_none_iff,QF]at en;omega
   have ep2:ZM w q c (.ref p)=w++[(q,c,.ref p)]:=by unfold ZM;rw[en];rfl
   rw[ep2];have np:¬ S' p:=λz=>(h3.dom p z).1 X;have g0:Tr K F (DA H p (.dT 0 [])) kf (.ref p) (.dct kf [] []) λb=>b=p :=
    .dct (S':=λ_=>False) (vs:=[]) YA #[0,[],rfl,rfl,rfl,λ_ z=>(nomatch z),Q7] fp (.nil λ_ z=>z) (λz=>z) λb=>by simp
   have g3:Trs K F (DA H p (.dT 0 [])) kf (w.map (·.2.2)) ts S':=h3.mono (.refl _) λb hb=>#[xA λz=>np (z▸hb),(h3.dom b hb).2]
   have g1:=Trs.append g3 (Trs.one g0) λb hb z=>np (z▸hb);have dk':HK K F kf (.dT I (w++[(q,c,.ref p)])) ((w.map λp=>tD p.1)++[tD q]) (w.map (·.2.2)++[.ref p]):=by
    refine#[I,_,rfl,by simp,by simp,λx g=>?_,?_];rcases Qf.mp g with g|g
    ·exact d4 x g
    rw[QJ.mp g];exact hq;rw[QR];refine bJ d5 λm=>vB.mp e ?_;let#[x,g,ex]:=QW.mp m;exact QW.mpr #[x,g,by rw[ex]]
   refine k _ _ _ (λb u e hb=>?_) (λb e=>HB b (HB b e)) (yS h2 dk' g1 λz=>z.elim h4 ap) (λb hb=>?_) q2;rw[xA λz=>hb (by rw[z];exact ha)];exact sm b u e;rcases hb with hb|hb|hb
   ·exact .inl (hb▸ha)
   exact .inl ((h5 b).mpr (.inr hb));exact .inr hb
end
end
section
variable{K:QC}{Γ:Ev}{Ψ:PEv}
section
variable{p:PX}{F H:Hp}{S:Ft}{ρ:vA}{Z:mB}
noncomputable abbrev Y4(K:QC)(Γ:Ev)(Ψ:PEv)(p:PX):Prop:=∀{E:XE}{x:XK}{F H:Hp}{S:Ft}{ρ:vA}{h:St}{Q:TK}{R:VK},Rl K F H S ρ h->IE K F H S ρ E x->(pe Ψ p E).e ρ Q->cB K (EF p) F H S ρ h Q R->(wp K Γ p x).e h H R
theorem MV(f:Y4 K Γ Ψ p){E:XE}{w:XK}{σ:St}{Q:Bool->vA->Prop}{R:Bool->Hp->Prop}(I:Rl K F H S ρ σ)(X:IE K F H S ρ E w)(h:(pe Ψ p E).e ρ λt _ y=>JI t.er λb=>Q b y)(k:LH K F H S ρ σ Q R) :
  (wp K Γ p w).e σ H λx i=>TF K x i R :=
 f I X h λv l j g z t n Z s u r q=>fY (r.tr.rep u.fh) q λc a=>k c l j g z s u a
theorem PSnd.of_e(w:∀E ρ Q,(pe Ψ p E).t ρ Q=(pe Ψ p E).e ρ λt _ y=>JI t.er λb=>Q b y)(z:∀v σ H R,(wp K Γ p v).t σ H R=(wp K Γ p v).e σ H λx g=>TF K x g R)(f:∀E,(pe Ψ p E).a=YD.a)(u:Y4 K Γ Ψ p):PSnd K Γ Ψ p where
 e:=u
 t:=λI X h k=>by rw[w]at h;rw[z];exact MV u I X h k
 a:=λI X _ h k=>by rw[f]at h;exact h.elim
theorem PSnd.of_0(x:∀E,(pe Ψ p E).t=YD.t)(z:∀E,(pe Ψ p E).a=YD.a)(y:Y4 K Γ Ψ p):PSnd K Γ Ψ p where
 e:=y
 t:=λI X h k=>by rw[x]at h;exact h.elim
 a:=λI X _ h k=>by rw[z]at h;exact h.elim
theorem PSnd.of_t(l:∀E ρ Q,(pe Ψ p E).e ρ Q=(pe Ψ p E).t ρ λb u=>Q (.d (.bool b)) kd u)(v:∀z σ H R,(wp K Γ p z).t σ H R=(wp K Γ p z).e σ H λx n=>P9 x n R)(m:∀E,(pe Ψ p E).a=YD.a)
  (f:∀{E:XE}{z:XK}{F H:Hp}{S:Ft}{ρ:vA}{σ:St}{Q:Bool->vA->Prop}{R:VK},Rl K F H S ρ σ->IE K F H S ρ E z->(pe Ψ p E).t ρ Q->LH K F H S ρ σ Q (λb=>R (.bl b))->(wp K Γ p z).e σ H R):PSnd K Γ Ψ p where
 e:=λI X h k=>by rw[l]at h;exact f I X h λb j i g y s w q=>cB.d k s w (.bl b) q
 t:=λI X h k=>by rw[v];exact f I X h λb j i g y s w q=>k b j i g y s w q
 a:=λI X _ h k=>by rw[m]at h;exact h.elim
theorem sf(i:Nat):Y4 K Γ Ψ (.var i):=by
 intro E a F H S ρ y Q R I X h k;have x:uv ρ[i]? λt=>Q t kd ρ:=h;show(match y[i]? with|some (jr v)=>R v H|_=>False);have key:∀s,ρ[i]?=jr (jr s)->Q s.t kd ρ->(match y[i]? with|some (jr v)=>R v H|_=>False):=λs e q=>by let#[v,w,u]:=I.sl i _ e;rw[w];exact k v F H S ρ s.t kd (S i) .refl I #[u.weak,λz=>(by cases z),λ_ b hb=>#[i,s,QJ.mpr rfl,e,hb],λz=>(by cases z)] q
 unfold uv at x;split at x;rename_i e;exact key _ e x;rename_i e;exact key _ e x;exact x.elim;exact x.elim
theorem Bl{m:Mt}{v:V}{s:T}(h:isMut m=kf)(x:cJ m s=kf)(r:Tr K F H kf v s Z):K4 K m.ty v H:=by
 unfold cJ at x;split at x;cases r with
 |lst y _ _ _ _ =>
  refine .inl #[?_,_,uC.of y];cases m with|append=>rfl|pop=>rfl|extend=>rfl|_=>cases x
 cases x
theorem jx{m:Mt}{o l:PX}(io:PSnd K Γ Ψ o)(ia:PSnd K Γ Ψ l):Y4 K Γ Ψ (.mt m o l):=by
 intro E EK F H S ρ M Q R I X h k;show(wp K Γ o EK).e M H λx L=>K4 K m.ty x L/\(wp K Γ l EK).a M L λB A=>Dd K m x B A R;cases hm:isMut m with
 |false =>
  have h:(pe Ψ o E).e ρ λx n N=>O2 m (fA x n).vw=kf/\sq (fA x n) N ((pe Ψ l E).a []) λg y=>Pr m (fA x n).vw (ZB g) λz k=>Q z k y:=by have G:(if isMut m=kf then _ else _):=h;rw[hm,QB (by simp)]at G;exact G
  refine Ap (P1:=λx n=>O2 m (fA x n).vw=kf) (R1:=λv L=>K4 K m.ty v L) (RR:=λv B A=>Dd K m v B A R) io ia I X h (λv F' H' x n Za f r p=>Mr f r p) λv B F' H' S' ρ' x n g Za Y s I' X' r _ tn q=>?_;rw[kM _ rfl]at q;exact Dl s I' r tn q k
 |true =>
  have h:Cf (x6 o) λj=>vD ρ[j]? λt=>cJ m t=kf/\(pe Ψ l E).a [] (ρ.set j (jr (.bor t))) λg y=>NE g=kf/\y[j]?=jr (jr (.bor t))/\JL m t (SF g) λr s'=>Q r kf (y.set j (jr (.own s'))):=by have G:(if isMut m=kf then _ else _):=h;rw[hm,Qc rfl]at G;exact G
  cases o with
  |var j =>
   have h:vD ρ[j]? _:=h;unfold vD at h;split at h;rename_i t u;let#[ht,q1]:=h;let#[v0,hv,C]:=I.sl j _ u;have IL:=I.lock1 u;have n0:=I.lock1U u;have C:Tr K F H kf v0 t (S j):=C;have XL:=X.lock1 u;show(match M[j]? with|some (jr v)=>_|_=>False);rw[hv];refine#[Bl hm ht C,?_];refine ia.a (md:=[]) IL XL (λj u=>by cases l<;>cases u) q1 λB F2 A S2 y g W Y O I2 J _ q2=>?_;let#[he,hj2,q2]:=q2;have r2:Tr K F2 A kf v0 t (S j):=O.toStp.keep C n0;have hw:=J.held;have trs:=J.av.trs Xl he;have wS:∀b,S j b->¬ W b:=λb hb hb2=>by rcases J.fr b hb2 with q|q;exact(C.dom b hb).1 q;exact n0 b hb q
   refine Xd I2.fh r2 trs wS q2 λw r s' H3 S3 Zr hh dm P rr dz hf q=>?_;let#[st,I3,nw]:=SI I u hv O I2 hh dm P (λb hb=>hf b (.inl hb)) hw J.fr;have zr:∀b,Zr b->S j b∨W b∨A b=none:=λb hb=>hf b (.inr hb);refine k w F2 H3 _ _ r kf Zr st I3 #[rr,λ_ b hb=>?_,λz=>(by cases z),λ_ i sl e b hb z=>?_] q;rcases zr b hb with q|q|q
   ·exact .inr #[j,t,u,q]
   exact(J.fr b q).imp id (lock1U u);exact .inl (O.dm b q);rcases lA e with⟨rfl,_,_⟩| ⟨n,e⟩
   ·rw[yB]at z
    exact dz b hb z
   rw[ZA (qC n)]at z;exact nw b (zr b hb) i sl (qC n) e z
   all_goals exact h.elim
  |_=>exact h.elim
theorem cB.dct{ws:LN}{F H x y:Hp}{S S1:Ft}{ρ h:vA}{σ:St}{Q:TK}{R:VK}(k:cB K ws F H S ρ σ Q R)(s:Ste F H S ρ x y S1 h)(I:Rl K x y S1 h σ){p:ko}(g:H p=kv)(m:x p=kv)(j:Held x y S1 h λb=>b=p){o:HO}{b:Bool}{ks:List D}{vs:LV}{ts:LT}{W:mB}(B:HK K x b o ks vs)(r:Trs K x y kf vs ts W)
  (fr:∀b,W b->H b=kv∨U ρ S b) (f:Held x y S1 h W) (a:¬ W p) (q:Q (.dct b ks ts) kf h):R (.ref p) (DA y p o):=by
 have Y:∀b u,H b=jr u->b≠p:=λb u e=>iA e g;have X:Ste F H S ρ x (DA y p o) S1 h:=#[#[s.ff,λb u e n=>by rw[xA (Y b u e)];exact s.hh b u e n,λb e=>s.dm b (HB b e),s.fn,s.uu,s.bo],s.ow]
 have C:Rl K x (DA y p o) S1 h σ:=#[λb u e=>by rw[xA λz=>by rw[z,m]at e;cases e];exact I.fh b u e,I.len,λi w e=>by let#[v,A,l]:=I.sl i w e;exact#[v,A,l.mono (.refl _) λb hb=>#[xA λz=>j.nw i w e b z hb,(l.dom b hb).2]],I.dj]
 refine k _ x _ S1 h _ kf (λb=>b=p∨W b) X C #[.dct YA B m (r.mono (.refl _) λb hb=>#[xA λz=>a (z▸hb),(f.dom b hb).2]) a (λb=>WP),λ_ b hb=>?_,λz=>(by cases z),λ_ i w e b hb z=>?_] q;rcases hb with hb|hb
 ·exact .inl (hb▸g)
 exact fr b hb;rcases hb with hb|hb
 ·exact j.nw i w e b hb z
 exact f.nw i w e b hb z
theorem VR.strict{u y:Hp}{S1:Ft}{h:vA}{ws:LN}{v:V}{t:T}{n:Bool}(r:VR K ws H S ρ u y S1 h v t n Z)(e:BH t n=kf):∃W,Tr K u y kf v t W/\Held u y S1 h W/\∀b,W b->H b=kv∨U ρ S b:=by
 cases n with
 |true=>exact#[Z,r.tr,r.held,r.fr rfl]|false =>
  have w:=r.tr;cases t with
  |d x=>cases w with|d q _=>exact#[λ_=>False,.d q λ_ z=>z,.none,λ_ z=>z.elim]
  |_=>cases e
theorem tU{σ:St}(I:Rl K F H S ρ σ){p:ko}(h:H p=kv)(o:HO):Held F (DA H p o) S ρ λb=>b=p :=
 #[λb hb=>#[by rw[hb,YA];simp,by rw[hb];exact I.fh.free h],λi x e b hb z=>(I.dom e z).1 (by rw[hb];exact h)]
theorem LA(g:GOk K Γ Ψ):∀(p:PX),PSnd K Γ Ψ p
 | .var i=>#[sf i,λI X h k=>MV (Γ:=Γ) (Ψ:=Ψ) (sf i) I X h k,λI X _ h k=>h.elim]|.int i=>#[λI X h k=>cB.d k .refl I (.int i) h,λI X h k=>k _ _ _ _ _ .refl I h,λI X _ h k=>h.elim]|.str x=>#[λI X h k=>cB.d k .refl I (.str x) h,λI X h k=>h.elim,λI X _ h k=>h.elim]|.bl b=>#[λI X h k=>cB.d k .refl I (.bl b) h,λI X h k=>k _ _ _ _ _ .refl I h,λI X _ h k=>h.elim]|.non=>#[λI X h k=>cB.d k .refl I .non h,λI X h k=>k _ _ _ _ _ .refl I h,λI X _ h k=>h.elim]|.glo x=>.of_e (λ_ _ _=>rfl) (λ_ _ _ _=>rfl) (λ_=>rfl) λ{E L F H S ρ G Q R} I X h k=>by have h:(match Ψ.va x with|some d=>Q (.d d) kd ρ|none=>False):=h;split at h;rename_i d e;exact cB.d k .refl I (g.va x d e F) h;exact h.elim
 | .bty _ _=>#[λI X h k=>h.elim,λI X h k=>h.elim,λI X _ h k=>h.elim]|.bin op a b=>.of_e (λ_ _ _=>rfl) (λ_ _ _ _=>rfl) (λ_=>rfl) λ{E L F H S ρ G Q R} I X h k =>
  K5 (P:=λx n y m N=>binT op (fA x n).vw (fA y m).vw λz k=>Q z k N) (RR:=λx y H2=>Te K op x y H2 R) (LA g a) (LA g b) I X h λv w O M S' B x n y m Za Zb s C X' ra _ rb _ q=>Ln s C ra rb q k
 | .cmp op a b=>.of_t (λ_ _ _=>rfl) (λ_ _ _ _=>rfl) (λ_=>rfl) λ{E L F H S ρ G Q R} I X h k =>
  K5 (P:=λx n y m N=>Ue op x.er (R3 y m) λk=>Q k N) (RR:=λx y H2=>e9 K op x y H2 R) (LA g a) (LA g b) I X h λv w O M S' B x n y m Za Zb s C X' ra _ rb ru q=>by
   have rx:Rep K M v x.er:=by have:=ra.rep C.fh;rwa [nZ]at this
   cases y with|dct b ks ts=>let#[F2,Z2,f2,r2]:=ru;exact VZ f2 rx r2 q λc qc=>k c O M S' B s C qc|_=>exact VZ C.fh rx rb q λc qc=>k c O M S' B s C qc
 | .and a b=>#[λ{E L F H S ρ G Q R} I X h k=>by
   refine(LA g a).e (Q:=λx _ A=>xo x.er λc=>if c=kf then(pe Ψ b E).e A Q else Q (.d (.bool kd)) kd A) (R:=λx J=>P9 x J λc H2=>if c=kf then(wp K Γ b L).e G H2 R else R (.bl kd) H2) I X h λv O M S' B x n Z s C r q=>?_;refine O9 (r.tr.rep C.fh) q λc qc=>?_;cases c with|false=>exact cB.d k s C (.bl kd) qc|true=>exact(LA g b).e C (X.from s.toStp) qc ((k.from s).vars λi hi=>QT _ hi),
  λ{E L F H S ρ G Q R} I X h k=>by
   refine(LA g a).t (Q:=λc A=>if c=kf then(pe Ψ b E).t A Q else Q kd A) (R:=λc J=>if c=kf then(wp K Γ b L).t G J R else R kd J) I X h λc O M S' B s C qc=>?_;cases c with|false=>exact k _ O M S' B s C qc|true=>exact(LA g b).t C (X.from s.toStp) qc (LH.from k s),λI X _ h k=>h.elim]
 | .or a b=>#[λ{E L F H S ρ G Q R} I X h k=>by
   refine(LA g a).e (Q:=λx _ A=>xo x.er λc=>if c=kf then Q (.d (.bool kf)) kd A else(pe Ψ b E).e A Q) (R:=λx J=>P9 x J λc H2=>if c=kf then R (.bl kf) H2 else(wp K Γ b L).e G H2 R) I X h λv O M S' B x n Z s C r q=>?_;refine O9 (r.tr.rep C.fh) q λc qc=>?_;cases c with|true=>exact cB.d k s C (.bl kf) qc|false=>exact(LA g b).e C (X.from s.toStp) qc ((k.from s).vars λi hi=>QT _ hi),
  λ{E L F H S ρ G Q R} I X h k=>by
   refine(LA g a).t (Q:=λc A=>if c=kf then Q kf A else(pe Ψ b E).t A Q) (R:=λc J=>if c=kf then R kf J else(wp K Γ b L).t G J R) I X h λc O M S' B s C qc=>?_;cases c with|true=>exact k _ O M S' B s C qc|false=>exact(LA g b).t C (X.from s.toStp) qc (LH.from k s),λI X _ h k=>h.elim]
 | .not a=>#[λ{E L F H S ρ G Q R} I X h k=>by
   refine(LA g a).e (Q:=λx _ A=>JI x.er λc=>Q (.d (.bool (!c))) kd A) (R:=λx J=>TF K x J λc H2=>R (.bl (!c)) H2) I X h λv O M S' B x n Z s C r q=>?_;exact fY (r.tr.rep C.fh) q λc qc=>cB.d k s C (.bl _) qc,
  λ{E L F H S ρ G Q R} I X h k=>(LA g a).t (Q:=λc A=>Q (!c) A) (R:=λc J=>R (!c) J) I X h λc O M S' B s C qc=>k _ O M S' B s C qc,λI X _ h k=>h.elim]
 | .ife c a b=>.of_0 (λ_=>rfl) (λ_=>rfl) λ{E L F H S ρ G Q R} I X h k=>by
  refine(LA g c).t (Q:=λk A=>if k=kf then(pe Ψ a E).e A Q else(pe Ψ b E).e A Q) (R:=λk J=>if k=kf then(wp K Γ a L).e G J R else(wp K Γ b L).e G J R) I X h λc O M S' B s C qc=>?_;cases c with|true=>exact(LA g a).e C (X.from s.toStp) qc ((k.from s).vars λi hi=>Qm _ hi)|false=>exact(LA g b).e C (X.from s.toStp) qc ((k.from s).vars λi hi=>QT _ hi)
 | .call f as=>.of_e (λ_ _ _=>rfl) (λ_ _ _ _=>rfl) (λ_=>rfl) λ{E L F H S ρ G Q R} I X h k=>Le g (LA g as) I X h k|.isi a c=>by
  have key:∀{E:XE}{L:XK}{F H:Hp}{S:Ft}{ρ:vA}{G:St}{Q:Bool->vA->Prop}{R:VK},Rl K F H S ρ G->IE K F H S ρ E L->(pe Ψ (.isi a c) E).t ρ Q->LH K F H S ρ G Q (λb=>R (.bl b))->(wp K Γ (.isi a c) L).e G H R:=by
   intro E L F H S ρ G Q R I X h k;refine(LA g a).e (Q:=λx _ A=>Bm c x.er λb=>Q b A) I X h λv O M S' B x n Z s C r q=>?_;cases c with|bty z n=>let#[b,h1,h2,q]:=q;exact Xm (r.tr.rep C.fh) h1 h2 (k b O M S' B s C q)|_=>exact q.elim
  refine#[λI X h k=>key I X h λb O M S' B s C q=>cB.d k s C (.bl b) q,λ{E L F H S ρ G Q R} I X h k=>?_,λI X _ h k=>h.elim];exact key (R:=λv J=>TF K v J R) I X h λb O M S' B s C q=>k b O M S' B s C q
 | .bi f as=>.of_e (λ_ _ _=>rfl) (λ_ _ _ _=>rfl) (λ_=>rfl) λ{E L F H S ρ G Q R} I X h k =>
  RX (P:=λxs A=>BZ f (ZB xs) λz k=>Q z k A) (RR:=λvs J=>zu K f vs J R) (LA g as) I X h λvs O M S' B xs Y s C X' tn _ q=>by rw[kM _ rfl]at q;exact jo s C tn q k
 | .mt m o as=>.of_e (λ_ _ _=>rfl) (λ_ _ _ _=>rfl) (λ_=>rfl) (jx (LA g o) (LA g as))|.idx a b=>by
  have he:Y4 K Γ Ψ (.idx a b):=λ{E L F H S ρ G Q R} I X h k =>
   K5 (P:=λx n y m N=>(BO (fA x n).vw (fA y m).vw λz=>Q z kd N)∨(XU (fA x n).vw y.er λz=>Q z kd N)) (RR:=λx y H2=>O0 K x y H2 R) (LA g a) (LA g b) I X h λv w O M S' B x n y m Za Zb s C X' ra za rb _ q=>by rcases q with q|q;exact Cm s C ra za rb q k;exact cn s C ra za (by have:=rb.rep C.fh;rwa [nZ]at this) q k
  exact#[he,λI X h k=>MV he I X h k,λI X _ h k=>h.elim]
 | .slc a lo hi=>.of_0 (λ_=>rfl) (λ_=>rfl) λ{E L F H S ρ G Q R} I X h k=>by
  have part:∀(p:PX),PSnd K Γ Ψ p->∀{F H:Hp}{S:Ft}{ρ:vA}{x:T}{P:Option Int->vA->Prop}{RP:Option Int->Hp->Prop},Rl K F H S ρ G->IE K F H S ρ E L ->
    sq (α:=Option Int) x ρ (if isNop p=kf then λρ (R:Option Int->vA->Prop)=>R kv ρ else λρ R=>(pe Ψ p E).e ρ λl _ N=>cG l.er λo=>R o N) P ->
    (∀o O M S' B,Ste F H S ρ O M S' B->Rl K O M S' B G->(∀st v Zx,Tr K F H st v x Zx->Tr K O M st v x Zx)->P o B->RP o M) ->
    (if isNop p=kf then λ(R:Option Int->Hp->Prop)=>R kv H else λR=>(wp K Γ p L).e G H λl H2=>TM l H2 R) RP:=by
   intro p ip F H S ρ x P RP I X h k;cases hn:isNop p with
   |true=>simp only[hn,if_true]at h ⊢;refine k kv F H S ρ .refl I (λ_ _ _ r=>r) ?_;unfold sq at h;split at h<;>exact h|false =>
    simp only[hn,Qw,if_false]at h ⊢;have h2:sq x ρ (cu (pe Ψ p E).e) λy B=>cG y.1.er λo=>P o B:=by unfold sq at h ⊢;exact h
    refine mq ip I X h2 λw O M S' B y m Z s C kp _ r q=>Jc (r.tr.rep C.fh) q λo qo=>k o O M S' B s C kp qo
  refine YE (LA g a) I X h λv F1 J S1 A x n Za s1 I1 X1 r1 _ z1 h1=>?_;refine part lo (LA g lo) I1 X1 h1 λl F2 H2 S2 N s2 I2 k2 h2=>?_;refine part hi (LA g hi) I2 (X1.from s2.toStp) h2 λu F3 H3 S3 ρ3 s3 I3 k3 h3=>?_;exact pj (s1.trans (s2.trans s3)) I3 (k3 _ _ _ (k2 _ _ _ r1)) h3 k
 | .nop=>#[λI X h k=>h.elim,λI X h k=>h.elim,λI X _ h k=>h.elim]|.lst as=>.of_0 (λ_=>rfl) (λ_=>rfl) λ{E L F H S ρ G Q R} I X h k=>by refine(LA g as).a (md:=[]) (R:=λxs J=>xs.9<=kb/\∀p,J p=kv->R (.ref p) (DA J p (.lst xs))) I X (λj hj=>by cases as<;>cases hj) h λvs O M S' B xs W Y s C r _ q=>?_;exact#[by rw[r.av.9];exact q.2.1,λp hp=>cB.list k s C hp (r.av.trs Xl q.1) r.fr r.held q.2.2]|.tup as=>.of_0 (λ_=>rfl) (λ_=>rfl) λ{E L F H S ρ G Q R} I X h k=>by refine(LA g as).a (md:=[]) (R:=λxs J=>xs.9<=kb/\∀p,J p=kv->R (.ref p) (DA J p (.tup xs))) I X (λj hj=>by cases as<;>cases hj) h λvs O M S' B xs W Y s C r _ q=>?_;exact#[by rw[r.av.9];exact q.2.1,λp hp=>cB.tup k s C hp (r.av.trs Xl q.1) r.fr r.held q.2.2]|.comp mask tgs tg ik its cond elt=>.of_0 (λ_=>rfl) (λ_=>rfl) λ{E L F H S ρ G Q R} I X h k=>by
  refine RX (RR:=λvs J=>cC K ik vs J λxs st H2=>RZ K xs st tg (if isNop cond=kf then λ_ H Q=>Q kf H else(wp K Γ cond (λ_ _ _=>False)).t) (wp K Γ elt (λ_ _ _=>False)).e (tJ tgs.9 mask G) H2 R) (LA g its) I X h λvs F1 J S1 A xs Y s1 I1 X1 tn tm q1=>?_;rw[kM _ rfl]at q1;refine cK I1.fh tn q1 λxs ys st pr hst hc=>?_;refine n9 (us:=EF elt) ?_ ?_ s1 I1 pr (λb hb=>?_) hst hc k;intro F H S ρ G Q R I h k;cases hn:isNop cond with|true=>simp only[hn,if_true]at h ⊢;exact k kf F H S ρ .refl I h|false=>simp only[hn,Qw,if_false]at h ⊢;exact(LA g cond).t I IE.never h k
  intro F H S ρ G Q R I h k;exact(LA g elt).e I IE.never h k;let#[i,sl,_,h2,h3]:=tm b hb;exact I1.dom h2 h3
 | .ng i=>.of_0 (λ_=>rfl) (λ_=>rfl) λI X h k=>cB.d k .refl I (.int _) h|.trv a=>.of_0 (λ_=>rfl) (λ_=>rfl) λ{E L F H S ρ G Q R} I X h k =>
  YE (P:=λx n A=>zb (fA x n).vw λz k=>Q z k A) (RR:=λx J=>cW K x J R) (LA g a) I X h λv O M S' B x n Z s C _ r _ _ #[us,ds,e,hb,q]=>by let#[p,xs,_,rfl,hp,rp,_]:=r.ls C.fh e;exact#[p,xs,rfl,hp,λl hl=>k.tupD s C hl (rp.un hb).1.reverse q]
 | .lrv a=>.of_0 (λ_=>rfl) (λ_=>rfl) λ{E L F H S ρ G Q R} I X h k =>
  YE (P:=λx n A=>Gb (fA x n).vw λz k=>Q z k A) (RR:=λx J=>dW K x J R) (LA g a) I X h λv O M S' B x n Z s C _ r _ _ #[us,ds,e,hb,q]=>by let#[p,xs,_,rfl,hp,rp,_]:=r.ls C.fh e;exact#[p,xs,rfl,hp,λl hl=>k.listD s C hl (rp.un hb).1.reverse q]
 | .dnew b=>.of_0 (λ_=>rfl) (λ_=>rfl) λ{E L F H S ρ G Q R} I X h k=>by
  intro p hp;have hh:=tU I hp (.dT 0 []);have e:=cB.dct (o:=.dT 0 []) (b:=b) (ks:=[]) (vs:=[]) (ts:=[]) (W:=λ_=>False) k (Ste.refl.new hp (.dT 0 [])) (I.new hp _) hp (I.fh.free hp) hh ?_ (.nil λ_ z=>z) (λ_ z=>z.elim) .none (λz=>z) h;rw[yb]at e;exact e;cases b with
  |true=>exact#[0,[],rfl,rfl,rfl,λ_ z=>(nomatch z),Q7]
  |false=>exact .inr #[0,rfl,rfl,rfl]
 | .dsp a b=>.of_0 (λ_=>rfl) (λ_=>rfl) λ{E L F H S ρ G Q R} I X h k=>by
  intro p hp;have hh:=tU I hp (.dT 0 []);have s0:Ste F H S ρ F (DA H p (.dT 0 [])) S ρ:=Ste.refl.new hp _;refine YE (LA g a) (I.new hp _) (X.from s0.toStp) h λy F1 J S1 A x n Z s1 I1 X1 _ er _ #[he,q1]=>?_;have hh1:=hh.step s1.toStp I1;have ry:=er he;refine(LA g b).e I1 X1 q1 λv F2 H2 S2 N t m Zb s2 I2 r2 q2=>?_;have hh2:=hh1.step s2.toStp I2;let#[he2,hk,q2]:=q2;let#[W,rw,hw,frw]:=(r2.from s1.toStp).strict he2;have hp2:H2 p=jr (.dT 0 []):=s2.hh p _ (s1.hh p _ YA (hh.nu p rfl)) (hh1.nu p rfl);have np:¬ W p:=λz=>by rcases frw p z with q|q;rw[YA]at q;cases q;exact hh.nu p rfl q
  have ry2:=ry.mono s2.ff;refine#[hp2,?_];generalize x.er=d at hk ry2 q2;cases KR hk ry2 with|intro ks hh=>let#[c,rfl,rfl,hq]:=hh;refine#[c,ks,rfl,I2.fh.key hq,λep=>?_];exact cB.dct (o:=.dT ep [(ks,c,v)]) (b:=kf) (vs:=[v]) (ts:=[t]) k (s0.trans (s1.trans s2)) I2 hp (hh2.dom p rfl).2 hh2 #[ep,_,rfl,rfl,rfl,λz hz=>by rw[QJ.mp hz];exact hq,by simp] (Trs.one rw) (λb hb=>by rcases frw b hb with q|q;exact .inl (HB b q);exact .inr q) hw np q2
 | .anil=>#[λI X h k=>h.elim,λI X h k=>h.elim,λ{E L F H S ρ G md Q R} I X _ h k=>k [] F H S ρ [] (λ_=>False) (λ_=>False) .refl I #[.nil λ_ z=>z,λ_ z=>z.elim,λ_ z=>z.elim,λ_ _ _ _ z=>z.elim] (by cases md with|nil=>rfl|cons m r=>cases m<;>rfl) h]
 | .acons a as=>#[λI X h k=>h.elim,λI X h k=>h.elim,λ{E L F H S ρ G md Q R} I X hm h k=>by
  show(wp K Γ a L).e G H λx J=>(wp K Γ as L).a G J λxs H2=>R (x::xs) H2;have vr2:∀i∈EF as,i∈EF (.acons a as):=λi hi=>QT _ hi;cases hmd:(md.headD .fro).isMut with
  |true =>
   have h2:C8 a=kf/\(pe Ψ as E).a md.tail ρ λxs A=>Q ((.d .none,kf)::xs) A:=by have h3:(if(md.headD .fro).isMut=kf then _ else _):=h;rw[hmd,Qc rfl]at h3;exact h3
   obtain⟨m,md',rfl⟩:∃m md',md=m::md':=by
    cases md with|nil=>cases hmd|cons m md'=>exact#[m,md',rfl]
   have em:m=.chg:=by have hmd:m.isMut=true:=hmd;cases m<;>first|rfl|cases hmd
   subst em;cases a with
   |var j=>let#[v,hv]:=hm j (show j∈j::bA md' as from QD);show(match G[j]? with|some (jr v)=>_|_=>False);rw[hv];refine(LA g as).a I X (λi hi=>hm i (QE _ hi)) h2.2 λvs O M S' B xs W Y s C r mv q=>?_;refine k (v::vs) O M S' B _ W Y s C #[.chg hmd r.av,r.fr,(r.vars vr2).tm,r.nw] ?_ q;show(jr (jr v))::(aB md' vs).map _=G[j]?::(bA md' as).map _;have mv:(aB md' vs).map (λv=>jr (jr v))=(bA md' as).map (λj=>G[j]?):=mv;rw[hv,mv]
   |_=>exact Qe h2.1 (by simp[C8])
  |false =>
   have h2:(pe Ψ a E).e ρ λx n A=>sq (α:=List (T×Bool)) (if n=kf then .d .none else x) A ((pe Ψ as E).a md.tail) λxs N=>Q ((x,n)::xs) N:=by have h3:(if(md.headD .fro).isMut=kf then _ else _):=h;rw[hmd,QB (by simp)]at h3;exact h3
   have hroots:bA md (.acons a as)=bA md.tail as:=by
    cases md with|nil=>cases as<;>rfl|cons m md'=>have hmd:m.isMut=false:=hmd;cases m<;>first|rfl|cases hmd
   have hmv:∀v vs,aB md (v::vs)=aB md.tail vs:=λv vs=>by unfold aB;generalize md.headD .fro=m at hmd;cases m<;>first | (cases vs<;>rfl)|cases hmd
   refine(LA g a).e I X h2 λv F1 J S1 A x n Z s1 I1 r1 q1=>?_;refine nq (LA g as) I1 (X.from s1.toStp) (λi hi=>hm i (by rw[hroots];exact hi)) q1 λvs F2 H2 S2 N xs W Y s2 I2 kp hs r2 mv q2=>?_;have s12:=s1.trans s2;have r2':=(r2.from s1.toStp).vars vr2;have mv':(aB md (v::vs)).map (λv=>jr (jr v))=(bA md (.acons a as)).map (λj=>G[j]?):=by rw[hroots,hmv];exact mv
   cases n with
   |true =>
    have hd:=r1.held;have hd2:=hd.step s2.toStp I2;refine k (v::vs) F2 H2 S2 N _ (λb=>Z b∨W b) Y s12 I2 #[.new hmd (s2.toStp.keep r1.tr hd.nu) r2.av (λb hb hw=>?_) λb=>WP,λb hb=>?_,r2'.tm,λi sl e b hb=>?_] mv' q2;rcases r2.fr b hw with q|q
    ·exact(hd.dom b hb).1 q
    exact hd.nu b hb q;rcases hb with hb|hb
    ·exact r1.fr rfl b hb
    exact r2'.fr b hb;rcases hb with hb|hb
    ·exact hd2.nw i sl e b hb
    exact r2.nw i sl e b hb
   |false =>
    have za:∀b,Z b->∃(i:Nat) (s:Sl),i∈EF a/\N[i]?=jr (jr s)/\S2 i b:=by
     cases hd:x.isD with
     |true =>
      intro b hb;exfalso;have tr:=r1.tr;cases x with
      |d x=>cases tr with|d r n=>exact n b hb
      |_=>cases hd
     |false=>let#[e1,e2]:=hs hd;rw[e1,e2];exact r1.tm rfl
    refine k (v::vs) F2 H2 S2 N _ W (λb=>Z b∨Y b) s12 I2 #[.tmp hmd (kp _ _ _ r1.tr) (λb hb=>.inl hb) (r2.av.sub λb hb=>.inr hb),r2'.fr,λb hb=>?_,r2.nw] mv' q2;rcases hb with hb|hb;let#[i,sl,h1,h2]:=za b hb;exact#[i,sl,Qm _ h1,h2];exact r2'.tm b hb]
end
end
structure Sts(C J:LN)(F H:Hp)(S:Ft)(ρ:vA)(σ:St)(F' H':Hp)(S':Ft)(ρ':vA)(σ':St):Prop where
 ff:Same F F'
 hh:∀b u,H b=jr u->¬ U ρ S b->H' b=jr u
 dm:∀b,H' b=kv->H b=kv
 fn:∀b,F b=kv->F' b≠kv->U ρ S b∨H b=kv
 uu:∀b,U ρ' S' b->U ρ S b∨H b=kv
 bo:∀(j:Nat) t,j∉J->ρ'[j]?=jr (jr (.bor t))->t.isD=kd->ρ[j]?=jr (jr (.bor t))/\S' j=S j/\σ'[j]?=σ[j]?
 sg:∀j∈C,σ'[j]?=σ[j]?
structure Stc(C:LN)(F H:Hp)(S:Ft)(ρ:vA)(σ:St)(F' H':Hp)(S':Ft)(ρ':vA)(σ':St):Prop where
 ff:Same F F'
 hh:∀b u,H b=jr u->¬ U ρ S b->H' b=jr u
 dm:∀b,H' b=kv->H b=kv
 fn:∀b,F b=kv->F' b≠kv->U ρ S b∨H b=kv
 uu:∀b,U ρ' S' b->U ρ S b∨H b=kv
 sg:∀j∈C,σ'[j]?=σ[j]?
section
variable{K:QC}{Γ:Ev}{Ψ:PEv}{E:XE}{L:XK}{F H m p A G:Hp}{S S1 B:Ft}{ρ y X:vA}{σ g Y:St}{C J:LN}
section
variable{t:T}{Z:mB}{i:Nat}
theorem Stp.sts(s:Stp F H S ρ m p S1 y):Sts C J F H S ρ σ m p S1 y σ:=#[s.ff,s.hh,s.dm,s.fn,s.uu,λj t _ e h=>let#[z,x]:=s.bo j t e h;#[z,x,rfl],λ_ _=>rfl]
theorem Sts.refl:Sts C J F H S ρ σ F H S ρ σ:=Stp.refl.sts
theorem Sts.trans(a:Sts C J F H S ρ σ m p S1 y g)(b:Sts C [] m p S1 y g A G B X Y):Sts C J F H S ρ σ A G B X Y where
 ff:=a.ff.trans b.ff
 hh:=λx u h n=>b.hh x u (a.hh x u h n) λz=>by rcases a.uu x z with q|q;exact n q;rw[q]at h;cases h
 dm:=λx h=>a.dm x (b.dm x h)
 fn:=λx h z=>by
  by_cases q:m x=kv;rcases b.fn x q z with w|w
  ·exact a.uu x w
  exact .inr (a.dm x w);exact a.fn x h q
 uu:=λx h=>by rcases b.uu x h with w|w;exact a.uu x w;exact .inr (a.dm x w)
 bo:=λj t v h n=>by let#[r,o,l]:=b.bo j t (by simp) h n;let#[f,e,k]:=a.bo j t v r n;exact#[f,o.trans e,l.trans k]
 sg:=λj v=>(b.sg j v).trans (a.sg j v)
theorem Sts.c(s:Sts C J F H S ρ σ m p S1 y g):Stc C F H S ρ σ m p S1 y g:=#[s.ff,s.hh,s.dm,s.fn,s.uu,s.sg]
theorem Stc.trans(a:Stc C F H S ρ σ m p S1 y g)(b:Stc C m p S1 y g A G B X Y):Stc C F H S ρ σ A G B X Y where
 ff:=a.ff.trans b.ff
 hh:=λx u h n=>b.hh x u (a.hh x u h n) λz=>by rcases a.uu x z with q|q;exact n q;rw[q]at h;cases h
 dm:=λx h=>a.dm x (b.dm x h)
 fn:=λx h z=>by
  by_cases q:m x=kv;rcases b.fn x q z with w|w
  ·exact a.uu x w
  exact .inr (a.dm x w);exact a.fn x h q
 uu:=λx h=>by rcases b.uu x h with w|w;exact a.uu x w;exact .inr (a.dm x w)
 sg:=λj v=>(b.sg j v).trans (a.sg j v)
theorem IE.fromS(h:IE K F H S ρ E L)(s:Sts C J F H S ρ σ m p S1 y g):IE K m p S1 y E L:=λx k A G B X v f r q =>
 h x k A G (λ_ _=>False) [] #[s.ff.trans v.ff,λb u e n=>v.hh b u (s.hh b u e n) (λz=>(s.uu b z).elim n λw=>(by rw[w]at e;cases e)),λb e=>s.dm b (v.dm b e),λb e z=>by
  by_cases q:m b=kv;rcases v.fn b q z with w|w
  ·exact s.uu b w
  exact .inr (s.dm b w);exact s.fn b e q,λb #[i,t,e,_]=>by simp at e,λj t e=>by simp at e] f r q
structure EndsOk(K:QC)(C:LN)(F H:Hp)(S:Ft)(ρ:vA)(σ:St)(Z:PEnds)(Dn:Ends):Prop where
 nx:∀F' H' S' ρ' σ',Sts C [] F H S ρ σ F' H' S' ρ' σ'->Rl K F' H' S' ρ' σ'->Z.nx ρ'->Dn.nx σ' H'
 rt:∀v t W F' H' S' ρ' σ',Stc C F H S ρ σ F' H' S' ρ' σ'->Rl K F' H' S' ρ' σ'->Tr K F' H' kf v t W->Held F' H' S' ρ' W->(∀b,W b->H b=kv∨U ρ S b)->Z.rt t ρ'->Dn.rt v H'
 bk:∀F' H' S' ρ' σ',Sts C [] F H S ρ σ F' H' S' ρ' σ'->Rl K F' H' S' ρ' σ'->Z.bk ρ'->Dn.bk σ' H'
 ct:∀F' H' S' ρ' σ',Sts C [] F H S ρ σ F' H' S' ρ' σ'->Rl K F' H' S' ρ' σ'->Z.ct ρ'->Dn.ct σ' H'
theorem Rx(s:Sts C J F H S ρ σ m p S1 y g){W:mB}(fr:∀b,W b->p b=kv∨U y S1 b):∀b,W b->H b=kv∨U ρ S b:=λb hb=>by rcases fr b hb with q|q;exact .inl (s.dm b q);exact(s.uu b q).symm
theorem EndsOk.from{Z:PEnds}{b:Ends}(ok:EndsOk K C F H S ρ σ Z b)(s:Sts C [] F H S ρ σ m p S1 y g):EndsOk K C m p S1 y g Z b :=
 #[λa k w z x u I q=>ok.nx a k w z x (s.trans u) I q,λv t W a k w z x u I r h fr q=>ok.rt v t W a k w z x (s.c.trans u) I r h (Rx s fr) q,
  λa k w z x u I q=>ok.bk a k w z x (s.trans u) I q,λa k w z x u I q=>ok.ct a k w z x (s.trans u) I q]
theorem Sts.setD(s:Sts C J F H S ρ σ m p S1 y g)(i:Nat)(a:i∉C)(v:V)(k:t.isD=kf)(Z:mB):Sts C J F H S ρ σ m p (PH S1 i Z) (y.set i (jr (.bor t))) (g.set i (jr v)) :=
 #[s.ff,s.hh,s.dm,s.fn,λb #[j,u,z,w]=>by
  rcases lA z with⟨_,e,_⟩| ⟨n,z⟩
  cases e;rw[ZA (qC n)]at w;exact s.uu b #[j,u,z,w],
 λj u h e x=>by
  rcases lA e with⟨_,e,_⟩| ⟨n,e⟩
  injection e with e;injection e with e;subst e;rw[k]at x;cases x;rw[ZA (qC n),bE n];exact s.bo j u h e x,
 λj h=>by have n:i≠j:=λe=>a (e▸h);rw[bE n];exact s.sg j h]
theorem Rl.setD(I:Rl K F H S ρ σ)(i:Nat){v:V}{x:D}(r:Rep K F v x):Rl K F H (PH S i λ_=>False) (ρ.set i (bD x)) (σ.set i (jr v)) :=
 I.setB i (.d r λ_ z=>z) λ_ _ _ _ _ z=>z.elim
theorem Rl.setN(I:Rl K F H S ρ σ)(i:Nat){v:V}(r:Tr K F H kf v t Z)(w:∀(j:Nat) s,j≠i->ρ[j]?=jr (jr s)->∀b,Z b->¬ S j b):Rl K F H (PH S i Z) (ρ.set i (jr (.own t))) (σ.set i (jr v)) where
 fh:=I.fh
 len:=by simpa using I.len
 sl:=λj s h=>by
  rcases lA h with⟨rfl,e,hl⟩| ⟨a,h⟩
  cases e;exact#[v,rY (by rw[<- I.len];exact hl),by rw[yB];exact r];rw[bE a,ZA (qC a)];exact I.sl j s h
 dj:=λj k f s n u x b hb hk=>by
  rcases lA u with⟨e,_,_⟩| ⟨l,u⟩
  subst e;rw[yB]at hb;rcases lA x with⟨e,_,_⟩| ⟨z,x⟩
  exact n e;rw[ZA (qC z)]at hk;exact w k s (qC z) x b hb hk;rw[ZA (qC l)]at hb;rcases lA x with⟨e,_,_⟩| ⟨z,x⟩
  subst e;rw[yB]at hk;exact w j _ n u b hk hb;rw[ZA (qC z)]at hk;exact I.dj j k f s n u x b hb hk
theorem Sts.setN(s:Sts C J F H S ρ σ m p S1 y g)(i:Nat)(w:i∉C)(v:V)(t:T)(fr:∀b,Z b->H b=kv∨U ρ S b):Sts C J F H S ρ σ m p (PH S1 i Z) (y.set i (jr (.own t))) (g.set i (jr v)) :=
 #[s.ff,s.hh,s.dm,s.fn,λb #[j,u,z,x]=>by
  rcases lA z with⟨rfl,_,_⟩| ⟨n,z⟩
  rw[yB]at x;exact(fr b x).symm;rw[ZA (qC n)]at x;exact s.uu b #[j,u,z,x],
 λj u h e k=>by
  rcases lA e with⟨_,e,_⟩| ⟨n,e⟩
  cases e;rw[ZA (qC n),bE n];exact s.bo j u h e k,
 λj h=>by have n:i≠j:=λe=>w (e▸h);rw[bE n];exact s.sg j h]
theorem Rl.frz1(I:Rl K F H S ρ σ)(h:ρ[i]?=jr (jr (.own t))):Rl K (oJ F H (S i)) H (PH S i λ_=>False) (ρ.set i (bD t.er)) σ/\Sts C [] F H S ρ σ (oJ F H (S i)) H (PH S i λ_=>False) (ρ.set i (bD t.er)) σ:=by
 let#[v,hv,r]:=I.sl i _ h;have k:=cH (H:=H) λb (hb:S i b)=>(r.dom b hb).2;have O:Rl K F H S (ρ.set i kv) σ:=I.drop (by simp) λj s e=>by
  rcases lA e with⟨_,z,_⟩| ⟨_,e⟩
  cases z;exact e
 have l:Held F H S (ρ.set i kv) (S i):=#[r.dom,λj s e b hb z=>by
  rcases lA e with⟨_,q,_⟩| ⟨n,e⟩
  cases q;exact I.dj i j t s n h e b hb z]
 have N:=O.frz l;have f:Rep K (oJ F H (S i)) v t.er:=Tr.kept k r λb u hb e=>by rw[nJ hb];exact e
 have a:=N.setD i f;have M:(ρ.set i kv).set i (bD t.er)=ρ.set i (bD t.er):=by simp
 have W:σ.set i (jr v)=σ:=by apply wN;intro j;rw[wR];split;rename_i e;subst e;split;exact hv.symm;rename_i n;rw[qF ()];rfl
 rw[M,W]at a;refine#[a,#[k,λb u e _=>e,λb e=>e,λb e z=>.inl ?_,λb #[j,u,x,w]=>.inl ?_,λj u _ e o=>?_,λ_ _=>rfl]];by_cases hb:S i b
 ·exact#[i,t,h,hb]
 rw[rC hb]at z;exact Qe e z;rcases lA x with⟨_,q,_⟩| ⟨n,x⟩
 ·cases q
 rw[ZA (qC n)]at w;exact#[j,u,x,w];rcases lA e with⟨_,q,_⟩| ⟨n,e⟩
 ·injection q with q;injection q with q;subst q;cases o
 exact#[e,ZA (qC n),rfl]
theorem T2{f:Option Sl->Option Sl}:ρ.modify i f=match ρ[i]? with|some o=>ρ.set i (f o)|none=>ρ:=by
 apply wN;intro j;rw[QAL];cases h:ρ[i]? with|none=>simp only;by_cases e:i=j;subst e;simp[h];simp[e]|some o=>simp only;rw[wR];by_cases e:i=j;subst e;let#[hl,rfl]:=Qh.mp h;simp[hl];simp[e]
theorem vT{α:Type}{l:List α}{o:α}(h:l[i]?=jr o):l.set i o=l:=by apply wN;intro j;rw[wR];split;rename_i e;subst e;rw[Qc (Qh.mp h).1,h];rfl
theorem Rl.frzAt:∀(x:LN) {F:Hp}{S:Ft}{ρ:vA},Rl K F H S ρ σ->∃z S',Rl K z H S' (frzAt x ρ) σ/\Sts C [] F H S ρ σ z H S' (frzAt x ρ) σ
 |[],F,S,ρ,I=>#[F,S,I,.refl]|i::x,F,S,ρ,I=>by
  have one:∃m S1,Rl K m H S1 (ρ.modify i cX) σ/\Sts C [] F H S ρ σ m H S1 (ρ.modify i cX) σ:=by
   rw[T2];cases h:ρ[i]? with
   |none=>exact#[F,S,I,.refl]|some o =>
    cases o with
    |none=>have e:ρ.set i (cX kv)=ρ:=vT h;simp only[e];exact#[F,S,I,.refl]|some u =>
     cases u with|bor t=>have e:ρ.set i (cX (jr (.bor t)))=ρ:=vT h;simp only[e];exact#[F,S,I,.refl]|own t=>exact#[_,_,I.frz1 h]
  let#[m,S1,a,w]:=one;let#[A,B,k,v]:=Rl.frzAt x a;exact#[A,B,k,w.trans v]
end
end
noncomputable def xK(C:LN):PT->Bool
 | .seq s r=>xK C s&&xK C r|.set i _=>!C.contains i|.own i _=>!C.contains i|.ife _ a b=>xK C a&&xK C b|.for_ x _ _ h=>x.ix.all (λi=>!C.contains i)&&xK C h|.nil=>kf|.expr _=>kf|.ret _=>kf|.six _ _ _=>kf|.sdf _ _=>kf|.whl _ h=>xK C h|.frz _ s=>xK C s
section
variable{K:QC}{Γ:Ev}{Ψ:PEv}{E:XE}{N:XK}{F H D B F2 M:Hp}{S S1 O:Ft}{ρ A P:vA}{σ G R:St}{C J:LN}
theorem Sts.bind{L:LN}(s:Sts C J F H S ρ σ D B S1 A G)(b:Bd L D B S1 A G F2 M O P R)(v:∀j∈L,j∈J)(w:∀j∈L,j∉C):Sts C J F H S ρ σ F2 M O P R :=
 #[s.ff.trans b.ff,λx u e n=>b.hh x u (s.hh x u e n),λx e=>s.dm x (b.dm x e),λx e z=>by
  by_cases q:D x=kv;exact .inr (s.dm x (b.fn x q z));exact s.fn x e q,λx u=>s.uu x (b.U u),λj t h e y=>by
  let#[l,i,g]:=b.out j λz=>h (v j z);rw[l]at e;let#[f,a,k]:=s.bo j t h e y;exact#[f,i.trans a,g.trans k],λj h=>(b.out j λz=>w j z h).2.2.trans (s.sg j h)]
theorem pZ{g:Tg}{body:PEnds->vA->Prop}{tb:TS}{Z:PEnds}{o:Ends}{xs:List Item}{p:LT}{st:Hp->Prop}{Y:mB}
  (ib:∀{F H:Hp}{S:Ft}{ρ:vA}{σ:St}{Z:PEnds}{o:Ends},Rl K F H S ρ σ->IE K F H S ρ E N->body Z ρ->EndsOk K C F H S ρ σ Z o->tb o σ H)
  (I:Rl K F H S ρ σ) (X:IE K F H S ρ E N) (hC:∀j∈g.ix,j∉C) (pr:xm (OZ K F H Y) xs p) (hy:∀b,Y b->¬ U ρ S b/\H b≠kv/\F b=kv) (hst:∀f k,Same F f->Same f k->(∀b,Y b->k b=H b)->st k) (h:uI body g Z p ρ)
  (onx:∀f k S' z w,Sts C g.ix F H S ρ σ f k S' z w->Rl K f k S' z w->Z.nx z->o.nx w k)
  (ort:∀v t W f k S' z w,Stc C F H S ρ σ f k S' z w->Rl K f k S' z w->Tr K f k kf v t W->Held f k S' z W->(∀b,W b->H b=kv∨U ρ S b)->Z.rt t z->o.rt v k):Co K xs st g tb o σ H:=by
 intro J hJ;have len:=qP pr;have yk:∀{D B:Hp}{S1:Ft}{A:vA}{G:St},Sts C g.ix F H S ρ σ D B S1 A G->∀b,Y b->B b=H b/\D b=none:=λ{D B S1 A G} s b hb=>by
  let#[n,d1,d2]:=hy b hb;refine#[?_,?_];cases e:H b with|none=>exact Qe e d1|some u=>exact s.hh b u e n
  by_cases q:D b=kv
  ·exact q
  exact((s.fn b d2 q).elim n d1).elim
 refine#[λi m w k=>i<=xs.9/\m=xs.9 - i/\∃z f S',Sts C g.ix F H S ρ σ f k S' z w/\Rl K f k S' z w/\uI body g Z (p.drop i) z,#[_,Qn _,rfl,ρ,F,S,.refl,I,by simpa using h],?_];rintro i m G B ⟨hi,rfl,A,D,S1,L,I1,h1⟩;have hs:=hst D B L.ff I1.fh λb hb=>(yk L b hb).1;rcases QBX i xs.9 with l|hge;refine .inr #[hJ.go i B hs l,λw k=>i+1<=xs.9/\∃z f S',Sts C g.ix F H S ρ σ f k S' z w/\Rl K f k S' z w/\uI body g Z (p.drop (i+1)) z,λw k #[a,b]=>#[_,(),a,rfl,b],λx M hyl=>?_];let#[it,hx,hm]:=hJ.yld i B x M hs l hyl;let#[y,hd,ry]:=Paired.get_of pr hx;rw[hd]at h1;unfold uI at h1;have key:L3.bindI K g it G B λR M=>tb { o with nx:=λw k=>i+1<=xs.9/\∃z f S',Sts C g.ix F H S ρ σ f k S' z w/\Rl K f k S' z w/\uI body g Z (p.drop (i+1)) z,ct:=λw k=>i+1<=xs.9/\∃z f S',Sts C g.ix F H S ρ σ f k S' z w/\Rl K f k S' z w/\uI body g Z (p.drop (i+1)) z,bk:=o.nx } R M:=by
  refine zV I1 (λb hb u=>?_) (ry.mono L.ff (yk L)) h1 λP R F2 H3 O bd I2 h2=>?_;rcases L.uu b u with q|q
  ·exact(hy b hb).1 q
  exact(hy b hb).2.1 q;have s2:=L.bind bd (λj hj=>hj) hC;exact ib I2 (X.fromS s2) h2 #[λf k S' z w Q I' q=>#[l,z,f,S',s2.trans Q,I',q],λv t W f k S' z w Q I' r hw fr q=>ort v t W f k S' z w (s2.c.trans Q) I' r hw (Rx s2 fr) q,
   λf k S' z w Q I' q=>onx f k S' z w (s2.trans Q) I' q,λf k S' z w Q I' q=>#[l,z,f,S',s2.trans Q,I',q]]
 exact TN hm key;have e:p.drop i=[]:=Wu ();rw[e]at h1;exact .inl #[hJ.stop i B hs hge,onx D B S1 A G L I1 h1]
theorem lG:∀(J:LN) (ρ:vA) (i:Nat) s,(kill J ρ)[i]?=jr (jr s)->ρ[i]?=jr (jr s)/\(i∈J->∀t,s=.bor t->t.isD=kf)
 |[],ρ,i,s,h=>#[h,λz=>by simp at z]|j::J,ρ,i,s,h=>by
  unfold kill at h;let#[x,w]:=lG J _ i s h;rw[QAL]at x;by_cases e:j=i;subst e;simp only[reduceIte]at x;cases q:ρ[j]? with
  |none=>rw[q]at x;cases x|some o =>
   rw[q]at x;have x:mG o=jr s:=by simpa using x
   cases o with
   |none=>cases x|some v =>
    cases v with
    |own t=>cases x;exact#[rfl,λ_ u z=>by cases z]|bor t =>
     have x:(if t.isD=kf then jr (Sl.bor t) else kv)=jr s:=x;cases y:t.isD with|true=>rw[y,Qc rfl]at x;cases x;exact#[rfl,λ_ u z=>by cases z;exact y]|false=>rw[y]at x;simp at x
  simp only[e,if_false]at x;refine#[by simpa using x,λm=>w ((QL.mp m).elim (λz=>Qe z.symm e) id)]
theorem rN:∀(J:LN) (ρ:vA),(kill J ρ).9=ρ.9
 |[],_=>rfl|j::J,ρ=>by unfold kill;rw[rN J];simp
theorem Sts.kill(s:Sts C J F H S ρ σ D B S1 A G):Sts C [] F H S ρ σ D B S1 (L3.kill J A) G :=
 #[s.ff,s.hh,s.dm,s.fn,λb #[i,t,y,x]=>s.uu b #[i,t,(lG J A i _ y).1,x],λj t _ e h=>by let#[y,x]:=lG J A j _ e;by_cases z:j∈J;rw[x z t rfl]at h;cases h;exact s.bo j t z y h,s.sg]
theorem kU:∀(L:LN) (ρ:vA) (j:Nat),(lock L ρ)[j]?=if j∈L then ρ[j]?.map gG else ρ[j]?
 |[],ρ,j=>by simp[lock]|i::L,ρ,j=>by
  have x:∀o,gG (gG o)=gG o:=λo=>by
   match o with
   |none=>rfl|some (.own _)=>rfl|some (.bor _)=>rfl
  unfold lock;rw[kU L,QAL];by_cases e:i=j;subst e;cases h:ρ[i]? with|none=>simp|some o=>simp[x]
  have y:¬ j=i:=λz=>e z.symm;simp[e,y]
theorem zU:∀(L:LN) (ρ:vA),(lock L ρ).9=ρ.9
 |[],_=>rfl|i::L,ρ=>by unfold lock;rw[zU L];simp
theorem dM:∀(L:LN) (x ρ:vA) (j:Nat),(∀i∈L,i<ρ.9)->(CC L x ρ)[j]?=if j∈L then jr (x[j]?.getD kv) else ρ[j]?
 |[],x,ρ,j,_=>by simp[CC]|i::L,x,ρ,j,h=>by unfold CC;rw[dM L x _ j (λk hk=>by simpa using h k (QE _ hk)),wR];by_cases e:i=j;subst e;simp[h i QD];have y:¬ j=i:=λz=>e z.symm;simp[e,y]
theorem cM:∀(L:LN) (h ρ:vA),(CC L h ρ).9=ρ.9
 |[],_,_=>rfl|i::L,h,ρ=>by unfold CC;rw[cM L];simp
theorem IH{ρ:vA}:∀(x:LN),∀i∈nC ρ x,∃t,ρ[i]?=jr (jr (.own t))
 |[],i,h=>by simp[nC]at h|j::x,i,h=>by
  unfold nC at h;split at h
  ·rename_i ho
   rcases QL.mp h with e|e
   ·subst e
    unfold yN at ho;split at ho;rename_i t e;exact#[t,e]
    all_goals cases ho
   exact IH x i e
  exact IH x i h
theorem jN{ρ:vA}{i:Nat}{t:T}(h:ρ[i]?=jr (jr (.own t))):∀(x:LN),i∈x->i∈nC ρ x
 |[],hi=>by simp at hi|j::x,hi=>by
  unfold nC;rcases QL.mp hi with e|e;subst e;have:yN ρ[i]?=true:=by rw[h];rfl
  rw[Qc this];exact QD;have:=jN h x e;split;exact QE _ this;exact this
section
variable{L:LN}(y:∀i∈L,∃t,ρ[i]?=jr (jr (.own t)))
include y
theorem uL{i:Nat}{s:Sl}(h:(lock L ρ)[i]?=jr (jr s)):(i∈L/\∃t,ρ[i]?=jr (jr (.own t))/\s=.bor t)∨(i∉L/\ρ[i]?=jr (jr s)):=by rw[kU]at h;by_cases x:i∈L;rw[Qc x]at h;let#[t,e]:=y i x;rw[e]at h;injection h with h;injection h with h;exact .inl #[x,t,e,h.symm];rw[QB x]at h;exact .inr #[x,h]
theorem gF{b:ko}(h:U (lock L ρ) S b):U ρ S b:=by
 let#[i,t,x,z]:=h;rcases uL y x with⟨_,u,_,e⟩| ⟨_,x⟩
 cases e;exact#[i,t,x,z]
theorem Rl.lock(I:Rl K F H S ρ σ):Rl K F H S (L3.lock L ρ) σ where
 fh:=I.fh
 len:=by rw[zU];exact I.len
 sl:=λi s e=>by
  rcases uL y e with⟨_,t,h,rfl⟩| ⟨_,h⟩
  let#[v,u,x]:=I.sl i _ h;exact#[v,u,x.weak];exact I.sl i s h
 dj:=λi j t s n k w=>by
  rcases uL y k with⟨_,_,_,z⟩| ⟨_,u⟩
  cases z;rcases uL y w with⟨_,a,x,_⟩| ⟨_,x⟩
  ·exact I.dj i j t _ n u x
  exact I.dj i j t s n u x
theorem Rl.lockU(I:Rl K F H S ρ σ){i:Nat}(x:i∈L){b:ko}(hb:S i b):¬ U (L3.lock L ρ) S b:=λ#[j,t,h,v]=>by
 let#[w,e]:=y i x;rcases uL y h with⟨_,_,_,z⟩| ⟨u,h⟩
 cases z;exact I.dj j i t _ (λz=>u (z▸x)) h e b v hb
theorem y0(I:Rl K F H S ρ σ)(s:Sts C [] F H S (lock L ρ) σ D B S1 A G)(W:Rl K D B S1 A G)(hl:∀i∈L,A[i]?=ρ[i]?.map gG) :
  ∃O,Rl K D B O (CC L ρ A) G/\Sts C [] F H S ρ σ D B O (CC L ρ A) G:=by
 classical
 have l1:∀i∈L,∃t,ρ[i]?=jr (jr (.own t))/\A[i]?=jr (jr (.bor t)):=λi h=>by let#[t,e]:=y i h;have:=hl i h;rw[e]at this;exact#[t,e,this]
 have hlt:∀i∈L,i<A.length:=λi h=>by let#[t,_,e]:=l1 i h;exact(Qh.mp e).1
 let O:Ft:=λi=>if i∈L then S i else S1 i
 have l:∀i∈L,O i=S i:=λi h=>Qc h;have g:∀i,i∉L->O i=S1 i:=λi h=>QB h;have get:∀i a,(CC L ρ A)[i]?=jr (jr a)->(i∈L/\∃t,ρ[i]?=jr (jr (.own t))/\A[i]?=jr (jr (.bor t))/\a=.own t)∨(i∉L/\A[i]?=jr (jr a)):=λi a e=>by rw[dM L ρ A i hlt]at e;by_cases h:i∈L;rw[Qc h]at e;let#[t,f,Y]:=l1 i h;rw[f]at e;injection e with e;have e:jr (Sl.own t)=jr a:=e;injection e with e;exact .inl #[h,t,f,Y,e.symm];rw[QB h]at e;exact .inr #[h,e]
 have Q:∀i∈L,∀k a,k∉L->A[k]?=jr (jr a)->∀b,S i b->¬ S1 k b:=λi h k a hk e b hb z=>by
  let#[t,f,_]:=l1 i h;cases a with
  |own u=>rcases s.uu b ⟨k,u,e,z⟩ with q|q;exact I.lockU y h hb q;exact(I.dom f hb).1 q
  |bor u =>
   cases o:u.isD with
   |true=>exact W.isD e o z|false =>
    let#[m,p,_]:=s.bo k u (by simp) e o;rw[p]at z;rcases uL y m with⟨q,_⟩| ⟨_,m⟩
    exact hk q;exact I.dj i k t _ (λq=>hk (q▸h)) f m b hb z
 refine#[O,#[W.fh,by rw[cM];exact W.len,λi a e=>?_,λi k t a n f Y b hb hk=>?_],#[s.ff,λb u e n=>s.hh b u e λz=>n (gF y z),s.dm,λb e z=>(s.fn b e z).imp (gF y) id,λb #[i,t,h1,h2]=>?_,λj t _ e o=>?_,s.sg]];rcases get i a e with⟨h,t,f,Y,rfl⟩| ⟨h,f⟩
 ·rw[l i h]
  let#[v,m,p]:=I.sl i _ f;cases o:t.isD with
  |true =>
   let#[v',g3,g4]:=W.sl i _ Y;refine#[v',g3,?_];have nb:∀b,¬ S i b:=λb=>I.isD f o;cases t with
   |d x =>
    have g4:Tr K D B kd v' (.d x) (S1 i):=g4;cases g4 with|d r _=>exact .d r nb
   |_=>cases o
  |false =>
   let#[_,_,g5]:=s.bo i t (by simp) Y o;refine#[v,g5.trans m,?_];have p:Tr K F H kf v t (S i):=p;refine p.mono s.ff λb hb=>?_;let#[d1,d2]:=p.dom b hb;have nu:=I.lockU y h hb;refine#[?_,?_];cases eb:H b with|none=>exact Qe eb d1|some u=>exact s.hh b u eb nu
   by_cases q:D b=kv
   ·exact q
   exact((s.fn b d2 q).elim nu d1).elim
 rw[g i h];exact W.sl i a f;rcases get i _ f with⟨h,t',X,a2,_⟩| ⟨h,X⟩
 ·rw[l i h]at hb
  rcases get k a Y with⟨w,t2,Z,b2,_⟩| ⟨w,Z⟩
  rw[l k w]at hk;exact I.dj i k t' _ n X Z b hb hk;rw[g k w]at hk;exact Q i h k a w Z b hb hk
 rw[g i h]at hb;rcases get k a Y with⟨w,t2,Z,b2,_⟩| ⟨w,Z⟩
 rw[l k w]at hk;exact Q k w i _ h X b hk hb;rw[g k w]at hk;exact W.dj i k t a n X Z b hb hk;rcases get i _ h1 with⟨h,t',X,a2,_⟩| ⟨h,X⟩
 ·rw[l i h]at h2
  exact .inl #[i,t',X,h2]
 rw[g i h]at h2;exact(s.uu b #[i,t,X,h2]).imp (gF y) id;rcases get j _ e with⟨_,_,_,_,z⟩| ⟨hj,f⟩
 ·cases z
 let#[m,p,g3]:=s.bo j t (by simp) f o;rcases uL y m with⟨q,_⟩| ⟨_,m⟩
 exact Qe q hj;exact#[m,(g j hj).trans p,g3]
end
theorem uR{i:Nat}(h:(!C.contains i)=kf):i∉C:=λz=>by have:C.contains i=true:=Qr.mpr z;rw[this]at h;cases h
theorem C7{x:LN}(h:(x.all λi=>!C.contains i)=kf):∀i∈x,i∉C:=λi y=>uR (Q1.mp h i y)
theorem FZ:∀{xs:List (T×Bool)},rS xs=kf->∀t∈CO xs,t.isD=kf
 |[],_,t,h=>by simp[CO]at h|p::r,h,t,y=>by
  simp only[rS,QZ]at h;simp only[CO,QL]at y;rcases y with rfl|y;let#[x,n]:=p;cases n with
  |true=>rfl|false =>
   have z:=h.1;cases x with|d x=>rfl|_=>cases z
  exact FZ h.2 t y
theorem Tn.bare{Y:mB}{vs:LV}{ts:LT}(h:Tn K F H Y vs ts):(∀t∈ts,t.isD=kf)->Tn K F H (λ_=>False) vs ts:=by
 induction h with
 |nil=>exact λ_=>.nil|@cons v t vs ts Z r z a w =>
  intro y;refine .cons (Z:=λ_=>False) ?_ (λ_ z=>z) (w λu k=>y u (QE _ k));have y:=y t QD;cases t with
  |d x=>cases r with|d q _=>exact .d q λ_ z=>z
  |_=>cases y
theorem c6{v:V}{t:T}{W:mB}{Z:PEnds}{h:Ends}(ok:EndsOk K C F H S ρ σ Z h)(s:Ste F H S ρ D B S1 A)(I:Rl K D B S1 A σ)(r:Tr K D B kf v t W)(x:Held D B S1 A W)(fr:∀b,W b->H b=kv∨U ρ S b)(q:Z.rt t A):h.rt v B :=
 ok.rt v t W D B S1 A σ (s.toStp.sts (J:=[])).c I r x fr q
theorem LQ(g:GOk K Γ Ψ):∀(e:PX) {F H:Hp}{S:Ft}{ρ:vA}{σ:St}{Z:PEnds}{f:Ends},Rl K F H S ρ σ->IE K F H S ρ E N->aD Ψ E Z.rt e ρ->EndsOk K C F H S ρ σ Z f->(wp K Γ e N).e σ H f.rt:=by
  intro e F H S ρ σ Z f I X h ok;have o:∀e,(pe Ψ e E).e ρ (λx n A=>BH x n=kf/\Z.rt x A)->(wp K Γ e N).e σ H f.rt:=λe h=>by refine(LA g e).e (Q:=λx n A=>BH x n=kf/\Z.rt x A) I X h λv F' H' S' m x n Za s J r #[he,q]=>?_;let#[W,p,Y,fr]:=r.strict he;exact c6 ok s J p Y fr q
  cases e with
  |ife t a b =>
   have h:(pe Ψ t E).t ρ λk A=>if k=kf then aD Ψ E Z.rt a A else aD Ψ E Z.rt b A:=h
   refine(LA g t).t I X h λk F' H' S' m s J q=>?_;cases k with|true=>exact LQ g a J (X.from s.toStp) q (ok.from s.toStp.sts)|false=>exact LQ g b J (X.from s.toStp) q (ok.from s.toStp.sts)
  |var i =>
   have y:Hw ρ i Z.rt ρ[i]?:=h;show(match σ[i]? with|some (jr v)=>f.rt v _|_=>False)
   match l:ρ[i]?,y with
   |some (jr (.own t)),y =>
    let#[v,w,r]:=I.sl i _ l;rw[w];have I0:Rl K F H S (ρ.set i kv) σ:=I.drop (by simp) λj s e=>by
     rcases lA e with⟨_,z,_⟩| ⟨_,e⟩
     cases z;exact e
    refine ok.rt v t (S i) F H S (ρ.set i kv) σ #[.refl _,λb u e _=>e,λb e=>e,λb e z=>Qe e z,λb #[j,u,w,h2]=>.inl ?_,λ_ _=>rfl] I0 r #[r.dom,λj s e b hb z=>?_] (λb hb=>.inr #[i,t,l,hb]) y;rcases lA w with⟨_,z,_⟩| ⟨_,w⟩
    ·cases z
    exact#[j,u,w,h2];rcases lA e with⟨_,q,_⟩| ⟨n,e⟩
    ·cases q
    exact I.dj i j t s n l e b hb z
   |some (jr (.bor t)),y =>
    let#[v,w,r]:=I.sl i _ l;rw[w];let#[L,y]:=y;cases t with
    |d x =>
     have r:Tr K F H kd v (.d x) (S i):=r;cases r with|d q n=>exact c6 (W:=λ_=>False) ok .refl I (.d q λ_ z=>z) .none (λ_ z=>z.elim) y
    |_=>cases L
   |some kv,y=>exact y.elim|none,y=>exact y.elim
  |_=>exact o _ h
theorem EI(g:GOk K Γ Ψ):∀(p:PT) {F H:Hp}{S:Ft}{ρ:vA}{σ:St}{Z:PEnds}{Dn:Ends},xK C p=kf->Rl K F H S ρ σ->IE K F H S ρ E N->pB Ψ E p Z ρ->EndsOk K C F H S ρ σ Z Dn->DS K Γ N p Dn σ H
 | .nil,_,_,_,_,_,_,_,c,I,X,h,ok=>ok.nx _ _ _ _ _ .refl I h|.seq s r,_,_,_,_,_,_,_,c,I,X,h,ok=>by let#[c1,c2]:=jA c;exact EI g s c1 I X h #[λF' H' S' L σ' s' J q=>EI g r c2 J (X.fromS s') q (ok.from s'),ok.rt,ok.bk,ok.ct]|.set i e,F,H,S,ρ,σ,Z,Dn,c,I,X,h,ok=>by have hi:=uR c;refine YE (RR:=λx B=>Dn.nx (σ.set i (jr x)) B) (LA g e) I X h λv F' H' S' L x n Za s J X' r er _ #[he,q]=>?_;exact ok.nx _ _ _ _ _ (s.toStp.sts.setD i hi v rfl _) (J.setD i (er he)) q|.expr e,F,H,S,ρ,σ,Z,Dn,c,I,X,h,ok=>(LA g e).e I X h λv F' H' S' L x n Za s J r q=>ok.nx _ _ _ _ _ s.toStp.sts J q|.ret e,F,H,S,ρ,σ,Z,Dn,c,I,X,h,ok=>LQ g e I X h ok|.ife t a b,F,H,S,ρ,σ,Z,Dn,c,I,X,h,ok=>by
  let#[c1,c2]:=jA c;refine(LA g t).t I X h λk F' H' S' L s J q=>?_;cases k with|true=>exact EI g a c1 J (X.from s.toStp) q (ok.from s.toStp.sts)|false=>exact EI g b c2 J (X.from s.toStp) q (ok.from s.toStp.sts)
 | .for_ tg ik its body,F,H,S,ρ,σ,Z,Dn,c,I,X,h,ok=>by
  let#[c1,c2]:=jA c;have hC:=C7 c1;refine RX (RR:=λvs B=>cC K ik vs B λxs st M=>Co K xs st tg (DS K Γ N body) Dn σ M) (LA g its) I X h λvs D B S1 A xs Y s1 I1 X1 tn tm q=>?_;rw[kM _ rfl]at q;have ok1:=ok.from s1.toStp.sts;cases ha:rS xs with
  |true=>have tn':=tn.bare (FZ ha);refine cK I1.fh tn' q λits ys st pr hst hc=>?_;rw[ha,Qc rfl]at hc;refine pZ (λI X h ok=>EI g body c2 I X h ok) I1 X1 hC pr (λb z=>z.elim) hst hc ?_ ?_;exact λF' H' S' L σ' s' I' q=>ok1.nx _ _ _ _ _ s'.kill (I'.drop (rN _ _) λi sl e=>(lG _ _ i sl e).1) q;exact λv t W F' H' S' L σ' s' I' r hw fr q=>ok1.rt v t W F' H' S' L σ' s' I' r hw fr q|false =>
   refine cK I1.fh tn q λits' ys st pr hst hc=>?_;rw[ha,QB (by simp)]at hc;have hL:=IH (ρ:=A) (EF its);have IL:=I1.lock hL;have sL:Sts C [] D B S1 A σ D B (λ_ _=>False) [] σ:=#[.refl _,λb u e _=>e,λb e=>e,λb e z=>Qe e z,λb #[i,t,e,_]=>by simp at e,λj t _ e=>by simp at e,λ_ _=>rfl]
   have XL:IE K D B S1 (lock (nC A (EF its)) A) E N:=λx dx F2 M O P s2 f r q =>
    X1 x dx F2 M (λ_ _=>False) [] #[s2.ff,λb u e n=>s2.hh b u e λz=>n (gF hL z),s2.dm,λb e z=>(s2.fn b e z).imp (gF hL) id,λb #[i,t,e,_]=>by simp at e,λj t e=>by simp at e] f r q
   refine pZ (λI X h ok=>EI g body c2 I X h ok) IL XL hC pr (λb hb=>?_) hst hc ?_ ?_;let#[i,sl,h1,h2,h3]:=tm b hb;refine#[λu=>?_,I1.dom h2 h3];cases sl with
   |own t=>exact I1.lockU hL (jN h2 _ h1) h3 u|bor t =>
    let#[j,t',e1,e2]:=u;rcases uL hL e1 with⟨_,_,_,z⟩| ⟨_,e1⟩
    cases z;exact I1.dj j i t' _ (λz=>by subst z;rw[h2]at e1;cases e1) e1 h2 b e2 h3
   intro F' H' S' L σ' s' I' #[q1,q2];have sk:=s'.kill;have Ik:=I'.drop (rN tg.ix L) λi sl e=>(lG _ _ i sl e).1;let#[O,I2,s2]:=y0 hL I1 sk Ik λi hi=>(q1 i hi).2;exact ok1.nx _ _ _ _ _ s2 I2 q2;intro v t W F' H' S' L σ' s' I' r hw fr q;exact ok1.rt v t W F' H' S' L σ' #[s'.ff,λb u e n=>s'.hh b u e λz=>n (gF hL z),s'.dm,λb e z=>(s'.fn b e z).imp (gF hL) id,λb u=>(s'.uu b u).imp (gF hL) id,s'.sg] I' r hw (λb hb=>(fr b hb).imp id (gF hL)) q
 | .own i e,F,H,S,ρ,σ,Z,Dn,c,I,X,h,ok=>by refine(LA g e).e (Q:=λx n A=>BH x n=kf/\Z.nx (A.set i (jr (.own x)))) I X h λv F' H' S' L x n Za s J r #[he,q]=>?_;let#[W,r2,hw,fr]:=r.strict he;exact ok.nx _ _ _ _ _ (s.toStp.sts.setN i (uR c) v x fr) (J.setN i r2 λj sl _ e b hb=>hw.nw j sl e b hb) q|.six o i e,F,H,S,ρ,σ,Z,Dn,c,I,X,h,ok=>by
  have later:∀{j:Nat}{t:T}{v0:V},ρ[j]?=jr (jr (.own t))->Tr K F H kf v0 t (S j)->∀{F' H':Hp}{S':Ft}{L:vA},Ste F H S (ρ.set j (jr (.bor t))) F' H' S' L->Tr K F' H' kf v0 t (S j)/\∀b,S j b->H' b=H b:=λ{j t v0} hj r0 {F' H' S' L} s=>#[s.toStp.keep r0 (I.lock1U hj),λb hb=>by
   cases e:H b with|none=>exact Qe e (r0.dom b hb).1|some u=>exact s.hh b u e (I.lock1U hj b hb)]
  cases o with
  |var j =>
   have h:vD ρ[j]? _:=h;unfold vD at h;split at h;rename_i t hj;let#[v0,hv,r0]:=I.sl j _ hj;have r0:Tr K F H kf v0 t (S j):=r0;show(wp K Γ e N).e σ H λv B=>(wp K Γ (.var j) N).e σ B λov M=>(wp K Γ i N).e σ M λiv H3=>uT K ov iv v H3 λH4=>Dn.nx σ H4;refine YE (LA g e) (I.lock1 hj) (X.lock1 hj) h λxv D B S1 A x n Zx s1 I1 X1 _ er1 _ #[he,q1]=>?_;have rx:=er1 he;show(match σ[j]? with|some (jr v)=>_|_=>False);rw[hv];refine YE (LA g i) I1 X1 q1 λiv F2 M O P y m Zy s2 I2 X2 _ er2 _ #[he2,hj2,q2]=>?_;have s12:=s1.trans s2;refine L5 I2.fh (later hj r0 s12).1 (er2 he2) (rx.mono s2.ff) q2 λt' H3 S3 hh dm rt sub q=>?_;let#[st,I3,_]:=SI (W:=λ_=>False) I hj hv s12 I2 hh dm rt (λb hb=>.inl (sub b hb)) .none (λ_ z=>z.elim);exact ok.nx _ _ _ _ _ st.toStp.sts I3 q
   all_goals exact h.elim
  |idx a k =>
   cases a with
   |var j =>
    have h:vD ρ[j]? _:=h;unfold vD at h;split at h;rename_i t hj;let#[v0,hv,r0]:=I.sl j _ hj;have r0:Tr K F H kf v0 t (S j):=r0;show(wp K Γ e N).e σ H λv B=>(wp K Γ (.var j) N).e σ B λov M=>(wp K Γ k N).e σ M λzv H3=>O0 K ov zv H3 λow H4=>(wp K Γ i N).e σ H4 λiv H5=>uT K ow iv v H5 λH6=>Dn.nx σ H6;refine YE (LA g e) (I.lock1 hj) (X.lock1 hj) h λxv D B S1 A x n Zx s1 I1 X1 _ er1 _ #[he,q1]=>?_;have rx:=er1 he;show(match σ[j]? with|some (jr v)=>_|_=>False);rw[hv];refine YE (LA g k) I1 X1 q1 λzv F2 M O P z l Zz s2 I2 X2 _ er2 _ #[hez,b,ks,ts,n,s,et,hk,hf,ht,q2]=>?_;have s12:=s1.trans s2;have rz:=er2 hez;subst et;let#[r2,k2]:=later hj r0 s12;obtain⟨a,o,vs,ea,ho,dk,hw⟩:∃a o vs,v0=.ref a/\M a=jr o/\HK K F2 b o ks vs/\∃w,vs[n]?=jr w/\S j a:=by
     cases r2 with|dct h1 dk h2 h3 h4 h5=>let#[w,_,g1,_]:=h3.get ht;exact#[_,_,_,rfl,h1,dk,w,g1,(h5 _).mpr (.inl rfl)]
    let#[w,hw,sa]:=hw;subst ea;have gd:=(dk.mono I2.fh).get ho (rz.mono I2.fh) hk;rw[hf]at gd;have gd:iS K M a zv (vs[n]?):=gd;rw[hw]at gd;have fin:(wp K Γ i N).e σ M λiv H5=>uT K w iv xv H5 λH6=>Dn.nx σ H6:=by
     refine YE (LA g i) I2 X2 q2 λiv F3 H3 S3 ρ3 y m Zy s3 I3 X3 _ er3 _ #[he3,hj3,q3]=>?_;have s13:=s12.trans s3;let#[r3,k3]:=later hj r0 s13;have ho3:H3 a=jr o:=by rw[k3 a sa,<- k2 a sa];exact ho
     refine gb I3.fh r3 ho3 dk hw ht (er3 he3) ((rx.mono s2.ff).mono s3.ff) q3 λt' H4 S4 hh dm rt sub q=>?_;let#[st,I4,_]:=SI (W:=λ_=>False) I hj hv s13 I3 hh dm rt (λb hb=>.inl (sub b hb)) .none (λ_ z=>z.elim);exact ok.nx _ _ _ _ _ st.toStp.sts I4 q
    cases zv with|str z=>exact#[w,gd,fin]|ref c=>exact#[w,gd,fin]|_=>exact gd.elim
    all_goals exact h.elim
   |_=>exact h.elim
  |_=>exact h.elim
 | .sdf j k,F,H,S,ρ,σ,Z,Dn,c,I,X,h,ok=>by
  have h:vD ρ[j]? _:=h;unfold vD at h;split at h;rename_i t hj;let#[v0,hv,r0]:=I.sl j _ hj;have r0:Tr K F H kf v0 t (S j):=r0;let#[hd,h]:=h;show(match σ[j]? with|some (jr v)=>K4 K "dict" v H/\(wp K Γ k N).e σ H λx B=>∀p,B p=kv->HL K v [x,.ref p] (DA B p (.dT 0 [])) λ_ M=>Dn.nx σ M|_=>False);rw[hv];constructor;cases r0 with
  |@dct _ b _ _ _ _ _ _ _ h1 dk _ _ _ _ =>
   cases b with|true=>let#[ep,kvs,rfl,_]:=dk;exact .inr (.inr (.inl #[rfl,.inr #[ep,kvs,h1]]))|false=>cases hd
  |_=>cases hd
  refine YE (LA g k) (I.lock1 hj) (X.lock1 hj) h λiv D B S1 A y m Zy s1 I1 X1 _ er _ #[he,hj1,q1]=>?_;intro p hp;have r1:=s1.toStp.keep r0 (I.lock1U hj);refine Yj I1.fh hp r1 (er he) q1 λt' H3 S3 hh dm rt sub q=>?_;let#[st,I3,_]:=SI (W:=λ_=>False) I hj hv s1 I1 hh dm rt (λb hb=>(sub b hb).imp id λ(z:b=p)=>.inr (by rw[z];exact hp)) .none (λ_ z=>z.elim);exact ok.nx _ _ _ _ _ st.toStp.sts I3 q
  all_goals exact h.elim
 | .whl t body,F,H,S,ρ,σ,Z,Dn,c,I,X,h,ok=>by
  let#[W,#[m0,w0],turn]:=h;refine#[λm σ' H'=>∃L F' S',Sts C [] F H S ρ σ F' H' S' L σ'/\Rl K F' H' S' L σ'/\W m L,#[m0,ρ,F,S,.refl,I,w0],?_];rintro m G B ⟨A,D,S1,s1,I1,w1⟩;refine(LA g t).t I1 (X.fromS s1) (turn m A w1) λk F' H' S' L s' J q=>?_;have s2:=s1.trans s'.toStp.sts;cases k with
  |false=>exact ok.nx _ _ _ _ _ s2 J q|true =>
   refine#[λσ' H'=>∃m',m' < m/\∃L F' S',Sts C [] F H S ρ σ F' H' S' L σ'/\Rl K F' H' S' L σ'/\W m' L,λ_ _ z=>z,?_];refine EI g body c J (X.fromS s2) q #[?_,?_,?_,?_];exact λF' H' S' L σ' s' I' #[m',hm,w]=>#[m',hm,L,F',S',s2.trans s',I',w]
   exact λv t W F' H' S' L σ' s' I' r hw fr q=>ok.rt v t W F' H' S' L σ' (s2.c.trans s') I' r hw (Rx s2 fr) q;exact λF' H' S' L σ' s' I' q=>ok.nx _ _ _ _ _ (s2.trans s') I' q;exact λF' H' S' L σ' s' I' #[m',hm,w]=>#[m',hm,L,F',S',s2.trans s',I',w]
 | .frz is s,F,H,S,ρ,σ,Z,Dn,c,I,X,h,ok=>by let#[F',S',I',s']:=I.frzAt (C:=C) is;exact EI g s c I' (X.fromS s') h (ok.from s')
end
section
variable{z:Ev}{n:Need}
noncomputable def Iv(x:Str)(n:String):Bool:=(x==("bool":Str)&&n == "bool")||(x==("int":Str)&&n == "int")||(x==("str":Str)&&n == "str")||(x==("list":Str)&&n == "list")||(x==("tuple":Str)&&n == "tuple")||(x==("ValueError":Str)&&n == "ValueError")
theorem Ii{x:Str}{n:String}(h:Iv x n=kf):y1 x=jr (.type n):=by simp only[Iv,wz,QZ,beq_iff_eq]at h;rcases h with((((⟨rfl,rfl⟩| ⟨rfl,rfl⟩)|⟨rfl,rfl⟩)|⟨rfl,rfl⟩)|⟨rfl,rfl⟩)|⟨rfl,rfl⟩<;>kernel_rfl
structure Need where
 fn:LS
 va:LS
 no:LS
noncomputable def lx(n:Need):ItK->Bool
 | .val=>kf|.rng1=>n.no.contains ("range":Str)|.enum=>n.no.contains ("enumerate":Str)|.zip2=>n.no.contains ("zip":Str)|.rev=>n.no.contains ("reversed":Str)|.itm=>kf
def lB(n:Need):PX->Bool
 | .glo x=>n.va.contains x|.bty x t=>n.no.contains x&&Iv x t|.bin _ a b | .cmp _ a b | .and a b | .or a b | .idx a b | .acons a b | .dsp a b=>lB n a&&lB n b
 | .not a | .lst a | .tup a=>lB n a
 | .trv a=>n.no.contains "tuple" && (n.no.contains "reversed" && lB n a)|.lrv a=>n.no.contains "list" && (n.no.contains "reversed" && lB n a)|.ife a b c | .slc a b c=>lB n a&&(lB n b&&lB n c)
 | .call f y=>n.fn.contains f&&lB n y|.bi f y=>n.no.contains f.nm&&lB n y|.isi a c=>n.no.contains ("isinstance":Str)&&(lB n a&&lB n c)|.mt _ o y=>lB n o&&lB n y|.comp _ _ _ w u h v=>lx n w&&(lB n u&&(lB n h&&lB n v))|_=>kf
def cF(n:Need):PT->Bool
 | .seq s r=>cF n s&&cF n r|.set _ e=>lB n e|.own _ e=>lB n e|.expr e=>lB n e|.ret e=>lB n e|.ife c a b=>lB n c&&(cF n a&&cF n b)|.for_ _ y x h=>lx n y&&(lB n x&&cF n h)|.six o i e=>lB n o&&(lB n i&&lB n e)|.sdf i k=>lB n (iq i k)|.whl c b=>lB n c&&cF n b|.frz _ s=>cF n s|.nil=>kf
noncomputable def NR(z:Ev)(n:Need):Glob:=#[z,λf=>f∈n.fn,λx=>x∈n.va,λx=>x∈n.no]
theorem L8{x:ItK}(h:lx n x=kf):Ss (NR z n) x:=by
 cases x with|val=>trivial|itm=>trivial|_=>exact Qr.mp h
theorem HC:∀(p:PX),lB n p=kf->IA (NR z n) p:=by
 intro p;induction p with
 |glo x=>intro h;exact Qr.mp h|bty x t=>intro h;let#[v,u]:=jA h;exact#[Qr.mp v,Ii u]|bin _ a b y w|cmp _ a b y w|and a b y w|or a b y w|idx a b y w|acons a b y w|dsp a b y w=>intro h;let#[v,u]:=jA h;exact#[y v,w u]
 |not a y|lst a y|tup a y=>intro h;exact y h
 |ife a b c y w i|slc a b c y w i=>intro h;let#[v,e]:=jA h;let#[u,k]:=jA e;exact#[y v,w u,i k]
 |call f l y=>intro h;let#[v,u]:=jA h;exact#[Qr.mp v,y u]|lrv a y=>intro h;let#[v,u]:=jA h;let#[k,g]:=jA u;exact#[Qr.mp v,Qr.mp k,y g]|trv a y=>intro h;let#[v,u]:=jA h;let#[k,g]:=jA u;exact#[Qr.mp v,Qr.mp k,y g]|bi f l y=>intro h;let#[v,u]:=jA h;exact#[Qr.mp v,y u]|isi a c y i=>intro h;let#[v,e]:=jA h;let#[u,k]:=jA e;exact#[Qr.mp v,y u,i k]|mt _ o l q y=>intro h;let#[v,u]:=jA h;exact#[q v,y u]|comp _ _ _ Z m j Y X s r=>intro h;let#[v,h]:=jA h;let#[u,h]:=jA h;let#[k,g]:=jA h;exact#[L8 v,X u,s k,r g]|_=>intro _;trivial
theorem N1:∀(p:PT),cF n p=kf->bF (NR z n) p:=by
 intro p;induction p with
 |seq s r f l=>intro h;let#[u,y]:=jA h;exact#[f u,l y]|set _ e|own _ e|expr e|ret e=>intro h;exact HC _ h
 |six o i e=>intro h;let#[u,x]:=jA h;let#[y,w]:=jA x;exact#[HC _ u,HC _ y,HC _ w]|sdf i k=>intro h;exact HC _ h|frz _ s f=>intro h;exact f h|whl c b v=>intro h;let#[u,y]:=jA h;exact#[HC _ u,v y]|ife c a b m v=>intro h;let#[u,x]:=jA h;let#[y,w]:=jA x;exact#[HC _ u,m y,v w]|for_ _ q j g v=>intro h;let#[u,x]:=jA h;let#[y,w]:=jA x;exact#[L8 u,HC _ y,v w]|_=>intro _;trivial
noncomputable def YN(N h:LS)(sc:hZ):Bool:=sc.kind==.function&&!sc.isCoroutine&&!sc.isGenerator&&vK N&&N.take h.9==h &&
 h.all (λx=>sc.names.lookup x==jr .local||sc.names.lookup x==jr .cell)&&sc.names.all λy=>y.2 != .free
theorem JU{N x:LS}{sc:hZ}(h:YN N x sc=kf):FnScope N x sc:=by simp only[YN,QZ,Q1,wz,beq_iff_eq,qD,bne_iff_ne,ne_eq]at h;let#[#[#[#[#[#[b,a],k],w],v],u],y]:=h;exact#[b,a,k,DE w,v,u,y]
def AA(n:Need)(b:PT)(N h:LS)(st:gV):Bool:=YN N h (SA st)&&jS b #[N,SA st] (aC st)&&cF n b
def gk:Md->T->Sl
 | .chg,t=>.own t|_,t=>.bor t
noncomputable def dE:List Md->LT->vA
 |_,[]=>[]|md,t::ts=>jr (gk (md.headD .fro) t)::dE md.tail ts
def oB(N:LS)(md:List Md)(ts:LT):vA:=dE md ts++QAr (N.9 - ts.9) kv
noncomputable def CB:Nat->List Md->Nat->LN
 |_,_,0=>[]|k,md,n+1=>match md.headD .fro with
  | .chg=>k::CB (k+1) md.tail n|_=>CB (k+1) md.tail n
def nW:Option (LT)->(LT->Prop)->Prop
 |some os,Q=>Q os|none,_=>False
def yD(P:PSp)(n:Nat)(Q:T->LT->Prop):PEnds where
 nx:=λh=>nW (MA (CB 0 P.md n) h) (Q (.d .none))
 rt:=λt h=>nW (MA (CB 0 P.md n) h) (Q t)
abbrev Cz(Ψ:PEv)(b:PT)(p:PSp)(N h:LS)(ds:LT)(Q:T->LT->Prop):Prop:=ds.9=h.9/\pF Ψ b (yD p h.9 Q) (oB N p.md ds)
abbrev aE(Ψ:PEv)(b:PT)(p:PSp)(N x:LS):Prop:=∀(h:LT) (Q:T->LT->Prop) (E:XE),p.run h Q E->h.9=x.9/\pF Ψ b (yD p x.9 Q) (oB N p.md h)
def CV(mg:Str->Option kn)(x:Str):V:=((mg x).bind yO).getD .non
def gt(K:QC)(mg:Str->Option kn)(Ψ:PEv):Ev:=#[λf=>lift K (Ψ.sp f),CV mg]
structure ValsOk(P:k5)(w:xb)(K:QC)(mg:Str->Option kn)(Ψ:PEv)(va:LS):Prop where
 rep:∀x d,Ψ.va x=jr d->∀F,Rep K F (CV mg x) d
 has:∀x∈va,∃u v,mg x=jr u/\yO u=jr v
theorem YY{u:kn}{v:V}(h:yO u=jr v):aA v u:=by cases u<;>first | (obtain rfl:=Qp h;first|rfl|exact#[_,rfl])|exact nomatch (show(none:Option V)=jr v from h)
end
section
variable{P:k5}{w:xb}{K:QC}{mg:Str->Option kn}{base:vu}{Ψ:PEv}
section
variable{k:Nat}{F H:Hp}{Y M:mB}{md:List Md}{vs:LV}{ts:LT}{N l:LS}{R:PSp}{x o:Str}{st:gV}{f:ko}{p:zo}{n:Need}
def LG(P:k5)(w:xb)(K:QC)(mg:Str->Option kn)(base:vu)(Ψ:PEv)(k:Nat)(f:Str):Prop :=
 ∃(a:ko) (p:zo) (l:LS),FnOk P w K mg base L4 k a p l (lift K (Ψ.sp f))/\mg f=jr (.ref a)/\wf K (.ref a)=kf/\HJ K p l []
theorem LG.mono{j:Nat}{f:Str}(h:LG P w K mg base Ψ j f)(hk:j<=k):LG P w K mg base Ψ k f:=by let#[a,p,l,z,y]:=h;exact#[a,p,l,z.mono hk,y]
theorem ArgsR.length(h:ArgsR K F H Y md vs ts):vs.9=ts.length:=by
 induction h with|nil=>rfl|chg _ _ e=>exact wy Nat.succ e|rd _ _ _ _ e=>exact wy Nat.succ e
theorem kJ:∀(m:List Md) (ts:LT),(dE m ts).9=ts.9
 |_,[]=>rfl|m,d::ds=>by unfold dE;rw[QN,QN,kJ]
theorem T6{m:Md}(h:m≠.chg)(t:T):gk m t=.bor t:=by cases m<;>first|rfl|exact Qe rfl h
theorem zI(md:List Md)(v:V)(vs:LV):aB md (v::vs)=match md.headD .fro with | .chg=>v::aB md.tail vs|_=>aB md.tail vs:=by first | (rw[aB];done) | (rw[aB];cases md.headD .fro<;>rfl)
theorem cN(md:List Md)(v:T)(vs:LT):MB md (v::vs)=match md.headD .fro with | .chg=>v::MB md.tail vs|_=>MB md.tail vs:=by first | (rw[MB];done) | (rw[MB];cases md.headD .fro<;>rfl)
theorem sP(md:List Md)(t:T)(ts:LT):dE md (t::ts)=jr (gk (md.headD .fro) t)::dE md.tail ts:=by rw[dE]
theorem Ae(h:ArgsR K F H Y md vs ts)(r:Trs K F H kf (aB md vs) (MB md ts) M) :
  ∃Z:Ft,(∀(i:Nat) s,(dE md ts)[i]?=jr (jr s)->∃v,vs[i]?=jr v/\Tr K F H s.st v s.t (Z i))/\(∀(i:Nat) t,(dE md ts)[i]?=jr (jr (.own t))->∀b,Z i b->M b)/\(∀(i:Nat) t,(dE md ts)[i]?=jr (jr (.bor t))->∀b,Z i b->Y b) /\
   ∀(i j:Nat) t u,i≠j->(dE md ts)[i]?=jr (jr (.own t))->(dE md ts)[j]?=jr (jr (.own u))->∀b,Z i b->¬ Z j b:=by
 induction h generalizing M with
 |nil=>exact#[λ_ _=>False,λi s e=>by simp[dE]at e,λi t e=>by simp[dE]at e,λi t e=>by simp[dE]at e,λi j t u _ e=>by simp[dE]at e]|@chg md v vs t ts a O A =>
  have J:aB md (v::vs)=v::aB md.tail vs:=by rw[zI,a]
  have I:MB md (t::ts)=t::MB md.tail ts:=by rw[cN,a]
  rw[J,I]at r;cases r with
  |@cons _ _ _ _ _ _ L Z2 W Q n q =>
   let#[Z,E,g,C,B]:=A Q;have G:dE md (t::ts)=jr (.own t)::dE md.tail ts:=by rw[sP,a];rfl
   rw[G];refine#[λi=>match i with|0=>L|i+1=>Z i,λi s e=>?_,λi u e b hb=>?_,λi u e b hb=>?_,λi j u w X e m b hb y=>?_];cases i with|zero=>simp at e;subst e;exact#[v,rfl,W]|succ i=>exact E i s (by simpa using e)
   cases i with|zero=>exact(q b).mpr (.inl hb)|succ i=>exact(q b).mpr (.inr (g i u (by simpa using e) b hb))
   cases i with|zero=>simp at e|succ i=>exact C i u (by simpa using e) b hb
   cases i with
   |zero =>
    cases j with|zero=>exact X rfl|succ j=>exact n b hb (g j w (by simpa using m) b y)
   |succ i =>
    cases j with|zero=>exact n b y (g i u (by simpa using e) b hb)|succ j=>exact B i j u w (λz=>X (by rw[z])) (by simpa using e) (by simpa using m) b hb y
 |@rd md v vs t ts L a W S O A =>
  have J:aB md (v::vs)=aB md.tail vs:=by rw[zI];cases e:md.headD .fro<;>first|exact Qe e a|rfl
  have I:MB md (t::ts)=MB md.tail ts:=by rw[cN];cases e:md.headD .fro<;>first|exact Qe e a|rfl
  rw[J,I]at r;let#[Z,E,g,C,B]:=A r;have G:dE md (t::ts)=jr (.bor t)::dE md.tail ts:=by rw[sP,T6 a]
  rw[G];refine#[λi=>match i with|0=>L|i+1=>Z i,λi s e=>?_,λi u e b hb=>?_,λi u e b hb=>?_,λi j u w X e m b hb y=>?_];cases i with|zero=>simp at e;subst e;exact#[v,rfl,W]|succ i=>exact E i s (by simpa using e)
  cases i with|zero=>simp at e|succ i=>exact g i u (by simpa using e) b hb
  cases i with|zero=>exact S b hb|succ i=>exact C i u (by simpa using e) b hb
  cases i with
  |zero=>simp at e|succ i =>
   cases j with|zero=>simp at m|succ j=>exact B i j u w (λz=>X (by rw[z])) (by simpa using e) (by simpa using m) b hb y
theorem G5(f:Same F H)(h:ArgsR K F H Y md vs ts)(r:Trs K F H kf (aB md vs) (MB md ts) M)(C:∀b,Y b->¬ M b) :
  ∃S,Rl K F H S (oB N md ts) (sD N vs)/\∀b,U (oB N md ts) S b->M b:=by
 let#[Z,A,a,W,X]:=Ae h r;have hl:=h.9;have get:∀(i:Nat) s,(oB N md ts)[i]?=jr (jr s)->(dE md ts)[i]?=jr (jr s):=λi s e=>by
  unfold oB at e;rcases QBX i ts.9 with z|z
  ·rwa [qS (by rw[kJ];exact z)]at e
  rw[Qu (by rw[kJ];exact z),WA]at e;split at e<;>cases e
 refine#[Z,#[f,?_,λi s e=>?_,λi j t s n q m b hb y=>?_],λb #[i,t,e,hb]=>a i t (get i _ e) b hb];unfold oB sD;rw[QI,QI,kJ,QF,wI,wI,hl];let#[v,g,B]:=A i s (get i s e);refine#[v,?_,B];unfold sD;rw[qS (by rw[QF];exact(Qh.mp g).1),Qd,g];rfl;cases s with|own u=>exact X i j t u n (get i _ q) (get j _ m) b hb y|bor u=>exact C b (W j u (get j _ m) b y) (a i t (get i _ q) b hb)
theorem NP:∀{md:List Md}{k n:Nat}{vs:LV}{σ:St},vs.9=n->(∀(i:Nat) v,vs[i]?=jr v->σ[k+i]?=jr (jr v))->(aB md vs).map (λv=>jr (jr v))=(CB k md n).map λj=>σ[j]?
 |md,k,0,vs,σ,h,g=>by
  cases vs with|nil=>rfl|cons _ _=>cases h
 |md,k,n+1,vs,σ,h,g=>by
  cases vs with
  |nil=>cases h|cons v vs =>
   have y:=NP (md:=md.tail) (k:=k+1) (n:=n) (vs:=vs) (σ:=σ) (by simpa using h) λi w z=>by have:=g (i+1) w (by simpa using z);rw[show k+1+i=k+(i+1) by omega];exact this
   have g0:=g 0 v rfl;rw[zI];unfold CB;cases e:md.headD .fro with|chg=>simp only[QX,y];rw[show σ[k]?=jr (jr v) from g0]|_=>exact y
theorem GN:∀{md:List Md}{k n j:Nat},j∈CB k md n->k<=j
 |md,k,0,j,h=>by simp[CB]at h|md,k,n+1,j,h=>by
  unfold CB at h;cases e:md.headD .fro with
  |chg=>rw[e]at h;rcases QL.mp h with z|z;omega;have:=GN z;omega
  |_=>rw[e]at h;have:=GN h;omega
theorem HU:∀(md:List Md) (k n:Nat),(CB k md n).Nodup
 |md,k,0=>Q7|md,k,n+1=>by
  have h:=HU md.tail (k+1) n;unfold CB;cases e:md.headD .fro with|chg=>exact Ql.mpr #[λz=>by have:=GN z;omega,h]|_=>exact h
theorem E8{b:PT}(F:Fun K x o st f p)(TB:AA n b N l st=kf)(hc:xK (CB 0 R.md l.9) b=kf)
  (fns:∀g∈n.fn,LG P w K mg base Ψ k g) (G:ValsOk P w K mg Ψ n.va) (nos:∀y∈n.no,mg y=kv)
  (body:∀ts Q E,R.run ts Q E->ts.9=l.9/\pF Ψ b (yD R l.9 Q) (oB N R.md ts)):FnOk P w K mg base L4 (k+1) f p l (lift K R):=by
 let#[c12,c3]:=jA TB;let#[c1,c2]:=jA c12;have S:=JU c1;refine F.ok S (λvs H Q E h=>?_) (λcdv A L s H vs Q E hr h=>?_);let#[F',ts,M,Y,h1,h2,h3,h4,h5]:=h;rw[h2.9];exact(body ts _ _ h5).1;let#[F',ts,M,Y,h1,h2,h3,h4,h5]:=h;have q:=(body ts _ _ h5).2;have hlen:=(body ts _ _ h5).1;have ok:OkS ((oX L4 P w K mg base N o (SA st) f cdv A L s H E).nox) #[N,SA st] (NR (gt K mg Ψ) n) E0:={
  N:=rfl
  sc:=rfl
  calm:=rfl
  un:=by have:=hr.un;show(A.deeper _).units+66<gl;omega
  fn:=λg hg=>by let#[a,gd,gps,g1,g2,g3,g4]:=fns g hg;exact#[L4,k,a,gd,gps,g1,hr,g2,g3,g4,kr,λ_ _ _ _ _ z=>z]
  val:=λy hy=>by let#[u,v,e1,e2]:=G.has y hy;refine#[u,e1,?_];show aA (CV mg y) u;unfold CV;rw[e1];show aA ((yO u).getD .non) u;rw[e2];exact YY e2
  no:=λy hy=>nos y hy
  po:=PassesOwn.never
  nd:=S.nd
  cel:=λ_=>rfl }
 refine#[_,(iw b ok c2 (N1 b c3)).1,?_];let#[S0,I,hU]:=G5 (N:=N) h1 h2 h3 h4;have g:GOk K (gt K mg Ψ) Ψ:=#[λ_ _ _ _ _ h=>h,λy d e F=>G.rep y d e F]
 have hvl:vs.9=l.length:=h2.length.trans hlen;have fin:∀v t W C B J m X,Stc (CB 0 R.md l.9) F' H S0 (oB N R.md ts) (sD N vs) C B J m X->Rl K C B J m X->Tr K C B kf v t W->Held C B J m W->(∀b,W b->H b=kv∨U (oB N R.md ts) S0 b) ->
   nW (MA (CB 0 R.md l.9) m) (λos=>∀v F3 H3 Z M',Frm M F' H F3 H3->Tr K F3 H3 kf v t Z->Trs K F3 H3 kf (aB R.md vs) os M'->(∀b,Z b->¬ M' b)->(∀b,Z b∨M' b->M b∨H b=kv)->Q v H3)->Q v B:=by
  intro v t W C B J m X s I2 r hw fr q;cases eo:MA (CB 0 R.md l.9) m with
  |none=>rw[eo]at q;exact q.elim|some os =>
   rw[eo]at q;have hv:(aB R.md vs).map (λv=>jr (jr v))=(CB 0 R.md l.9).map λj=>X[j]?:=by rw[NP (md:=R.md) (k:=0) (n:=l.9) (vs:=vs) (σ:=sD N vs) hvl λi w hw=>?_];exact wW λj O=>(s.sg j O).symm;unfold sD;rw[W7,qS (by rw[QF];exact(Qh.mp hw).1),Qd,hw];rfl
   have trs:=I2.trs (HU _ _ _) eo hv;have own:∀j∈CB 0 R.md l.9,∃t,m[j]?=jr (jr (.own t)):=λj O=>by let#[i,hi]:=we.mp O;let#[t,_,e]:=(yE eo).2 i j hi;exact#[t,e]
   have lk:∀b,U (oB N R.md ts) S0 b∨H b=kv->M b∨H b=none:=λb hb=>hb.imp (hU b) id;refine q v C B W _ #[s.ff,I2.fh,λb u e n=>s.hh b u e λz=>n (hU b z),s.dm,λb e z=>lk b (s.fn b e z)] r trs (λb hb #[j,O,z]=>?_) λb hb=>?_;let#[t',e]:=own j O;exact hw.nw j _ e b hb z;rcases hb with hb|⟨j,O,z⟩
   ·exact lk b (fr b hb).symm
   let#[t',e]:=own j O;exact lk b (s.uu b #[j,t',e,z])
 refine EI g b hc I (λ_ _ _ _ _ _ _ _ _ z=>z.elim) q #[?_,?_,λ_ _ _ _ _ _ _ z=>z.elim,λ_ _ _ _ _ _ _ z=>z.elim];intro C B J m X s I2 q;exact fin .non (.d .none) (λ_=>False) C B J m X s.c I2 (.d .non λ_ z=>z) .none (λ_ z=>z.elim) q;intro v t W C B J m X s I2 r hw fr q;exact fin v t W C B J m X s I2 r hw fr q
theorem P8{h:PEv}{b:PT}(F:Fun K x o st f p)(a:mg x=jr (.ref f))(hb:HJ K p l [])(TB:AA n b N l st=kf)(hc:xK (CB 0 R.md l.9) b=kf)
  (v:∀g∈n.fn,LG P w K mg base Ψ k g) (z:ValsOk P w K mg Ψ n.va) (u:∀y∈n.no,mg y=kv)
  (body:∀ts Q E,R.run ts Q E->ts.9=l.9/\pF Ψ b (yD R l.9 Q) (oB N R.md ts)) (e:h.sp x=R):LG P w K mg base h (k+1) x :=
 #[f,p,l,by rw[e];exact E8 F TB hc v z u body,a,F.kp,hb]
end
end
noncomputable def TQ:PSp where
 md:=[.shal]
 run:=λx Q _=>∃h:LJ,h.9<=63/\(∀n∈h,QAZ n<=1048576)/\x=[.lst ((h.map j1).map T.d)]/\Q (.d (.bool kf)) []
def Po:PSp:=#[[],λ_ _ _=>False,λ_ _ h=>h]
theorem mP{K:QC}{F:Hp}:∀(ns:LJ),Reps K F (ns.map V.int) (ns.map j1)
 |[]=>.nil|n::r=>.cons (.int n) (mP r)
theorem iM{K:QC}{F:Hp}:∀(ns:LS),Reps K F (ns.map V.str) (ns.map j0)
 |[]=>.nil|n::r=>.cons (.str n) (iM r)
theorem km(K:QC)(H:Hp)(a:ko)(ns:LJ)(hl:ns.9<=63)(h:∀n∈ns,QAZ n<=1048576)(x:uC K H a (ns.map V.int)):lift K TQ [.ref a] H (λv _=>v=.bl kf) λ_ _ _=>False:=by
 refine#[H,[.lst ((ns.map j1).map T.d)],λ_=>False,λ_=>False,.refl _,.rd (Z:=λ_=>False) (by simp[TQ]) (.lstF x (mP ns) λ_ z=>z) (λ_ z=>z) .nil,.nil λ_ z=>z,λ_ z=>z.elim,ns,hl,h,rfl,λv w u Z y _ r _ _ _=>?_];cases r with|d r _=>cases r;rfl
theorem UV{ns:LJ}:∀n∈ns,QAM (.int n)<=WC (ns.map QAS.int):=by
 induction ns with|nil=>intro n h;cases h|cons m ns x=>intro n h;show _<=QAM (.int m)+1+WC (ns.map QAS.int);rcases QL.mp h with rfl|h;omega;have:=x n h;omega
theorem Se{ns:LJ}(h:QAS.layableAll [.list (ns.map .int)]=kf):∀n∈ns,QAZ n<=1048576:=by
 intro n z;have v:=(PySem.W.layableW_iff.mp (PySem.W.layableW_arg h _ QD)).2.2;have k:WC (ns.map QAS.int)<=2 ^ 20:=v;have y:=UV n z;have u:QAM (.int n)=if n==0 then 0 else n.natAbs.log2+1:=rfl
 rw[PySem.intBits_le_iff];by_cases x:n=0;subst x;exact Nat.pow_pos (by decide);have:(n==0)=false:=by simpa using x
 rw[u,this]at y;have w:n.natAbs.log2+1<=1048576:=by have:n.natAbs.log2+1<=WC (ns.map QAS.int):=y;omega
 exact(Nat.log2_lt (show n.natAbs≠0 by omega)).mp ()
def PZ(K:QC)(x:Str)(st:gV):Prop:=∃f h,wG K k4 x=jr (jr (.ref f))/\Fun K x x st f h
def zO(K:QC)(x:Str)(d:D):Prop:=∃u v,wG K k4 x=jr (jr u)/\yO u=jr v/\∀F,Rep K F v d
theorem J5{K:QC}{x:Str}{f:ko}{xs:LS}{v:Option ko}{its:LW}{n:Nat}{z:Array (Option kn)}(a:wG K k4 x=jr (jr (.ref f)))
  (l:K.lookup f=jr #[.type "tuple",v,.seq its.toArray n,z]) (h:its.map yO=xs.map λy=>jr (.str y)) (k:xs.9<=kb):zO K x (.tuple (xs.map j0)):=by
 refine#[_,_,a,rfl,λF=>.tup (.inr #[_,its.toArray,n,l,rfl,rfl,?_,?_]) (iM xs)];have:=wy qT h;simp at this;simp;omega;have key:∀(its:LW) (xs:LS),its.map yO=xs.map (λy=>jr (.str y))->nA (xs.map V.str) its:=by
  intro its;induction its with
  |nil =>
   intro xs h;cases xs with|nil=>exact .nil|cons _ _=>simp at h
  |cons u its w =>
   intro xs h;cases xs with|nil=>simp at h|cons y xs=>simp only[QX,Wm]at h;exact .cons (YY h.1) (w xs h.2)
 simpa using key its xs h
section
variable{P:k5}{w:xb}{K:QC}{mg:Str->Option kn}{base h:vu}{Ψ:PEv}
section
variable{x:Str}{st:gV}{z:LS}{k:Nat}
theorem zO.inMg(X:K.In h)(G:h.Ns k4 mg){d:D}(v:zO K x d):(∀F,Rep K F (CV mg x) d)/\∃u v,mg x=jr u/\yO u=jr v:=by
 let#[u,v,b,y,a]:=v;have e:=Wn X G b;refine#[λF=>?_,u,v,e,y];have:CV mg x=v:=by unfold CV;rw[e];show(yO u).getD .non=v;rw[y];rfl
 rw[this];exact a F
theorem R8{R:PSp}{u:PEv}{N:LS}{b:PT}{n:Need}(X:K.In h)(G:h.Ns k4 mg)(D:PZ K x st)(TB:AA n b N z st=kf)(hc:xK (CB 0 R.md z.9) b=kf)
  (hb:∀(kV j m:kn) (q:Option ko) (l ct:kn) (us:LW),us.9=z.9->ew (wH x x (uD st) (aC st) (SA st) .none kV j m q l ct) #[us,[]]=ak (z.zip us))
  (i:∀g∈n.fn,LG P w K mg base Ψ k g) (v:ValsOk P w K mg Ψ n.va) (e:∀y∈n.no,wG K k4 y=jr kv)
  (body:∀ts Q E,R.run ts Q E->ts.9=z.9/\pF Ψ b (yD R z.9 Q) (oB N R.md ts)) (p:u.sp x=R):LG P w K mg base u (k+1) x:=by
 let#[f,r,a,F]:=D;exact P8 F (Wn X G a) (F.binds hb) TB hc i v (λy o=>QAk X G (e y o)) body p
theorem vm{j:ko}(X:K.In h)(G:h.Ns k4 mg)(D:PZ K "law" st)(q:z=[x])(g:mg "law"=jr (.ref j))(p:Ψ.sp "law"=TQ)
  (hb:∀(kV v i:kn) (l:Option ko) (b ct:kn) (us:LW),us.9=z.9->ew (wH "law" "law" (uD st) (aC st) (SA st) .none kV v i l b ct) #[us,[]]=ak (z.zip us))
  (H:∀base:vu,K.In base->base.Ns k4 mg->∀f y,Fun K "law" "law" st f y->mg "law"=jr (.ref f)->FnOk P w K mg base L4 k f y z (lift K (Ψ.sp "law"))) :
  ∃y:zo,(∀(s:kt) (u:kn),l5 s y #[[u],[]] [(x,u)])/\∀base:vu,K.In base->base.Ns k4 mg->FnOk P w K mg base L4 k j y [x] (lift K TQ):=by
 let#[f,y,a,F]:=D;have e:=g.symm.trans (Wn X G a);cases e;subst q;refine#[y,λs u=>?_,λbase o n=>?_];let#[Z,Y,kV,v,i,l,b,ct,m,rfl,lk,r]:=F.ex;exact .of_eq (hb kV v i l b ct [u] rfl);rw[<- p];exact H base o n j y F g
end
end
theorem NA{α:Type}{body:T->(Option T->Prop)->Prop}(g f:α->T):∀(l:List α) (h:LT) (Q:LT->Prop),(∀x∈l,∀R:Option T->Prop,R (jr (f x))->body (g x) R)->h.9+l.9<=kb->Q (h++l.map f)->PC body (l.map g) h Q
 |[],h,Q,_,hl,q=>by simp only[wa,PC];exact#[by simpa using hl,by simpa using q]|x::r,h,Q,hb,hl,q=>by simp only[QX,PC];refine hb x QD _ ?_;simp only[QN]at hl;refine#[(),NA g f r _ Q (λy z=>hb y (QE _ z)) (by simp;omega) (by simpa using q)]
theorem oA{α:Type}{body:T->(Option T->Prop)->Prop}(g f:α->T)(p:α->Bool):∀(l:List α) (h:LT) (Q:LT->Prop),(∀x∈l,∀R:Option T->Prop,R (if p x=kf then jr (f x) else kv)->body (g x) R)->h.9+l.9<=kb->Q (h++(l.filter p).map f)->PC body (l.map g) h Q
 |[],h,Q,_,hl,q=>by simp only[wa,PC];exact#[by simpa using hl,by simpa using q]|x::r,h,Q,hb,hl,q=>by
  simp only[QX,PC];refine hb x QD _ ?_;simp only[QN]at hl;cases u:p x with|true=>refine#[(),oA g f p r _ Q (λy z=>hb y (QE _ z)) (by simp;omega) ?_];rw[WX,Qc u]at q;simpa using q|false=>refine oA g f p r _ Q (λy z=>hb y (QE _ z)) () ?_;rw[WX,QB (by rw[u];simp)]at q;exact q
theorem TL{α:Type}{xs:List α}{i:Int}(y:0<=i)(x:i<xs.9):∃v,AC xs i=jr v/\xs[i.toNat]?=jr v:=by
 have h:i.toNat<xs.length:=()
 have e:((i.toNat:Nat):Int)=i:=()
 have q:=lD (Qk h);rw[e]at q;exact#[xs[i.toNat],q,Qk h]
theorem BF{α h:Type}(f:α->h)(xs:List α)(i:Int):AC (xs.map f) i=(AC xs i).map f:=by
 unfold AC;rw[QF];cases XS xs.9 i with|none=>rfl|some j=>exact Qd
theorem HA{Ψ:PEv}{E:XE}{α:Type}{body:PT}{u:Tg}{Z:PEnds}(g:α->T)(W:List α->vA->Prop)(k:∀ρ,W [] ρ->Z.nx ρ)
  (v:∀x xs ρ (N:vA->Prop),(∀y,W xs y->N y)->W (x::xs) ρ->OP u (g x) ρ λz=>pB Ψ E body { Z with nx:=N,ct:=N,bk:=Z.nx } z):∀(xs:List α) (ρ:vA),W xs ρ->uI (pB Ψ E body) u Z (xs.map g) ρ
 |[],ρ,w=>k ρ w|x::xs,ρ,w=>v x xs ρ (λh=>uI (pB Ψ E body) u Z (xs.map g) h) (λh a=>HA g W k v xs h a) w
noncomputable def Zf(y:List (Str×PSp))(h:List (Str×D)):PEv:=#[λf=>(y.lookup f).getD Po,λx=>h.lookup x]
theorem bY{P:k5}{w:xb}{K:QC}{mg:Str->Option kn}{h:vu}{v:List (Str×PSp)}{tbl:List (Str×D)}{z:LS}(X:K.In h)(G:h.Ns k4 mg)(u:∀p∈tbl,zO K p.1 p.2)
  (y:(z.all λx=>(tbl.map wE).contains x)=kf):ValsOk P w K mg (Zf v tbl) z:=by
 refine#[λx d e F=>((u (x,d) (qU e)).inMg X G).1 F,λx k=>?_];have:=Q1.mp y x k;let#[p,a,e]:=QW.mp (Qr.mp this);rw[<- e];exact((u p a).inMg X G).2
theorem sQ{α:Type}[BEq α][LawfulBEq α]{l m:List α}(h:(l.all λx=>m.contains x)=kf):∀x∈l,x∈m:=λx y=>Qr.mp (Q1.mp h x y)
section
variable{a b c:PX}{i:Nat}{n:Int}{x:Str}{m:Mt}{f:Str}{g:Bi}{u:g6}{w:fv}{is:List Bool}{h:LS}{z:Tg}{v:ItK}{y:String}
theorem uY:EF (.var i)=[i]:=rfl
theorem xP:EF (.acons a b)=EF a++EF b:=rfl
theorem GS:EF .anil=[]:=rfl
end
def xF{α:Type}(o:Option α)(K:α->Prop):Prop:=∃a,o=jr a/\K a
theorem xF.mk{α:Type}{o:Option α}{a:α}{K:α->Prop}(e:o=jr a)(k:K a):xF o K:=#[a,e,k]
theorem GA{α:Type}{a:α}{K:α->Prop}:xF (jr a) K=K a:=qs #[λ#[_,e,k]=>by cases e;exact k,λk=>#[a,rfl,k]]
theorem vF{α h:Type}{o:Option α}{f:α->h}{K:h->Prop}:xF (o.map f) K=xF o λa=>K (f a):=by
 cases o with|none=>exact qs #[λ#[_,e,_]=>(by cases e),λ#[_,e,_]=>(by cases e)]|some a=>rw[qE,GA,GA]
def zB(Ψ:PEv)(e:PX)(E:XE)(ρ:vA)(K:TK):Prop:=(pe Ψ e E).e ρ K
def pO(Ψ:PEv)(e:PX)(E:XE)(ρ:vA)(K:Bool->vA->Prop):Prop:=(pe Ψ e E).t ρ K
def RM(Ψ:PEv)(e:PX)(E:XE)(md:List Md)(ρ:vA)(K:List (T×Bool)->vA->Prop):Prop:=(pe Ψ e E).a md ρ K
def mL(p:PSp)(ts:LT)(K:T->LT->Prop)(E:XE):Prop:=p.run ts K E
def Ba(x:T)(n:Bool)(Ψ:PEv)(b:PX)(E:XE)(ρ:vA)(K:TK):Prop:=sq (fA x n) ρ (cu (pe Ψ b E).e) λy h=>K y.1 y.2 h
def Ca(x:T)(n:Bool)(Ψ:PEv)(b:PX)(E:XE)(md:List Md)(ρ:vA)(K:List (T×Bool)->vA->Prop):Prop:=sq (if n=kf then .d .none else x) ρ ((pe Ψ b E).a md) K
def vI(i:Nat)(σ ρ:vA)(K:TK):Prop:=uv σ[i]? λt=>K t kd ρ
def d6(i:Nat)(σ:vA)(ρ:vA)(j:Nat)(R:T->vA->Prop):Prop:=Hw ρ j R σ[i]?
def MI(Ψ:PEv)(E:XE)(r:PT)(Z:PEnds)(i:Nat)(x:T)(n:Bool)(ρ:vA):Prop:=BH x n=kf/\pB Ψ E r Z (ρ.set i (bD x.er))
def ur(Ψ:PEv)(E:XE)(r:PT)(Z:PEnds)(i:Nat)(x:T)(n:Bool)(ρ:vA):Prop:=BH x n=kf/\pB Ψ E r Z (ρ.set i (jr (.own x)))
def sC(x:T)(n:Bool)(P:Prop):Prop:=BH x n=kf/\P
def rF(h:g6)(x:T)(n:Bool)(y:T)(m:Bool)(Q:T->Bool->Prop):Prop:=binT h (fA x n).vw (fA y m).vw Q
def UB(h:fv)(x y:T)(Q:Bool->Prop):Prop:=Ue h x.er y Q
def vb(x:T)(Q:Bool->Prop):Prop:=JI x.er Q
def tz(x:T)(Q:Bool->Prop):Prop:=xo x.er Q
def Um(c:PX)(x:T)(Q:Bool->Prop):Prop:=Bm c x.er Q
def RL(f:Bi)(xs:List (T×Bool))(Q:T->Bool->Prop):Prop:=BZ f (ZB xs) Q
def CA(x:T)(n:Bool)(y:T)(m:Bool)(Q:T->Prop):Prop:=BO (fA x n).vw (fA y m).vw Q∨XU (fA x n).vw y.er Q
def Bp(Ψ:PEv)(E:XE)(c:PX)(q:PT)(Z:PEnds)(ρ:vA):Prop:=pB Ψ E (.whl c q) Z ρ
def Uf(t y x:T)(Q:T->Prop):Prop:=fq t y.er x.er Q
def bq(z t:T)(Q:T->(T->T)->Prop):Prop:=cq z.er t Q
def aq(y t:T)(Q:T->Prop):Prop:=Jj y.er t Q
def zF(x:T)(n:Bool)(l u:Option Int)(Q:T->Bool->Prop):Prop:=kG (fA x n).vw l u Q
def mN(xs:List (T×Bool))(C:LT->Prop):Prop:=NE xs=kf/\C (SF xs)
def eI(h:ItK)(xs:List (T×Bool))(R:LT->Prop):Prop:=NB h (ZB xs) R
def KB(md:List Md)(xs:List (T×Bool))(C:LT->Prop):Prop:=xF (XA md xs []) C
def NF(Ψ:PEv)(E:XE)(x:List Bool)(y:LS)(u:Tg)(h z:PX)(ρ:vA):T->(Option T->Prop)->Prop:=tG u (DO y.9 x (lockA ρ)) (if isNop h=kf then λρ R=>R kf ρ else(pe Ψ h E).t) (pe Ψ z E).e
def G9(h:Tg)(x:T)(ρ:vA)(K:vA->Prop):Prop:=OP h x ρ K
section
variable{Ψ:PEv}{E:XE}{ρ:vA}{K:TK}{L:Bool->vA->Prop}{M:List (T×Bool)->vA->Prop}{a b c Y its U V:PX}{Z:T->vA->Prop}
section
variable{i j:Nat}{x:T}{v:fv}{f t u:Str}{p:PSp}{md:List Md}{w m:List Bool}{g:LS}{o:Tg}{X:ItK}{R:Option T->Prop}{s:Option Sl}{σ:vA}{n:Bool}{ts:LT}
theorem Lu{i:Int}:zB Ψ (.ng i) E ρ K=K (.d (.int (-i))) kd ρ:=rfl
theorem fi:zB Ψ (.trv a) E ρ K=zB Ψ a E ρ λx n h=>zb (fA x n).vw λz k=>K z k h:=rfl
theorem Ry{b:PX}{x y:Str}{l:LN}(h:qH x y 0 x.9 1=i::l)(A:∀K,zB Ψ a E ρ K=K (.d (.str x)) kd ρ)(hb:∀K,zB Ψ b E ρ K=K (.d (.str y)) kd ρ)(q:K (.d (.int (i:Int))) kd ρ):zB Ψ (.mt .index a %[b|1]) E ρ K:=by show zB Ψ a E ρ λx n e=>O2 .index (fA x n).vw=kf/\sq (fA x n) e ((pe Ψ %[b|1] E).a []) λW r=>Pr .index (fA x n).vw (ZB W) λz k=>K z k r;rw[A];refine#[rfl,?_];show zB Ψ b E ρ λz n e=>sq (α:=List (T×Bool)) (if n=kf then .d .none else z) e ((pe Ψ .anil E).a []) λW r=>_;rw[hb];exact#[x,y,i,l,rfl,rfl,h,q]
theorem xi:zB Ψ (.var i) E ρ K=vI i ρ ρ K:=rfl
theorem Zh:pO Ψ (.var i) E ρ L=vI i ρ ρ λt _ ρ=>vb t λb=>L b ρ:=rfl
theorem Vi{i:Int}:zB Ψ (.int i) E ρ K=K (.d (.int i)) kd ρ:=rfl
theorem si{x:Str}:zB Ψ (.str x) E ρ K=K (.d (.str x)) kd ρ:=rfl
theorem Nu{x:Bool}:zB Ψ (.bl x) E ρ K=K (.d (.bool x)) kd ρ:=rfl
theorem Zi:zB Ψ .non E ρ K=K (.d .none) kd ρ:=rfl
theorem MH{x:Str}{d:D}(h:Ψ.va x=jr d):zB Ψ (.glo x) E ρ K=K (.d d) kd ρ:=by show(match Ψ.va x with|some d=>K (.d d) kd ρ|none=>False)=_;rw[h]
theorem Va{v:g6}:zB Ψ (.bin v a b) E ρ K=zB Ψ a E ρ λx n e=>Ba x n Ψ b E e λy m h=>rF v x n y m λz k=>K z k h:=rfl
theorem Xh:pO Ψ (.cmp v a b) E ρ L=zB Ψ a E ρ λx n z=>Ba x n Ψ b E z λy m h=>UB v x (R3 y m) λk=>L k h:=rfl
theorem Ci:zB Ψ (.cmp v a b) E ρ K=pO Ψ (.cmp v a b) E ρ λk h=>K (.d (.bool k)) kd h:=rfl
theorem Di:zB Ψ (.and a b) E ρ K=zB Ψ a E ρ λx _ h=>tz x λc=>if c=kf then zB Ψ b E h K else K (.d (.bool kd)) kd h:=rfl
theorem Uh:pO Ψ (.and a b) E ρ L=pO Ψ a E ρ λc h=>if c=kf then pO Ψ b E h L else L kd h:=rfl
theorem yf:pO Ψ (.or a b) E ρ L=pO Ψ a E ρ λc h=>if c=kf then L kf h else pO Ψ b E h L:=rfl
theorem Yi:zB Ψ (.not a) E ρ K=zB Ψ a E ρ λx _ h=>vb x λc=>K (.d (.bool (!c))) kd h:=rfl
theorem Kh:pO Ψ (.not a) E ρ L=pO Ψ a E ρ λc h=>L (!c) h:=rfl
theorem kA(h:Ψ.sp f=p)(F:p.md=md)(C:(md.all λm=>!m.isMut)=kf):zB Ψ (.call f Y) E ρ K=RM Ψ Y E md ρ λxs y=>KB md xs λts=>mL p ts (λr l=>l=[]/\K r kf y) E:=by
 have A:∀(md:List Md) (Y:PX),(md.all λm=>!m.isMut)=kf->bA md Y=[]:=by
  intro md;induction md with
  |nil=>intro Y _;cases Y<;>rfl|cons m md B =>
   intro Y h;rw[qr,QZ]at h;cases m with
   |chg=>cases h.1|_=>cases Y with|acons a Y=>exact B Y h.2|_=>rfl
 show(∃l,MA (bA (Ψ.sp f).md Y) ρ=jr l/\(bA (Ψ.sp f).md Y).Nodup/\(pe Ψ Y E).a (Ψ.sp f).md (clear (bA (Ψ.sp f).md Y) ρ) λxs y=>∃ts,XA (Ψ.sp f).md xs l=jr ts/\(Ψ.sp f).run ts (λr q=>∃z,vC (bA (Ψ.sp f).md Y) q y=jr z/\K r kf z) E)=_;rw[h,F,A md Y C];have W:∀(r:T) (l:LT) (y:vA),(∃z,vC [] l y=jr z/\K r kf z)=(l=[]/\K r kf y):=by
  intro r l y;cases l with|nil=>exact qs #[λ#[_,e,k]=>by cases e;exact#[rfl,k],λk=>#[_,rfl,k.2]]|cons _ _=>exact qs #[λ#[_,e,k]=>(by cases e),λk=>(by cases k.1)]
 have:=λ(y:vA)=>funext λr=>funext λl=>W r l y;simp only[this];exact qs #[λ#[_,e,_,k]=>by cases e;exact k,λk=>#[_,rfl,Q7,k]]
theorem E9:pO Ψ (.call f Y) E ρ L=zB Ψ (.call f Y) E ρ λt _ h=>vb t λb=>L b h:=rfl
theorem Vh:pO Ψ (.isi a c) E ρ L=zB Ψ a E ρ λx _ h=>Um c x λb=>L b h:=rfl
theorem Ou{f:Bi}:zB Ψ (.bi f Y) E ρ K=RM Ψ Y E [] ρ λxs h=>RL f xs λz k=>K z k h:=rfl
theorem Ji:zB Ψ (.mt .pop (.var j) Y) E ρ K=vD ρ[j]? λt=>cJ .pop t=kf/\RM Ψ Y E [] (ρ.set j (jr (.bor t))) λxs h=>NE xs=kf/\h[j]?=jr (jr (.bor t))/\JL .pop t (SF xs) λr s'=>K r kf (h.set j (jr (.own s'))):=rfl
theorem Ja{x:Bool}:zB Ψ (.dnew x) E ρ K=K (.dct x [] []) kf ρ:=rfl
theorem Ui:zB Ψ (.dsp a b) E ρ K=zB Ψ a E ρ λy m z=>sC y m (zB Ψ b E z λx n h=>sC x n (TD kf y.er/\K (.dct kf [y.er] [x]) kf h)):=rfl
theorem gH(h:Ψ.sp f=p)(O:p.md=.chg::md)(N:(md.all λm=>!m.isMut)=kf):zB Ψ (.call f (.acons (.var j) Y)) E ρ K=vD ρ[j]? λt=>RM Ψ Y E md (ρ.set j kv) λxs y=>KB md xs λts=>mL p (t::ts) (λr l=>∃t',l=[t']/\K r kf (y.set j (jr (.own t')))) E:=by
 have I:∀(md:List Md) (Y:PX),(md.all λm=>!m.isMut)=kf->bA md Y=[]:=by
  intro md;induction md with
  |nil=>intro Y _;cases Y<;>rfl|cons m md J =>
   intro Y h;rw[qr,QZ]at h;cases m with
   |chg=>cases h.1|_=>cases Y with|acons a Y=>exact J Y h.2|_=>rfl
 show(∃l,MA (bA (Ψ.sp f).md (.acons (.var j) Y)) ρ=jr l/\(bA (Ψ.sp f).md (.acons (.var j) Y)).Nodup/\(pe Ψ (.acons (.var j) Y) E).a (Ψ.sp f).md (clear (bA (Ψ.sp f).md (.acons (.var j) Y)) ρ) λxs y=>∃ts,XA (Ψ.sp f).md xs l=jr ts/\(Ψ.sp f).run ts (λr q=>∃W,vC (bA (Ψ.sp f).md (.acons (.var j) Y)) q y=jr W/\K r kf W) E)=_;rw[h,O];have P:bA (.chg::md) (.acons (.var j) Y)=[j]:=by show j::bA md Y=[j];rw[I md Y N]
 rw[P];have A:∀(r:T) (l:LT) (y:vA),(∃W,vC [j] l y=jr W/\K r kf W)=(∃t',l=[t']/\K r kf (y.set j (jr (.own t')))):=by
  intro r l y
  match l with
  |[]=>exact qs #[λ#[_,e,k]=>(by cases e),λ#[_,e,k]=>(by cases e)]|[t]=>exact qs #[λ#[_,e,k]=>by cases e;exact#[t,rfl,k],λ#[_,e,k]=>by cases e;exact#[_,rfl,k]]|_::_::_=>exact qs #[λ#[_,e,k]=>(by cases e),λ#[_,e,k]=>(by cases e)]
 have B:=λ(y:vA)=>funext λr=>funext λl=>A r l y;simp only[B];have C:∀(t:T) (xs:List (T×Bool)) (G:LT->Prop),(∃ts,XA (.chg::md) ((.d .none,kf)::xs) [t]=jr ts/\G ts)=KB md xs λts=>G (t::ts):=by
  intro t xs G;show(∃ts,(XA md xs []).map (t::·)=jr ts/\G ts)=xF (XA md xs []) λts=>G (t::ts);cases XA md xs []with|none=>exact qs #[λ#[_,e,_]=>(by cases e),λ#[_,e,_]=>(by cases e)]|some ts=>exact qs #[λ#[_,e,k]=>by cases e;exact#[_,rfl,k],λ#[_,e,k]=>by cases e;exact#[_,rfl,k]]
 have F:∀t,ρ[j]?=jr (jr (.own t))->MA [j] ρ=jr [t]:=λt e=>by unfold MA;rw[e];rfl
 have Q:∀(l:LT),((pe Ψ (.acons (.var j) Y) E).a (.chg::md) (clear [j] ρ) λxs y=>∃ts,XA (.chg::md) xs l=jr ts/\p.run ts (λr q=>∃t',q=[t']/\K r kf (y.set j (jr (.own t')))) E)=(RM Ψ Y E md (ρ.set j kv) λxs y=>∃ts,XA (.chg::md) ((.d .none,kf)::xs) l=jr ts/\p.run ts (λr q=>∃t',q=[t']/\K r kf (y.set j (jr (.own t')))) E):=λl=>qs #[λh=>h.2,λh=>#[rfl,h]];simp only[Q]
 match e:ρ[j]? with
 |some (jr (.own t))=>show _=(RM Ψ Y E md (ρ.set j kv) λxs y=>KB md xs λts=>mL p (t::ts) (λr l=>∃t',l=[t']/\K r kf (y.set j (jr (.own t')))) E);rw[F t e];have:=λxs (y:vA)=>C t xs λts=>p.run ts (λr q=>∃t',q=[t']/\K r kf (y.set j (jr (.own t')))) E;refine qs #[λ#[_,e,_,k]=>?_,λk=>#[_,rfl,by simp,?_]];cases e;simp only[this]at k;exact k;simp only[this];exact k|some (jr (.bor t))=>exact qs #[λ#[_,z,_]=>(by unfold MA at z;rw[e]at z;cases z),λk=>k.elim]|some kv=>exact qs #[λ#[_,z,_]=>(by unfold MA at z;rw[e]at z;cases z),λk=>k.elim]|none=>exact qs #[λ#[_,z,_]=>(by unfold MA at z;rw[e]at z;cases z),λk=>k.elim]
theorem rV:zB Ψ (.mt .extend (.var j) Y) E ρ K=vD ρ[j]? λt=>cJ .extend t=kf/\RM Ψ Y E [] (ρ.set j (jr (.bor t))) λxs h=>NE xs=kf/\h[j]?=jr (jr (.bor t))/\JL .extend t (SF xs) λr s'=>K r kf (h.set j (jr (.own s'))):=rfl
theorem sV:zB Ψ (.mt .append (.var j) Y) E ρ K=vD ρ[j]? λt=>cJ .append t=kf/\RM Ψ Y E [] (ρ.set j (jr (.bor t))) λxs h=>NE xs=kf/\h[j]?=jr (jr (.bor t))/\JL .append t (SF xs) λr s'=>K r kf (h.set j (jr (.own s'))):=rfl
theorem Xi:zB Ψ (.idx a b) E ρ K=zB Ψ a E ρ λx n k=>Ba x n Ψ b E k λy m h=>CA x n y m λz=>K z kd h:=rfl
theorem oV{i:Int}:zB Ψ (.slc a (.int i) .nop) E ρ K=zB Ψ a E ρ λx n h=>zF x n (jr i) kv λz k=>K z k h:=by
 show(pe Ψ a E).e ρ (λx n h=>sq (fA x n) h (λρ (R:Option Int->vA->Prop)=>R (jr i) ρ) λl q=>sq (fA x n) q (λρ (R:Option Int->vA->Prop)=>R kv ρ) λu y=>kG (fA x n).vw l u λz k=>K z k y)=_;have:∀x n h,(sq (fA x n) h (λρ (R:Option Int->vA->Prop)=>R (jr i) ρ) λl q=>sq (fA x n) q (λρ (R:Option Int->vA->Prop)=>R kv ρ) λu y=>kG (fA x n).vw l u λz k=>K z k y)=kG (fA x n).vw (jr i) kv λz k=>K z k h:=by intro x n h;unfold sq;split<;>rfl
 simp only[this];rfl
theorem pV{i:Int}:zB Ψ (.slc a .nop (.int i)) E ρ K=zB Ψ a E ρ λx n h=>zF x n kv (jr i) λz k=>K z k h:=by
 show(pe Ψ a E).e ρ (λx n h=>sq (fA x n) h (λρ (R:Option Int->vA->Prop)=>R kv ρ) λl q=>sq (fA x n) q (λρ (R:Option Int->vA->Prop)=>R (jr i) ρ) λu y=>kG (fA x n).vw l u λz k=>K z k y)=_;have:∀x n h,(sq (fA x n) h (λρ (R:Option Int->vA->Prop)=>R kv ρ) λl q=>sq (fA x n) q (λρ (R:Option Int->vA->Prop)=>R (jr i) ρ) λu y=>kG (fA x n).vw l u λz k=>K z k y)=kG (fA x n).vw kv (jr i) λz k=>K z k h:=by intro x n h;unfold sq;split<;>rfl
 simp only[this];rfl
theorem Ki:zB Ψ (.lst Y) E ρ K=RM Ψ Y E [] ρ λxs y=>xs.9<=kb/\mN xs λts=>K (.lst ts) kf y:=by have:∀(xs:List (T×Bool)) y,(xs.9<=kb/\mN xs λts=>K (.lst ts) kf y)=(NE xs=kf/\xs.9<=kb/\K (.lst (SF xs)) kf y):=λxs y=>qs #[λh=>#[h.2.1,h.1,h.2.2],λh=>#[h.2.1,h.1,h.2.2]];simp only[this];rfl
theorem ui:zB Ψ (.tup Y) E ρ K=RM Ψ Y E [] ρ λxs y=>xs.9<=kb/\mN xs λts=>K (ZD ts) kf y:=by have:∀(xs:List (T×Bool)) y,(xs.9<=kb/\mN xs λts=>K (ZD ts) kf y)=(NE xs=kf/\xs.9<=kb/\K (ZD (SF xs)) kf y):=λxs y=>qs #[λh=>#[h.2.1,h.1,h.2.2],λh=>#[h.2.1,h.1,h.2.2]];simp only[this];rfl
theorem Ka:zB Ψ (.comp w g o X its V U) E ρ K=RM Ψ its E [] ρ λxs y=>eI X xs λh =>
   PC (NF Ψ (λ_=>False) w g o V U y) h [] λz=>K (.lst z) kf y:=rfl
theorem bh:NF Ψ E [] [t] (.nm 0) .nop U ρ x R=zB Ψ U E (jr (.bor x)::lockA ρ) λy n _=>sC y n (R (jr y)):=rfl
theorem A9{x y:D}:NF Ψ E [] [t,u] (.tp [0,1]) .nop U ρ (.d (.tuple [x,y])) R=zB Ψ U E (bD x::bD y::lockA ρ) λy n _=>sC y n (R (jr y)):=GA
theorem fu{b:Bool}:NF Ψ E (b::m) [t] (.nm 0) .nop U ρ x R=zB Ψ U E (jr (.bor x)::dC (b::m) (lockA ρ)) λy n _=>sC y n (R (jr y)):=rfl
theorem du{b:Bool}{x y:D}:NF Ψ E (b::m) [t,u] (.tp [0,1]) .nop U ρ (.d (.tuple [x,y])) R=zB Ψ U E (bD x::bD y::dC (b::m) (lockA ρ)) λy n _=>sC y n (R (jr y)):=GA
theorem dh:NF Ψ E [] [t] (.nm 0) (.cmp v a b) U ρ x R=pO Ψ (.cmp v a b) E (jr (.bor x)::lockA ρ) λk h=>if k=kf then zB Ψ U E h λy n _=>sC y n (R (jr y)) else R none:=rfl
theorem Fi:RM Ψ .anil E md ρ M=M [] ρ:=rfl
theorem Ua:RM Ψ (.acons a Y) E [] ρ M=zB Ψ a E ρ λx n y=>Ca x n Ψ Y E [] y λxs h=>M ((x,n)::xs) h:=rfl
theorem eV:RM Ψ (.acons a Y) E (.shal::md) ρ M=zB Ψ a E ρ λx n y=>Ca x n Ψ Y E md y λxs h=>M ((x,n)::xs) h:=rfl
theorem iV:RM Ψ (.acons a Y) E (.bor::md) ρ M=zB Ψ a E ρ λx n y=>Ca x n Ψ Y E md y λxs h=>M ((x,n)::xs) h:=rfl
theorem Ph:aD Ψ E Z (.var i) ρ=d6 i ρ ρ i Z:=rfl
theorem au:aD Ψ E Z (.ife c a b) ρ=pO Ψ c E ρ λk h=>if k=kf then aD Ψ E Z a h else aD Ψ E Z b h:=rfl
theorem iu{x:Bool}:aD Ψ E Z (.bl x) ρ=Z (.d (.bool x)) ρ:=qs #[λh=>h.2,λh=>#[rfl,h]]
theorem Th{x:Int}:aD Ψ E Z (.int x) ρ=Z (.d (.int x)) ρ:=qs #[λh=>h.2,λh=>#[rfl,h]]
theorem ba:aD Ψ E Z (.call f Y) ρ=zB Ψ (.call f Y) E ρ λx n h=>sC x n (Z x h):=rfl
theorem ca{v:g6}:aD Ψ E Z (.bin v a b) ρ=zB Ψ (.bin v a b) E ρ λx n h=>sC x n (Z x h):=rfl
theorem Eh:aD Ψ E Z (.cmp v a b) ρ=zB Ψ (.cmp v a b) E ρ λx n h=>sC x n (Z x h):=rfl
theorem Ih:aD Ψ E Z (.and a b) ρ=zB Ψ (.and a b) E ρ λx n h=>sC x n (Z x h):=rfl
theorem Ju{f:Bi}:aD Ψ E Z (.bi f Y) ρ=zB Ψ (.bi f Y) E ρ λx n h=>sC x n (Z x h):=rfl
theorem Ah:aD Ψ E Z (.idx a b) ρ=zB Ψ (.idx a b) E ρ λx n h=>sC x n (Z x h):=rfl
theorem Rh:aD Ψ E Z (.tup Y) ρ=zB Ψ (.tup Y) E ρ λx n h=>sC x n (Z x h):=rfl
theorem Sh:aD Ψ E Z (.lst Y) ρ=zB Ψ (.lst Y) E ρ λx n h=>sC x n (Z x h):=rfl
theorem ua:aD Ψ E Z (.comp w g o X its V U) ρ=zB Ψ (.comp w g o X its V U) E ρ λx n h=>sC x n (Z x h):=rfl
theorem jAM:vI (i+1) (s::σ) ρ K=vI i σ ρ K:=rfl
theorem jAQ{t:T}:vI 0 (jr (.bor t)::σ) ρ K=K t kd ρ:=rfl
theorem jAN{t:T}:vI 0 (jr (.own t)::σ) ρ K=K t kd ρ:=rfl
theorem jAP:vI i (lockA σ) ρ K=vI i σ ρ K:=by
 unfold vI lockA;rw[Qd];cases σ[i]? with
 |none=>rfl|some s=>cases s with|none=>rfl|some s=>cases s<;>rfl
theorem jAO{b:Bool}:vI (i+1) (dC (b::m) (lockA (s::σ))) ρ K=vI i (dC m (lockA σ)) ρ K:=rfl
theorem Gu:vI 0 (dC (false::m) (lockA (s::σ))) ρ K=vI 0 (lockA (s::σ)) ρ K:=rfl
theorem Fu:vI i (dC [] (lockA σ)) ρ K=vI i (lockA σ) ρ K:=rfl
theorem jAJ:d6 (i+1) (s::σ) ρ j Z=d6 i σ ρ j Z:=rfl
theorem jAL{x:D}:d6 0 (bD x::σ) ρ j Z=Z (.d x) ρ:=qs #[λh=>h.2,λh=>#[rfl,h]]
theorem jAK{t:T}:d6 0 (jr (.own t)::σ) ρ j Z=Z t (ρ.set j kv):=rfl
theorem Kz{x:D}:Ba (.d x) n Ψ b E ρ K=zB Ψ b E ρ K:=by cases n<;>rfl
theorem Jz:Ba x kf Ψ b E ρ K=zB Ψ b E ρ K:=rfl
theorem Yz:Ba (.lst ts) kd Ψ b E ρ K=zB Ψ b E (lockA ρ) λy m _=>K y m ρ:=rfl
theorem jAB{x:D}:Ca (.d x) n Ψ b E md ρ M=RM Ψ b E md ρ M:=by cases n<;>rfl
theorem Iz:Ca x kf Ψ b E md ρ M=RM Ψ b E md ρ M:=rfl
theorem jAA:Ca (.lst ts) kd Ψ b E md ρ M=RM Ψ b E md (lockA ρ) λxs _=>M xs ρ:=rfl
end
end
section
variable{Ψ:PEv}{E:XE}{ρ σ:vA}{Z:PEnds}{s r q:PT}{i:Nat}{e c its:PX}{o:Option Sl}{n:Bool}{v:D}{P:Prop}{ds:List D}{x:T}
section
variable{j:Nat}{A B:Prop}
theorem zA:pB Ψ E .nil Z ρ=Z.nx ρ:=rfl
theorem Fh:pB Ψ E (.seq (.set i e) r) Z (o::σ)=zB Ψ e E (o::σ) λx n h=>MI Ψ E r Z i x n h:=rfl
theorem Lh:pB Ψ E (.seq (.own i e) r) Z (o::σ)=zB Ψ e E (o::σ) λx n h=>ur Ψ E r Z i x n h:=rfl
theorem xa:pB Ψ E (.seq (.expr e) r) Z (o::σ)=zB Ψ e E (o::σ) λ_ _ h=>pB Ψ E r Z h:=rfl
theorem Hh:pB Ψ E (.seq (.ret e) r) Z (o::σ)=aD Ψ E Z.rt e (o::σ):=rfl
theorem Mh:pB Ψ E (.seq (.ife c s .nil) r) Z (o::σ)=pO Ψ c E (o::σ) λk h=>if k=kf then pB Ψ E s { Z with nx:=λy=>pB Ψ E r Z y } h else pB Ψ E r Z h:=rfl
theorem Oh{u:Tg}{k:ItK}:pB Ψ E (.seq (.for_ u k its q) r) Z (o::σ)=RM Ψ its E [] (o::σ) λxs h=>eI k xs λy =>
   if rS xs=kf then uI (pB Ψ E q) u { Z with nx:=λz=>pB Ψ E r Z (kill u.ix z) } y h
   else uI (pB Ψ E q) u { Z with nx:=λz=>DV u.ix (nC h (EF its)) h (λw=>pB Ψ E r Z w) (kill u.ix z) } y (lock (nC h (EF its)) h):=rfl
theorem Dh{a:PX}:pB Ψ E (.seq (.six (.var j) a e) r) Z (o::σ)=vD (o::σ)[j]? λt=>zB Ψ e E ((o::σ).set j (jr (.bor t))) λx n z=>sC x n (zB Ψ a E z λy m h=>sC y m (h[j]?=jr (jr (.bor t))/\Uf t y x λt'=>pB Ψ E r Z (h.set j (jr (.own t'))))):=rfl
theorem ja{a k:PX}:pB Ψ E (.seq (.six (.idx (.var j) k) a e) r) Z (o::σ)=vD (o::σ)[j]? λt=>zB Ψ e E ((o::σ).set j (jr (.bor t))) λx n w=>sC x n (zB Ψ k E w λz l u=>sC z l (bq z t λs put=>zB Ψ a E u λy m h=>sC y m (h[j]?=jr (jr (.bor t))/\Uf s y x λs'=>pB Ψ E r Z (h.set j (jr (.own (put s'))))))):=rfl
theorem Gh{k:PX}:pB Ψ E (.seq (.sdf j k) r) Z (o::σ)=vD (o::σ)[j]? λt=>Ve t=kf/\zB Ψ k E ((o::σ).set j (jr (.bor t))) λy m h=>sC y m (h[j]?=jr (jr (.bor t))/\aq y t λt'=>pB Ψ E r Z (h.set j (jr (.own t')))):=rfl
theorem Nh{h:LN}:pB Ψ E (.seq (.frz h s) r) Z (o::σ)=pB Ψ E (.seq s r) Z (frzAt h (o::σ)):=rfl
theorem Ch:pB Ψ E (.seq (.whl c q) r) Z (o::σ)=Bp Ψ E c q { Z with nx:=λh=>pB Ψ E r Z h } (o::σ):=rfl
theorem Ez:MI Ψ E r Z i (.d v) n ρ=pB Ψ E r Z (ρ.set i (bD v)):=qs #[λh=>h.2,λh=>#[by cases n<;>rfl,h]]
theorem xp:MI Ψ E r Z i (.lst (ds.map T.d)) kf ρ=pB Ψ E r Z (ρ.set i (bD (.list ds))):=by unfold MI T.er;rw[xB];exact qs #[λh=>h.2,λh=>#[rfl,h]]
theorem Dz:ur Ψ E r Z i x kf ρ=pB Ψ E r Z (ρ.set i (jr (.own x))):=qs #[λh=>h.2,λh=>#[rfl,h]]
theorem jAS:sC (.d v) n P=P:=qs #[λh=>h.2,λh=>#[by cases n<;>rfl,h]]
theorem jAR:sC x kf P=P:=qs #[λh=>h.2,λh=>#[rfl,h]]
theorem TY:(([]:LT)=[]/\P)=P:=qs #[λh=>h.2,λh=>#[rfl,h]]
theorem Ts:(if(true:Bool)=kf then A else B)=A:=rfl
theorem As:(if(false:Bool)=kf then A else B)=B:=rfl
theorem Tz{v h:Option Sl}:pB Ψ E r Z (Wo (h::σ) 0 v)=pB Ψ E r Z (v::σ):=rfl
theorem Rz{v h y:Option Sl}:pB Ψ E r Z (Wo (h::y::σ) 1 v)=pB Ψ E r Z (h::v::σ):=rfl
theorem Pz{v y h z:Option Sl}:pB Ψ E r Z (Wo (y::h::z::σ) 2 v)=pB Ψ E r Z (y::h::v::σ):=rfl
theorem Oz{v z y h u:Option Sl}:pB Ψ E r Z (Wo (z::y::h::u::σ) 3 v)=pB Ψ E r Z (z::y::h::v::σ):=rfl
theorem Nz{v u z y h w:Option Sl}:pB Ψ E r Z (Wo (u::z::y::h::w::σ) 4 v)=pB Ψ E r Z (u::z::y::h::v::σ):=rfl
theorem Mz{v w u z y h k:Option Sl}:pB Ψ E r Z (Wo (w::u::z::y::h::k::σ) 5 v)=pB Ψ E r Z (w::u::z::y::h::v::σ):=rfl
theorem Lz{v k w u z y h a:Option Sl}:pB Ψ E r Z (Wo (k::w::u::z::y::h::a::σ) 6 v)=pB Ψ E r Z (k::w::u::z::y::h::v::σ):=rfl
theorem Hz{v a k w u z y h b:Option Sl}:pB Ψ E r Z (Wo (a::k::w::u::z::y::h::b::σ) 7 v)=pB Ψ E r Z (a::k::w::u::z::y::h::v::σ):=rfl
theorem Gz{v b a k w u z y h f:Option Sl}:pB Ψ E r Z (Wo (b::a::k::w::u::z::y::h::f::σ) 8 v)=pB Ψ E r Z (b::a::k::w::u::z::y::h::v::σ):=rfl
theorem Fz{v f b a k w u z y h g:Option Sl}:pB Ψ E r Z (Wo (f::b::a::k::w::u::z::y::h::g::σ) 9 v)=pB Ψ E r Z (f::b::a::k::w::u::z::y::h::v::σ):=rfl
theorem Xu{v l g f b a k w u z y h:Option Sl}:pB Ψ E r Z (Wo (l::g::f::b::a::k::w::u::z::y::h::σ) 10 v)=pB Ψ E r Z (l::g::f::b::a::k::w::u::z::y::v::σ):=rfl
theorem Vu{v m l g f b a k w u z h y:Option Sl}:pB Ψ E r Z (Wo (m::l::g::f::b::a::k::w::u::z::h::y::σ) 11 v)=pB Ψ E r Z (m::l::g::f::b::a::k::w::u::z::h::v::σ):=rfl
end
end
section
variable{d:D}{n m:Bool}{i j:Int}{z y:Str}{b:Bool}{xs:List (T×Bool)}{ts:LT}{ds es:List D}{md:List Md}{t:T}{C:LT->Prop}{Q:T->Bool->Prop}{L:Bool->Prop}{R:T->Prop}{W:LT->Prop}
section
variable{ρ:vA}{P:vA->Prop}{e k:D}{v:fv}{ks:List D}{x:Str}{kvs:List (D×D)}{l u:Option Int}
theorem aw{i:Int}{x:D}{Q:T->Prop}(a:0<=i)(w:i<ds.9)(q:Q (.lst ((ds.set i.toNat x).map T.d))):Uf (.lst (ds.map T.d)) (.d (.int i)) (.d x) Q:=by
 have h:i.toNat<ds.length:=()
 refine#[i.toNat,?_,by rw[<- List.map_set];exact q];unfold XS;rw[QF];rw[Qc a,Qc w]
theorem Yh{J:LN}{w:vA}{N:vA->Prop}:DV J [] w N ρ=N ρ:=qs #[λh=>h.2,λh=>#[λ_ z=>(nomatch z),h]]
theorem pA{α:Type}(f:α->D)(l:List α):l.map (λc=>T.d (f c))=(l.map f).map T.d:=by rw[Qa];rfl
theorem IB:(fA (.lst (ds.map T.d)) n).vw=.ls (ds.map T.d):=by cases n;rfl;show Vw.ls ((ersT (ds.map T.d)).map T.d)=_;rw[xB]
theorem ji:KB md [] C=C []:=GA
theorem Xz:KB [] ((.d d,n)::xs) C=KB [] xs λts=>C (.d d::ts):=by
 have e:XA [] ((.d d,n)::xs) []=(XA [] xs []).map (.d d::·):=by cases n<;>rfl
 unfold KB;rw[e,vF]
theorem Vz:KB [] ((.lst (ds.map T.d),kf)::xs) C=KB [] xs λts=>C (.d (.list ds)::ts):=by have e:XA [] ((.lst (ds.map T.d),kf)::xs) []=(XA [] xs []).map (.d (.list (ersT (ds.map T.d)))::·):=rfl;unfold KB;rw[e,vF,xB]
theorem Uz:KB (.bor::md) ((t,kd)::xs) C=KB md xs λts=>C (t::ts):=by have e:XA (.bor::md) ((t,kd)::xs) []=(XA md xs []).map (t::·):=rfl;unfold KB;rw[e,vF]
theorem T5:FF (.lst (ds.map T.d))=jr (.lst (ds.map T.d)):=by simp only[FF,T.vw,gA,qE]
theorem jAi{u:T}(h:FF (fA t n)=jr u):KB (.shal::md) ((t,n)::xs) C=KB md xs λts=>C (u::ts):=by
 have e:XA (.shal::md) ((t,n)::xs) []=(XA md xs []).map (u::·):=by show(match FF (fA t n) with|some t=>(XA md xs []).map (t::·)|none=>kv)=_;rw[h]
 unfold KB;rw[e,vF]
theorem Yu:KB (.shal::md) ((.lst (ds.map T.d),n)::xs) C=KB md xs λts=>C (.lst (ds.map T.d)::ts):=jAi (by cases n;exact T5;show FF (.d (.list (ersT (ds.map T.d))))=_;rw[xB];simp only[FF,T.vw,gA,qE])
theorem zi:mN [] C=C []:=qs #[λh=>h.2,λh=>#[rfl,h]]
theorem Hy:mN ((.lst (ds.map T.d),kf)::xs) C=mN xs λts=>C (.lst (ds.map T.d)::ts):=by show((BH (.lst (ds.map T.d)) kf&&NE xs)=kf/\C (.lst (ds.map T.d)::SF xs))=(NE xs=kf/\C (.lst (ds.map T.d)::SF xs));rw[show BH (.lst (ds.map T.d)) kf=kf from rfl,WK]
theorem Az:mN ((.d d,n)::xs) C=mN xs λts=>C (.d d::ts):=by show((BH (.d d) n&&NE xs)=kf/\C (.d d::SF xs))=(NE xs=kf/\C (.d d::SF xs));rw[show BH (.d d) n=kf by cases n<;>rfl,WK]
theorem SZ{i j:Nat}{x y:D}:G9 (.tp [i,j]) (.d (.tuple [x,y])) ρ P=P ((ρ.set i (bD x)).set j (bD y)):=GA
theorem Ru{i:Nat}:G9 (.nm i) t ρ P=P (ρ.set i (jr (.bor t))):=rfl
theorem Re{h:Tg}:OP h t ρ P=G9 h t ρ P:=rfl
theorem Jh:rF .Add (.d (.int i)) n (.d (.int j)) m Q=Q (.d (.int (i+j))) false:=by unfold rF;rw[rA,rA];exact En i j
theorem eh:rF .Add (.d (.str z)) n (.d (.str y)) m Q=(z.9+y.9<=kb/\Q (.d (.str (z++y))) kd):=by unfold rF;rw[rA,rA];exact An z y
theorem mh:rF .Sub (.d (.int i)) n (.d (.int j)) m Q=Q (.d (.int (i - j))) false:=by unfold rF;rw[rA,rA];exact Pn i j
theorem nh:rF .Mult (.d (.int i)) n (.d (.int j)) m Q=(l4 i j/\Q (.d (.int (i * j))) kd):=by unfold rF;rw[rA,rA];exact On i j
theorem rh:rF .FloorDiv (.d (.int i)) n (.d (.int j)) m Q=((0<j/\j<2 ^ 200)/\Q (.d (.int (i / j))) kd):=by unfold rF;rw[rA,rA];exact Nn i j
theorem oh:rF .Mod (.d (.int i)) n (.d (.int j)) m Q=(0<j/\Q (.d (.int (i % j))) kd):=by unfold rF;rw[rA,rA];exact Mn i j
theorem tu:rF .Add (.lst (ds.map T.d)) n (.lst (es.map T.d)) m Q=(ds.9+es.9<=kb/\Q (.lst ((ds++es).map T.d)) kf):=by unfold rF;rw[IB,IB,Sn,gA,gA];exact qs #[λ#[_,_,w,h,k]=>by cases w;cases h;exact k,λk=>#[_,_,rfl,rfl,k]]
theorem su:rF .Add (.d (.tuple ds)) n (.d (.tuple es)) m Q=((ds≠[]/\es≠[]/\ds.9+es.9<=kb)/\Q (.d (.tuple (ds++es))) kd):=by unfold rF;rw[rA,rA];show binT .Add (.tp (ds.map T.d)) (.tp (es.map T.d)) Q=_;rw[Rn,gA,gA];exact qs #[λ#[_,_,g,f,a,w,h,k]=>by cases g;cases f;exact#[#[a,w,h],k],λ#[#[a,w,h],k]=>#[_,_,rfl,rfl,a,w,h,k]]
theorem ph:rF .Add (.lst [.d d]) n t m Q=rF .Add (.lst ([d].map T.d)) n t m Q:=rfl
theorem Fd:ZD [.d d,.d e]=.d (.tuple [d,e]):=rfl
theorem Ys{f g:D}:ZD [.d d,.d e,.d f,.d g]=.d (.tuple [d,e,f,g]):=rfl
theorem yh:UB .Eq (.d (.int i)) (.d (.int j)) L=L (decide (i=j)):=rfl
theorem C9:UB .Eq (.d (.str z)) (.d (.str y)) L=L (decide (z=y)):=rfl
theorem Sg:UB .NotEq (.d (.str z)) (.d (.str y)) L=L (!decide (z=y)):=rfl
theorem Ag{c:Bool}:UB .NotEq (.d (.bool b)) (.d (.bool c)) L=L (!decide (b=c)):=rfl
theorem Ct:UB .Lt (.d (.int i)) (.d (.int j)) L=L (decide (i<j)):=rfl
theorem t9:UB v (.d d) (.lst (ds.map T.d)) L=tX v d (.list ds) L:=by show tX v d (.list (ersT (ds.map T.d))) L=_;rw[xB]
theorem Nt:UB .Gt (.d (.int i)) (.d (.int j)) L=L (decide (j<i)):=rfl
theorem pz:UB v t (R3 (.d d) m) L=UB v t (.d d) L:=by show UB v t (fA (.d d) m) L=_;rw[rA]
theorem Tt{u:T}:UB v t (R3 u kd) L=UB v t u L:=by cases u<;>rfl
theorem U9:UB .In (.d (.str z)) (.d (.list ds)) L=(((VB (.str z)=kf/\ds.all VB=kf)∨(BE (.str z)/\BE (.list ds)))/\L (ds.any λy=>Qo y (.str z))):=rfl
theorem X9:UB .NotIn (.d (.str z)) (.lst (ds.map T.d)) L=(((VB (.str z)=kf/\ds.all VB=kf)∨(BE (.str z)/\BE (.list ds)))/\L (!(ds.any λy=>Qo y (.str z)))):=by exact t9
theorem B9:UB .In (.d d) (.dct b ks ts) L=(TD b d/\L (dA ks d).isSome):=by show(TD b d/\((CmpOp.In=.In/\L (dA ks d).isSome)∨(CmpOp.In=.NotIn/\L (!(dA ks d).isSome))))=_;simp
theorem RN:UB .NotIn (.d d) (.dct b ks ts) L=(TD b d/\L (!(dA ks d).isSome)):=by show(TD b d/\((CmpOp.NotIn=.In/\L (dA ks d).isSome)∨(CmpOp.NotIn=.NotIn/\L (!(dA ks d).isSome))))=_;simp
theorem Eg:UB .In (.d (.str z)) (.d (.tuple ds)) L=(((VB (.str z)=kf/\ds.all VB=kf)∨(BE (.str z)/\BE (.list ds)))/\L (ds.any λy=>Qo y (.str z))):=rfl
theorem Ig:UB .In (.d (.str z)) (.lst (ds.map T.d)) L=(((VB (.str z)=kf/\ds.all VB=kf)∨(BE (.str z)/\BE (.list ds)))/\L (ds.any λy=>Qo y (.str z))):=by exact t9
theorem yz:vb (.d (.bool b)) L=L b:=rfl
theorem az:tz (.d (.bool b)) L=L b:=rfl
theorem sx{k:String}(h:isD k d=jr b)(hk:DP k=kf):Um (.bty x k) (.d d) L=L b:=by show(∃b,isD k d=jr b/\DP k=kf/\L b)=_;exact qs #[λ#[_,e,_,q]=>by rw[h]at e;cases e;exact q,λq=>#[_,h,hk,q]]
theorem Es:Um (.bty x "bool") (.d (.bool b)) L=L true:=sx rfl rfl
theorem og:RL .min [(.d (.int i),n),(.d (.int j),m)] Q=Q (.d (.int (if j<i then j else i))) false:=by unfold RL ZB ZB ZB;rw[rA,rA];exact yo i j
theorem Gr:RL .len [(.d (.list ds),n)] Q=Q (.d (.int ds.9)) false:=by unfold RL ZB;rw[rA];refine(xh _).trans ?_;rw[QF]
theorem Dr:RL .len [(.lst (ds.map T.d),n)] Q=Q (.d (.int ds.9)) false:=by unfold RL ZB;rw[IB];refine(xh _).trans ?_;rw[QF]
theorem Lr:RL .any [(.lst (ds.map T.d),n)] Q=∃bs:List Bool,ds=bs.map PyData.bool/\Q (.d (.bool (bs.any id))) false:=by unfold RL ZB;rw[IB];refine(yu _).trans ?_;simp only[gA,Qv]
theorem eg:RL .all [(.lst (ds.map T.d),n)] Q=∃bs:List Bool,ds=bs.map PyData.bool/\Q (.d (.bool (bs.all id))) false:=by unfold RL ZB;rw[IB];exact qs #[λ#[_,bs,e,h,q]=>by cases e;rw[gA]at h;exact#[bs,Qp h,q],λ#[bs,e,q]=>#[_,bs,rfl,by rw[gA,e],q]]
theorem rg:RL .list [(.d (.tuple ds),n)] Q=Q (.lst (ds.map T.d)) true:=by unfold RL ZB;rw[rA];exact qs #[λ#[_,_,es,a,b,c,q]=>by cases a;cases b;rw[gA]at c;cases c;exact q,λq=>ju rfl q]
theorem f9:XU (.ls ts) k R=False:=qs #[λ#[_,_,_,_,_,e,_]=>(by cases e),Qg]
theorem xn:XU (.tp ts) k R=False:=qs #[λ#[_,_,_,_,_,e,_]=>(by cases e),Qg]
theorem bn{x:D}:XU (.sc x) k R=False:=qs #[λ#[_,_,_,_,_,e,_]=>(by cases e),Qg]
theorem Ay:CA (.lst (ds.map T.d)) n (.d (.int i)) m R=xF (AC ds i) λd=>R (.d d):=by unfold CA;rw[IB,rA,f9,or_false];refine(M8 _ _).trans ?_;show xF (AC (ds.map T.d) i) R=_;rw[BF,vF]
theorem Oa:CA (.d (.list ds)) n (.d (.int i)) m R=xF (AC ds i) λd=>R (.d d):=by unfold CA;rw[rA,rA,show(T.d (.list ds)).vw=.ls (ds.map T.d) from rfl,f9,or_false];refine(M8 _ _).trans ?_;show xF (AC (ds.map T.d) i) R=_;rw[BF,vF]
theorem T4:CA (.d (.tuple ds)) n (.d (.int i)) m R=xF (AC ds i) λd=>R (.d d):=by unfold CA;rw[rA,rA,show(T.d (.tuple ds)).vw=.tp (ds.map T.d) from rfl,xn,or_false];refine(Dm _ _).trans ?_;show xF (AC (ds.map T.d) i) R=_;rw[BF,vF]
theorem Bv:CA (.d (.str z)) n (.d (.int i)) m R=(z.9<=kb/\xF (AC z.cps.toList i) λc=>R (.d (.str #[(qK [c])]))):=by unfold CA;rw[rA,rA,show(T.d (.str z)).vw=.sc (.str z) from rfl,bn,or_false];exact Fm _ _
theorem Zp{f:D}:CA (.lst [.d d,.d e,.d f]) n t m R=CA (.lst ([d,e,f].map T.d)) n t m R:=rfl
theorem Kp{q:Bool}{l:Nat}(g:UD kvs=jr q)(f:TD q k)(a:dA (kvs.map (·.1)) k=jr l)(h:(kvs.map (·.2))[l]?=jr e)(w:R (.d e)):CA (.d (.dict kvs)) n (.d k) m R:=by
 unfold CA;rw[rA];refine .inr ?_;show XU (bC kvs) k R;unfold bC;rw[g];refine#[q,_,_,l,.d e,rfl,f,a,?_,w];rw[Qd]at h ⊢;cases z:kvs[l]? with|none=>rw[z]at h;cases h|some p=>rw[z]at h;cases h;rfl
theorem xz:zF (.d (.str z)) n l u Q=(z.9<=kb/\Q (.d (.str (WI z l u))) kd):=by unfold zF;rw[rA];exact rj z
theorem uz:zF (.d (.list ds)) n l u Q=Q (.lst ((cD ds l u).map T.d)) true:=by unfold zF;rw[rA];refine(S5 _).trans ?_;rw[gA];exact GA
theorem Yq:zF (.lst (ds.map T.d)) n l u Q=Q (.lst ((cD ds l u).map T.d)) true:=by unfold zF;rw[IB];refine(S5 _).trans ?_;rw[gA];exact GA
theorem Iy:eI .val [(.d (.list ds),n)] W=W (ds.map T.d):=by unfold eI ZB;rw[rA];exact lJ _
theorem Ey:eI .val [(.d (.tuple ds),n)] W=W (ds.map T.d):=by unfold eI ZB;rw[rA];exact U8 _
theorem Op:eI .val [(.lst (ds.map T.d),n)] W=W (ds.map T.d):=by unfold eI ZB;rw[IB];exact lJ _
theorem Fp{es:List D}{m:Bool}:eI .zip2 [(.d (.list ds),n),(.lst (es.map T.d),m)] W=W ((ds.zip es).map λp=>.d (.tuple [p.1,p.2])):=by unfold eI ZB ZB;rw[rA,IB];exact qs #[λ#[_,_,_,_,e,a,b,h]=>by cases e;rw[gA]at a b;cases a;cases b;exact h,λh=>#[_,_,_,_,rfl,gA _,gA _,h]]
theorem Gp:eI .rev [(.lst (ds.map T.d),n)] W=W (ds.reverse.map T.d):=by unfold eI ZB;rw[IB,WW];exact qs #[λ#[_,e,h]=>by cases e;exact h,λh=>#[_,rfl,h]]
theorem Lp:eI .rng1 [(.d (.int j),n)] W=((-(2 ^ 62)<=j/\j<2 ^ 62)/\W ((Qq j.toNat).map λ(i:Nat)=>.d (.int (i:Int)))):=by unfold eI ZB;rw[rA];exact X8 j
theorem Tp:eI .enum [(.d (.list ds),n)] W=W (ds.zipIdx.map λp=>.d (.tuple [.int (p.2:Int),p.1])):=by unfold eI ZB;rw[rA];refine(nU _).trans ?_;exact qs #[λ#[_,_,w,h,k]=>by cases w;rw[gA]at h;cases h;exact k,λk=>#[_,_,rfl,gA _,k]]
theorem rf:eI .enum [(.lst (ds.map T.d),n)] W=W (ds.zipIdx.map λp=>.d (.tuple [.int (p.2:Int),p.1])):=by unfold eI ZB;rw[IB];refine(nU _).trans ?_;exact qs #[λ#[_,_,w,h,k]=>by cases w;rw[gA]at h;cases h;exact k,λk=>#[_,_,rfl,gA _,k]]
theorem Pp(h:kvs=[]∨UD kvs=jr kf):eI .itm [(.d (.dict kvs),n)] W=W (kvs.map λp=>.d (.tuple [p.1,p.2])):=by
 unfold eI ZB;rw[rA];show NB .itm [bC kvs] W=_;rcases h with rfl|h;exact V8;unfold bC;rw[h];refine(mU _ _).trans ?_;have e:(kvs.map λp=>T.d p.2)=(kvs.map (·.2)).map T.d:=by rw[Qa];rfl
 have w:((kvs.map (·.1)).zip (kvs.map (·.2))).map (λp=>T.d (.tuple [p.1,p.2]))=kvs.map λp=>T.d (.tuple [p.1,p.2]):=by rw[List.zip_map',Qa];rfl
 refine qs #[λ#[ds,a,k]=>?_,λk=>#[kvs.map (·.2),by rw[e,gA],?_]];rw[e,gA]at a;cases a;rw[w]at k;exact k;rw[w];exact k
noncomputable def eZ(Q:T->LT->Prop):PEnds:={ nx:=λ_=>Q (.d .none) [],rt:=λt _=>Q t [] }
theorem Pg{Q:T->LT->Prop}{t:T}:(eZ Q).rt t ρ=Q t []:=rfl
theorem uA{Ψ:PEv}{b:PT}{p:PSp}{N w:LS}{ds:LT}{Q:T->LT->Prop}(ρ:vA)(h:pF Ψ b (eZ Q) ρ)(hl:ds.9=w.length:=by rfl)(hc:CB 0 p.md w.9=[]:=by rfl)(a:oB N p.md ds=ρ:=by rfl):ds.9=w.9/\pF Ψ b (yD p w.9 Q) (oB N p.md ds):=by
 have e:yD p w.9 Q=eZ Q:=by unfold yD;rw[hc];rfl
 rw[e,a];exact#[hl,h]
end
end
end L2.L3
namespace L2.L3.K45
open PySem PySem.Spec PyProof.Rows L2 L2.L3
section
variable{p q:Pt}{r:Rm}{Q:T->Prop}{l:Inn}{v:Int}{a b n g:Str}{w:Wy}{e:Str×Str}
def top(i:Nat):Stmt:=Qx.main.body.getD i (.Pass #[0,0,0,0])
noncomputable def GG:LS:=["edges","starts","goal","rooms","came_from","firsts","chains"]
def MF:LS:=["edges","starts","goal"]
noncomputable def bN:Need:=#[["rooms_of","points_reached","lay_chain","chain_from","full_names"],["BEGIN"],["sorted"]]
noncomputable def UC:PT :=
  %[.expr (.call "lay_chain" %[.var 3,.var 4,.tup %[.var 2,.str "to"|1]|1]),.set 4 (.call "points_reached" %[.var 3|1])|2]
def BG:PT :=
  %[.own 3 (.call "rooms_of" %[.var 0,.var 1,.var 2|1]),.set 4 (.call "points_reached" %[.var 3|1]),.whl (.cmp .In (.tup %[.var 2,.str "to"|1]) (.var 4)) UC,.set 5 (.comp [] ["point"] (.nm 0) .val %[.idx (.var 3) (.glo "BEGIN")|1] (.cmp .Gt (.idx (.idx (.var 4) (.var 0)) (.glo "BEGIN")) (.int 0)) (.idx (.var 0) (.int 0))),.set 6 (.comp [] ["first"] (.nm 0) .val %[.var 5|1] .nop (.call "chain_from" %[.var 4,.var 0,.var 3|1])),.ret (.tup %[.bi .sorted %[.var 6|1],.call "full_names" %[.var 4|1]|1])|2]
theorem UL:AA bN BG GG MF (top 3)=true:=by kernel_rfl
noncomputable def bO:LS:=["edges","starts","goal","rooms","name","first","second"]
def PK:LS:=["edges","starts","goal"]
def VW:Need:=#[["add_name","add_way"],["BEGIN","WIDE"],[]]
noncomputable def eF:PT :=
  %[.ife (.cmp .NotEq (.var 4) (.var 2)) %[.expr (.call "add_name" %[.var 3,.var 4|1]),.expr (.call "add_way" %[.var 3,.glo "BEGIN",.tup %[.var 4,.str "to"|1],.glo "WIDE"|1])|2] .nil|2]
noncomputable def aF:PT :=
  %[.ife (.and (.cmp .NotEq (.var 5) (.var 2)) (.cmp .NotEq (.var 5) (.var 6))) %[.expr (.call "add_name" %[.var 3,.var 5|1]),.expr (.call "add_name" %[.var 3,.var 6|1]),.expr (.call "add_way" %[.var 3,.tup %[.var 5,.str "from"|1],.tup %[.var 6,.str "to"|1],.glo "WIDE"|1])|2] .nil|2]
def AN:PT :=
  %[.own 3 (.dsp (.glo "BEGIN") (.dnew kf)),.for_ (.nm 4) .val %[.var 1|1] eF,.for_ (.tp [5,6]) .val %[.var 0|1] aF,.ret (.var 3)|2]
theorem NU:AA VW AN bO PK (top 4)=true:=by kernel_rfl
def nO:LS:=["rooms","name"]
def zL:LS:=["rooms","name"]
def GW:Need:=#[["add_way"],[],[]]
noncomputable def sI:PT :=
  %[.expr (.call "add_way" %[.var 0,.tup %[.var 1,.str "to"|1],.tup %[.var 1,.str "from"|1],.int 1|1])|2]
theorem EU:AA GW sI nO zL (top 5)=true:=by kernel_rfl
def oQ:LS:=["rooms","here","there","room"]
def NM:LS:=["rooms","here","there","room"]
def C2:Need:=#[[],[],[]]
noncomputable def zQ:PT :=
  %[.sdf 0 (.var 1),.sdf 0 (.var 2),.six (.idx (.var 0) (.var 1)) (.var 2) (.var 3),.six (.idx (.var 0) (.var 2)) (.var 1) (.int 0)|2]
theorem GX:AA C2 zQ oQ NM (top 6)=true:=by kernel_rfl
noncomputable def EE:LS:=["rooms","came_from","waiting","here","there","room"]
def jE:LS:=["rooms"]
def uK:Need:=#[[],["BEGIN"],["len"]]
noncomputable def uB:PT :=
  %[.ife (.and (.cmp .Gt (.var 5) (.int 0)) (.cmp .NotIn (.var 4) (.var 1))) %[.six (.var 1) (.var 4) (.var 3),.expr (.mt .append (.var 2) %[.var 4|1])|2] .nil|2]
def GD:PT :=
  %[.set 3 (.mt .pop (.var 2) %[.int 0|1]),.for_ (.tp [4,5]) .itm %[.idx (.var 0) (.var 3)|1] uB|2]
def RE:PT :=
  %[.own 1 (.dsp (.glo "BEGIN") .non),.own 2 (.lst %[.glo "BEGIN"|1]),.whl (.cmp .Gt (.bi .len %[.var 2|1]) (.int 0)) GD,.ret (.var 1)|2]
theorem aJ:AA uK RE EE jE (top 7)=true:=by kernel_rfl
def dL:LS:=["rooms","came_from","last","there","here"]
def II:LS:=["rooms","came_from","last"]
def GT:Need:=#[[],["BEGIN"],[]]
noncomputable def oE:PT :=
  %[.set 4 (.idx (.var 1) (.var 3)),.six (.idx (.var 0) (.var 4)) (.var 3) (.bin .Sub (.idx (.idx (.var 0) (.var 4)) (.var 3)) (.int 1)),.six (.idx (.var 0) (.var 3)) (.var 4) (.bin .Add (.idx (.idx (.var 0) (.var 3)) (.var 4)) (.int 1)),.set 3 (.var 4)|2]
def iG:PT :=
  %[.set 3 (.var 2),.whl (.cmp .NotEq (.var 3) (.glo "BEGIN")) oE|2]
theorem zS:AA GT iG dL II (top 8)=true:=by kernel_rfl
def FJ:LS:=["rooms","first","goal","chain","name"]
def XH:LS:=["rooms","first","goal"]
def eR:Need:=#[["name_behind"],[],[]]
noncomputable def ND:PT :=
  %[.expr (.mt .append (.var 3) %[.var 4|1]),.set 4 (.call "name_behind" %[.var 0,.var 4|1])|2]
def UF:PT :=
  %[.own 3 (.lst .anil),.set 4 (.var 1),.whl (.cmp .NotEq (.var 4) (.var 2)) ND,.ret (.var 3)|2]
theorem AO:AA eR UF FJ XH (top 9)=true:=by kernel_rfl
def FH:LS:=["rooms","name","here"]
def xG:LS:=["rooms","name"]
def ZO:Need:=#[[],[],[]]
noncomputable def nE:PT :=
  %[.set 2 (.tup %[.var 1,.str "from"|1]),.ret (.idx (.comp [] ["there"] (.nm 0) .val %[.idx (.var 0) (.var 2)|1] (.and (.cmp .NotEq (.idx (.var 0) (.int 0)) (.var 2)) (.cmp .Gt (.idx (.idx (.var 1) (.var 0)) (.var 3)) (.int 0))) (.idx (.var 0) (.int 0))) (.int 0))|2]
theorem MN:AA ZO nE FH xG (top 10)=true:=by kernel_rfl
def DJ:LS:=["came_from"]
def VH:LS:=["came_from"]
def aR:Need:=#[[],[],["sorted"]]
noncomputable def XF:PT :=
  %[.ret (.bi .sorted %[.comp [] ["point"] (.nm 0) .val %[.var 0|1] (.and (.cmp .Eq (.idx (.var 0) (.int 1)) (.str "to")) (.cmp .NotIn (.tup %[.idx (.var 0) (.int 0),.str "from"|1]) (.var 1))) (.idx (.var 0) (.int 0))|1])|2]
theorem SO:AA aR XF DJ VH (top 11)=true:=by kernel_rfl
noncomputable def FG:LS:=["edges","seers","needs","ground","found","grown","name","number","chains"]
def LF:LS:=["edges","seers","needs"]
def uN:Need:=#[["told_through"],[],["len"]]
noncomputable def XC:PT :=
  %[.ife (.cmp .NotIn (.var 6) (.var 4)) %[.set 8 (.idx (.call "told_through" %[.var 0,.var 1,.var 4,.var 6|1]) (.int 0)),.ife (.cmp .GtE (.bi .len %[.var 8|1]) (.var 7)) %[.expr (.mt .append (.var 3) %[.tup %[.var 6,.slc (.var 8) .nop (.var 7)|1]|1]),.expr (.mt .append (.var 4) %[.var 6|1]),.set 5 (.bl kf)|2] .nil|2] .nil|2]
def VC:PT :=
  %[.set 5 (.bl kd),.for_ (.tp [6,7]) .val %[.var 2|1] XC|2]
def UG:PT :=
  %[.own 3 (.comp [kd,kd,kd,kd,kd,kd,kf,kf] ["name","number"] (.tp [0,1]) .val %[.var 2|1] (.cmp .In (.var 0) (.var 3)) (.tup %[.var 0,.lst .anil|1])),.own 4 (.comp [kd,kd,kd,kd,kd,kd,kf,kd,kf] ["name","chains"] (.tp [0,1]) .val %[.var 3|1] .nop (.var 0)),.set 5 (.bl kf),.whl (.var 5) VC,.ret (.var 3)|2]
theorem VL:AA uN UG FG LF (top 13)=true:=by kernel_rfl
def CG:LS:=["edges","seers","people","goal"]
def GF:LS:=["edges","seers","people","goal"]
def vN:Need:=#[["apart_chains"],[],[]]
noncomputable def FD:PT :=
  %[.ret (.call "apart_chains" %[.comp [] ["edge"] (.nm 0) .val %[.var 0|1] (.cmp .In (.idx (.var 0) (.int 0)) (.var 3)) (.var 0),.var 1,.var 3|1])|2]
theorem ZL:AA vN FD CG GF (top 14)=true:=by kernel_rfl
noncomputable def ga:LS:=["world","events","past","taken","wrong","held","known","steps","number","believed","live"]
def CY:LS:=["world"]
noncomputable def Ul:Need:=#[["going_order","is_taken","wrong_among","live_among","held_among"],[],[]]
noncomputable def BK:PT :=
  %[.own 4 (.call "wrong_among" %[.var 0,.var 2|1]),.set 10 (.call "live_among" %[.var 1,.var 3,.var 4|1]),.set 5 (.call "held_among" %[.var 0,.var 2,.var 10,.var 6|1]),.expr (.mt .append (.var 7) %[.tup %[.var 8,.var 9,.var 10,.var 5|1]|1])|2]
def EN:PT :=
  (.seq (.set 9 (.call "is_taken" %[.var 0,.idx (.var 1) (.var 8),.var 4,.var 5|1]))
  (.seq (.expr (.mt .append (.var 2) %[.var 8|1]))
  (.seq (.ife (.and (.var 9) (.cmp .Eq (.idx (.idx (.var 1) (.var 8)) (.int 0)) (.str "tell"))) %[.expr (.mt .append (.var 3) %[.var 8|1])|2] .nil)
  BK)))
def NX:PT :=
  %[.set 1 (.idx (.var 0) (.int 3)),.own 2 (.lst .anil),.own 3 (.lst .anil),.own 4 (.dnew kf),.set 5 (.lst .anil),.own 6 (.dnew kf),.own 7 (.lst .anil),.for_ (.nm 8) .val %[.call "going_order" %[.var 1|1]|1] EN,.ret (.var 7)|2]
theorem Fe:AA Ul NX ga CY (top 17)=true:=by kernel_rfl
noncomputable def gO:LS:=["world","event","wrong","held","teller","hearer","matter"]
def IK:LS:=["world","event","wrong","held"]
def CW:Need:=#[["has_against","rank_of","floor_of"],[],[]]
noncomputable def ZF:PT :=
  %[.ife (.cmp .Eq (.idx (.var 1) (.int 0)) (.str "see")) %[.ret (.bl kf)|2] .nil,.set 4 (.idx (.var 1) (.int 2)),.set 5 (.idx (.var 1) (.int 3)),.set 6 (.idx (.var 1) (.int 4)),.ife (.or (.cmp .NotIn (.tup %[.var 4,.var 6|1]) (.var 3)) (.cmp .In (.tup %[.var 4,.var 5|1]) (.var 2))) %[.ret (.bl kd)|2] .nil,.ret (.and (.cmp .GtE (.call "rank_of" %[.var 0,.var 4|1]) (.call "floor_of" %[.var 0,.var 5|1])) (.not (.call "has_against" %[.var 0,.var 3,.var 5,.var 6|1])))|2]
theorem SU:AA CW ZF gO IK (top 18)=true:=by kernel_rfl
def uQ:LS:=["world","name"]
def UM:LS:=["world","name"]
def T1:Need:=#[[],[],[]]
noncomputable def rK:PT :=
  %[.ret (.idx (.comp [] ["person"] (.nm 0) .val %[.idx (.var 0) (.int 0)|1] (.cmp .Eq (.idx (.var 0) (.int 0)) (.var 2)) (.idx (.var 0) (.int 1))) (.int 0))|2]
theorem iX:AA T1 rK uQ UM (top 19)=true:=by kernel_rfl
def lO:LS:=["world","name"]
def jL:LS:=["world","name"]
def DW:Need:=#[[],[],[]]
noncomputable def oI:PT :=
  %[.ret (.idx (.comp [] ["person"] (.nm 0) .val %[.idx (.var 0) (.int 0)|1] (.cmp .Eq (.idx (.var 0) (.int 0)) (.var 2)) (.idx (.var 0) (.int 2))) (.int 0))|2]
theorem TU:AA DW oI lO jL (top 20)=true:=by kernel_rfl
def HH:LS:=["world","pairs","name","matter","rivals"]
def bG:LS:=["world","pairs","name","matter"]
def VO:Need:=#[[],[],["any"]]
noncomputable def tE:PT :=
  %[.own 4 (.comp [] ["first","second"] (.tp [0,1]) .val %[.idx (.var 0) (.int 2)|1] (.cmp .Eq (.var 0) (.var 5)) (.var 1)),.expr (.mt .extend (.var 4) %[.comp [] ["first","second"] (.tp [0,1]) .val %[.idx (.var 0) (.int 2)|1] (.cmp .Eq (.var 1) (.var 5)) (.var 0)|1]),.ret (.bi .any %[.comp [] ["rival"] (.nm 0) .val %[.var 4|1] .nop (.cmp .In (.tup %[.var 3,.var 0|1]) (.var 2))|1])|2]
theorem ON:AA VO tE HH bG (top 21)=true:=by kernel_rfl
def DH:LS:=["world","past","seen","wrong","number","event"]
def vG:LS:=["world","past"]
def YO:Need:=#[["seen_among","has_against"],[],[]]
noncomputable def PF:PT :=
  %[.set 5 (.idx (.idx (.var 0) (.int 3)) (.var 4)),.ife (.and (.cmp .Eq (.idx (.var 5) (.int 0)) (.str "tell")) (.cmp .NotIn (.tup %[.idx (.var 5) (.int 3),.idx (.var 5) (.int 4)|1]) (.var 2))) %[.ife (.call "has_against" %[.var 0,.var 2,.idx (.var 5) (.int 3),.idx (.var 5) (.int 4)|1]) %[.six (.var 3) (.tup %[.idx (.var 5) (.int 2),.idx (.var 5) (.int 3)|1]) (.bl kf)|2] .nil|2] .nil|2]
def mE:PT :=
  %[.own 2 (.call "seen_among" %[.idx (.var 0) (.int 3),.var 1|1]),.own 3 (.dnew kf),.for_ (.nm 4) .val %[.var 1|1] PF,.ret (.var 3)|2]
theorem HN:AA YO mE DH vG (top 22)=true:=by kernel_rfl
def VJ:LS:=["events","past","seen","number"]
def iH:LS:=["events","past"]
def nR:Need:=#[[],[],[]]
noncomputable def eG:PT :=
  %[.ife (.cmp .Eq (.idx (.idx (.var 0) (.var 3)) (.int 0)) (.str "see")) %[.six (.var 2) (.tup %[.idx (.idx (.var 0) (.var 3)) (.int 2),.idx (.idx (.var 0) (.var 3)) (.int 3)|1]) (.bl kf)|2] .nil|2]
def sF:PT :=
  %[.own 2 (.dnew kf),.for_ (.nm 3) .val %[.var 1|1] eG,.ret (.var 2)|2]
theorem LO:AA nR sF VJ iH (top 23)=true:=by kernel_rfl
def UJ:LS:=["events","taken","wrong"]
def YH:LS:=["events","taken","wrong"]
def rR:Need:=#[[],[],["sorted"]]
noncomputable def iF:PT :=
  %[.ret (.bi .sorted %[.comp [] ["number"] (.nm 0) .val %[.var 1|1] (.cmp .NotIn (.tup %[.idx (.idx (.var 1) (.var 0)) (.int 2),.idx (.idx (.var 1) (.var 0)) (.int 3)|1]) (.var 3)) (.var 0)|1])|2]
theorem NO:AA rR iF UJ YH (top 24)=true:=by kernel_rfl
def CJ:LS:=["world","past","live","known","seen","holders","matter","web","held","person"]
def KH:LS:=["world","past","live","known"]
noncomputable def tR:Need:=#[["seen_among","edges_of","seers_of","holders_in"],[],[]]
noncomputable def IC:PT :=
  %[.six (.var 5) (.var 6) (.idx (.var 3) (.var 7))|2]
def MD:PT :=
  (.seq (.set 7 (.tup %[.call "seers_of" %[.var 0,.var 4,.var 6|1],.call "edges_of" %[.idx (.var 0) (.int 3),.var 2,.var 6|1]|1]))
  (.seq (.ife (.cmp .NotIn (.var 7) (.var 3)) %[.six (.var 3) (.var 7) (.call "holders_in" %[.var 0,.var 7|1])|2] .nil)
  IC))
noncomputable def LD:PT :=
  %[.expr (.mt .extend (.var 8) %[.comp [kd,kd,kd,kd,kd,kd,kf] ["matter"] (.nm 0) .val %[.idx (.var 0) (.int 1)|1] (.cmp .In (.idx (.var 10) (.int 0)) (.idx (.var 6) (.var 0))) (.tup %[.idx (.var 10) (.int 0),.var 0|1])|1])|2]
def VF:PT :=
  %[.own 4 (.call "seen_among" %[.idx (.var 0) (.int 3),.var 1|1]),.own 5 (.dnew kd),.for_ (.nm 6) .val %[.idx (.var 0) (.int 1)|1] MD,.own 8 (.lst .anil),.for_ (.nm 9) .val %[.idx (.var 0) (.int 0)|1] LD,.ret (.var 8)|2]
theorem RO:AA tR VF CJ KH (top 25)=true:=by kernel_rfl
def uO:LS:=["world","seen","matter"]
def OK:LS:=["world","seen","matter"]
def KW:Need:=#[[],[],["tuple"]]
noncomputable def cI:PT :=
  %[.ret (.bi .tuple %[.comp [] ["person"] (.nm 0) .val %[.idx (.var 0) (.int 0)|1] (.cmp .In (.tup %[.idx (.var 0) (.int 0),.var 3|1]) (.var 2)) (.idx (.var 0) (.int 0))|1])|2]
theorem MU:AA KW cI uO OK (top 26)=true:=by kernel_rfl
def mO:LS:=["events","live","matter","tells"]
def yL:LS:=["events","live","matter"]
def FW:Need:=#[[],[],["tuple"]]
noncomputable def pI:PT :=
  %[.set 3 (.comp [] ["number"] (.nm 0) .val %[.var 1|1] (.cmp .Eq (.idx (.idx (.var 1) (.var 0)) (.int 4)) (.var 3)) (.idx (.var 1) (.var 0))),.ret (.bi .tuple %[.comp [] ["event"] (.nm 0) .val %[.var 3|1] .nop (.tup %[.idx (.var 0) (.int 2),.idx (.var 0) (.int 3)|1])|1])|2]
theorem AU:AA FW pI mO yL (top 27)=true:=by kernel_rfl
def BJ:LS:=["world","web"]
def ZH:LS:=["world","web"]
def sR:Need:=#[["ground_alone","needs_of"],[],[]]
noncomputable def KF:PT :=
  %[.ret (.comp [] ["name","chains"] (.tp [0,1]) .val %[.call "ground_alone" %[.idx (.var 1) (.int 1),.idx (.var 1) (.int 0),.call "needs_of" %[.var 0|1]|1]|1] .nop (.var 0))|2]
theorem OO:AA sR KF BJ ZH (top 28)=true:=by kernel_rfl
def cO:LS:=["world"]
def RK:LS:=["world"]
def XW:Need:=#[[],[],[]]
noncomputable def dI:PT :=
  %[.ret (.comp [] ["person"] (.nm 0) .val %[.idx (.var 0) (.int 0)|1] .nop (.tup %[.idx (.var 0) (.int 0),.idx (.var 0) (.int 3)|1]))|2]
theorem OU:AA XW dI cO RK (top 29)=true:=by kernel_rfl
def GH:LS:=["world"]
def uG:LS:=["world"]
def KO:Need:=#[["gone"],[],[]]
noncomputable def pE:PT :=
  %[.ret (.tup %[.var 0,.call "gone" %[.var 0|1]|1])|2]
theorem NN:AA KO pE GH uG (top 31)=true:=by kernel_rfl
def DG:LS:=["moment","number"]
def HF:LS:=["moment","number"]
def xN:Need:=#[["past_in"],[],[]]
noncomputable def HD:PT :=
  %[.ret (.tup %[.idx (.var 0) (.int 0),.slc (.idx (.var 0) (.int 1)) .nop (.mt .lix (.call "past_in" %[.var 0|1]) %[.var 1|1])|1])|2]
theorem KL:AA xN HD DG HF (top 32)=true:=by kernel_rfl
def bQ:LS:=["moment"]
def BM:LS:=["moment"]
def A1:Need:=#[[],[],[]]
noncomputable def sK:PT :=
  %[.ret (.comp [] ["step"] (.nm 0) .val %[.idx (.var 0) (.int 1)|1] .nop (.idx (.var 0) (.int 0)))|2]
theorem JX:AA A1 sK bQ BM (top 33)=true:=by kernel_rfl
def cQ:LS:=["moment"]
def CM:LS:=["moment"]
def E1:Need:=#[[],[],["len"]]
noncomputable def tK:PT :=
  %[.ret (.ife (.cmp .Gt (.bi .len %[.idx (.var 0) (.int 1)|1]) (.int 0)) (.idx (.idx (.idx (.var 0) (.int 1)) (.ng 1)) (.int 2)) (.lst .anil))|2]
theorem YX:AA E1 tK cQ CM (top 34)=true:=by kernel_rfl
def xQ:LS:=["moment"]
def XM:LS:=["moment"]
def O1:Need:=#[["seen_among","past_in"],[],[]]
noncomputable def pK:PT :=
  %[.ret (.call "seen_among" %[.idx (.idx (.var 0) (.int 0)) (.int 3),.call "past_in" %[.var 0|1]|1])|2]
theorem eX:AA O1 pK xQ XM (top 35)=true:=by kernel_rfl
def XJ:LS:=["world","number"]
def JH:LS:=["world","number"]
def oR:Need:=#[["said_truly_in","last_moment"],[],[]]
noncomputable def tF:PT :=
  %[.ret (.call "said_truly_in" %[.call "last_moment" %[.var 0|1],.var 1|1])|2]
theorem MO:AA oR tF XJ JH (top 37)=true:=by kernel_rfl
noncomputable def RF:LS:=["moment","number","events","event","matter","ahead","told","people","links"]
def JE:LS:=["moment","number"]
noncomputable def iL:Need:=#[["moment_ahead","live_in","seen_in"],[],["list","zip","all"]]
noncomputable def xC:PT :=
  %[.set 2 (.idx (.idx (.var 0) (.int 0)) (.int 3)),.set 3 (.idx (.var 2) (.var 1)),.ife (.cmp .Eq (.idx (.var 3) (.int 0)) (.str "see")) %[.ret (.bl kd)|2] .nil,.set 4 (.idx (.var 3) (.int 4)),.set 5 (.call "moment_ahead" %[.var 0,.var 1|1]),.set 6 (.comp [] ["tell"] (.nm 0) .val %[.call "live_in" %[.var 5|1]|1] .nop (.slc (.idx (.var 3) (.var 0)) (.int 2) (.int 5))),.set 7 (.bin .Add (.lst %[.idx (.var 3) (.int 2)|1]) (.bi .list %[.idx (.var 3) (.int 6)|1])),.set 8 (.comp [] ["hearer","teller"] (.tp [0,1]) .zip2 %[.var 7,.slc (.var 7) (.int 1) .nop|1] .nop (.tup %[.var 1,.var 0,.var 6|1])),.ret (.and (.cmp .In (.tup %[.idx (.var 7) (.ng 1),.var 4|1]) (.call "seen_in" %[.var 5|1])) (.bi .all %[.comp [] ["link"] (.nm 0) .val %[.var 8|1] .nop (.cmp .In (.var 0) (.var 7))|1]))|2]
theorem nK:AA iL xC RF JE (top 38)=true:=by kernel_rfl
def gL:LS:=["_law_script","_law_k"]
def yJ:LS:=["_law_script","_law_k"]
def NT:Need:=#[[],[],["len"]]
noncomputable def VG:PT :=
  %[.ife (.cmp .Lt (.var 1) (.bi .len %[.var 0|1])) %[.ret (.idx (.var 0) (.var 1))|2] .nil,.ret (.int 0)|2]
theorem xS:AA NT VG gL yJ (top 40)=true:=by kernel_rfl
def mQ:LS:=["_law_cell","_law_k","_law_number"]
def LM:LS:=["_law_cell","_law_k"]
def U2:Need:=#[[],[],[]]
noncomputable def YK:PT :=
  %[.set 2 (.bin .Mod (.bin .Mult (.bin .Mod (.var 0) (.int 2147483647)) (.bin .Add (.int 69621) (.bin .Mult (.bin .Mult (.int 1511) (.var 1)) (.var 1)))) (.int 2147483629)),.ret (.bin .Mod (.bin .Mult (.bin .Add (.var 2) (.var 1)) (.bin .Add (.bin .Add (.var 2) (.bin .Mult (.int 5) (.var 1))) (.int 1))) (.int 2147483587))|2]
theorem BX:AA U2 YK mQ LM (top 41)=true:=by kernel_rfl
noncomputable def fL:LS:=["_law_number","_law_size","_law_some","_law_word","_law_k"]
def jJ:LS:=["_law_number","_law_size"]
def MT:Need:=#[[],[],["range"]]
noncomputable def CH:PT :=
  %[.set 3 (.bin .Add (.var 3) (.idx (.var 2) (.bin .Mod (.var 0) (.int 26)))),.set 0 (.bin .FloorDiv (.var 0) (.int 26))|2]
def KG:PT :=
  %[.set 2 (.str "abcdefghijklmnopqrstuvwxyz"),.set 3 (.str ""),.for_ (.nm 4) .rng1 %[.var 1|1] CH,.ret (.var 3)|2]
theorem vS:AA MT KG fL jJ (top 42)=true:=by kernel_rfl
def gQ:LS:=["_law_word","_law_some","_law_kept"]
def GM:LS:=["_law_word"]
def K2:Need:=#[[],[],[]]
noncomputable def iK:PT :=
  %[.set 1 (.str "abcdefghijklmnopqrstuvwxyz"),.set 2 (.lst %[.str "person",.str "matter",.str "against",.str "see",.str "tell",.str "by",.str "at",.str "who",.str "what",.str "since",.str "tellers"|1]),.ife (.or (.cmp .In (.var 0) (.var 2)) (.cmp .In (.var 0) (.lst %[.str "wordings",.str "apart",.str "leans",.str "hidden",.str "strike",.str "quote",.str "ground",.str "cut"|1]))) %[.ret (.bin .Add (.slc (.var 0) .nop (.ng 1)) (.idx (.var 1) (.bin .Mod (.bin .Add (.mt .index (.var 1) %[.idx (.var 0) (.ng 1)|1]) (.int 13)) (.int 26))))|2] .nil,.ret (.var 0)|2]
theorem XX:AA K2 iK gQ GM (top 43)=true:=by kernel_rfl
noncomputable def fQ:LS:=["_law_cell","_law_many","_law_longest","_law_some","_law_number","_law_base","_law_size","_law_at","_law_words_here","_law_k","_law_sign","_law_word"]
def FM:LS:=["_law_cell","_law_many","_law_longest"]
noncomputable def Y2:Need:=#[["_law_mixed","_law_letters","_law_spelt"],[],["range","list","reversed"]]
noncomputable def gD:PT :=
  %[.expr (.mt .append (.var 8) %[.call "_law_spelt" %[.var 11|1]|1])|2]
def ZG:PT :=
  (.seq (.set 10 (.idx (.var 3) (.bin .Mod (.bin .Add (.bin .FloorDiv (.var 4) (.int 192)) (.var 9)) (.int 26))))
  (.seq (.ife (.cmp .Eq (.bin .Mod (.var 4) (.int 3)) (.int 0)) %[.set 11 (.bin .Add (.bin .Add (.slc (.var 5) .nop (.var 7)) (.var 10)) (.slc (.var 5) (.bin .Add (.var 7) (.int 1)) (.var 6)))|2] %[.ife (.cmp .Eq (.bin .Mod (.var 4) (.int 3)) (.int 1)) %[.set 11 (.slc (.var 5) .nop (.bin .Add (.int 1) (.bin .Mod (.bin .Add (.bin .FloorDiv (.var 4) (.int 24)) (.var 9)) (.var 2))))|2] %[.set 11 (.slc (.bin .Add (.var 10) (.call "_law_letters" %[.call "_law_mixed" %[.var 0,.bin .Add (.var 9) (.int 2)|1],.int 7|1])) .nop (.bin .Add (.int 1) (.bin .Mod (.call "_law_mixed" %[.var 0,.bin .Add (.var 9) (.int 40)|1]) (.var 2))))|2]|2])
  gD))
def eK:PT :=
  %[.set 3 (.str "abcdefghijklmnopqrstuvwxyz"),.set 4 (.call "_law_mixed" %[.var 0,.int 1|1]),.set 5 (.call "_law_letters" %[.bin .Add (.bin .Mult (.var 4) (.var 4)) (.var 4),.int 8|1]),.set 6 (.bin .Add (.int 1) (.bin .Mod (.bin .FloorDiv (.var 4) (.int 3)) (.var 2))),.set 7 (.bin .Mod (.bin .FloorDiv (.var 4) (.int 24)) (.var 6)),.own 8 (.lst .anil),.for_ (.nm 9) .rng1 %[.var 1|1] ZG,.ife (.cmp .Eq (.bin .Mod (.bin .FloorDiv (.var 4) (.int 5000)) (.int 2)) (.int 1)) %[.ret (.lrv (.var 8))|2] .nil,.ret (.var 8)|2]
theorem VX:AA Y2 eK fQ FM (top 44)=true:=by kernel_rfl
def dO:LS:=["_law_name","_law_m","_law_floor","_law_rank"]
def SK:LS:=["_law_name","_law_m"]
def UW:Need:=#[[],[],[]]
noncomputable def fI:PT :=
  %[.set 2 (.idx (.lst %[.int 0,.int 0,.int 0,.int 20,.int 50,.int 99|1]) (.bin .Mod (.var 1) (.int 6))),.set 3 (.idx (.lst %[.int 99,.int 50,.int 20,.int 99,.int 0,.int 50,.int 99,.int 21|1]) (.bin .Mod (.bin .FloorDiv (.var 1) (.int 6)) (.int 8))),.ret (.tup %[.var 0,.var 3,.var 2,.idx (.lst %[.int 1,.int 1,.int 1,.int 2,.int 2,.int 3|1]) (.bin .Mod (.bin .FloorDiv (.var 1) (.int 48)) (.int 6))|1])|2]
theorem PU:AA UW fI dO SK (top 45)=true:=by kernel_rfl
noncomputable def lL:LS:=["_law_matters","_law_m","_law_found","_law_j","_law_k"]
def zJ:LS:=["_law_matters","_law_m"]
def OT:Need:=#[[],[],["range","len"]]
noncomputable def sE:PT :=
  %[.set 1 (.bin .FloorDiv (.var 1) (.int 3)),.ife (.cmp .Eq (.bin .Mod (.var 1) (.int 3)) (.int 0)) %[.expr (.mt .append (.var 2) %[.tup %[.idx (.var 0) (.var 3),.idx (.var 0) (.var 4)|1]|1])|2] %[.ife (.cmp .Eq (.bin .Mod (.var 1) (.int 3)) (.int 1)) %[.expr (.mt .append (.var 2) %[.tup %[.idx (.var 0) (.var 4),.idx (.var 0) (.var 3)|1]|1])|2] .nil|2]|2]
def rE:PT :=
  %[.for_ (.nm 4) .rng1 %[.var 3|1] sE|2]
def XG:PT :=
  %[.own 2 (.lst .anil),.for_ (.nm 3) .rng1 %[.bi .len %[.var 0|1]|1] rE,.ret (.var 2)|2]
theorem uS:AA OT XG lL zJ (top 46)=true:=by kernel_rfl
noncomputable def lQ:LS:=["_law_events","_law_teller","_law_matter","_law_most","_law_told","_law_here","_law_event_here"]
noncomputable def HM:LS:=["_law_events","_law_teller","_law_matter","_law_most"]
def V2:Need:=#[[],[],["reversed","len","tuple"]]
noncomputable def xE:PT :=
  %[.ife (.and (.cmp .Eq (.idx (.var 6) (.int 0)) (.str "tell")) (.and (.cmp .Eq (.idx (.var 6) (.int 3)) (.var 5)) (.and (.cmp .Eq (.idx (.var 6) (.int 4)) (.var 2)) (.cmp .Lt (.bi .len %[.var 4|1]) (.var 3))))) %[.expr (.mt .append (.var 4) %[.idx (.var 6) (.int 2)|1]),.set 5 (.idx (.var 6) (.int 2))|2] .nil|2]
def JK:PT :=
  %[.own 4 (.lst .anil),.set 5 (.var 1),.for_ (.nm 6) .rev %[.var 0|1] xE,.ret (.bi .tuple %[.var 4|1])|2]
theorem UX:AA V2 JK lQ HM (top 47)=true:=by kernel_rfl
noncomputable def nQ:LS:=["_law_events","_law_names","_law_matters","_law_m","_law_time","_law_rest","_law_one","_law_matter","_law_word","_law_other","_law_quote_here"]
noncomputable def MM:LS:=["_law_events","_law_names","_law_matters","_law_m"]
noncomputable def B2:Need:=#[["_law_letters","_law_quote"],[],["len","tuple","range"]]
noncomputable def YF:PT :=
  %[.ret (.tup %[.str "tell",.var 4,.idx (.var 1) (.var 6),.idx (.var 1) (.var 9),.var 7,.var 8,.var 10|1])|2]
def ZK:PT :=
  (.seq (.set 4 (.idx (.lst %[.bin .Mod (.bin .FloorDiv (.var 3) (.int 3)) (.int 5),.bin .Mod (.bin .FloorDiv (.var 3) (.int 3)) (.int 30),.bin .Sub (.int 999999999) (.bin .Mod (.bin .FloorDiv (.var 3) (.int 3)) (.int 4))|1]) (.bin .Mod (.var 3) (.int 3))))
  (.seq (.set 5 (.bin .FloorDiv (.var 3) (.int 40)))
  (.seq (.set 6 (.bin .Mod (.var 5) (.bi .len %[.var 1|1])))
  (.seq (.set 7 (.idx (.var 2) (.bin .Mod (.bin .FloorDiv (.var 5) (.int 7)) (.bi .len %[.var 2|1]))))
  (.seq (.set 8 (.call "_law_letters" %[.var 5,.bin .Add (.int 1) (.bin .Mod (.bin .FloorDiv (.var 5) (.int 11)) (.int 8))|1]))
  (.seq (.ife (.cmp .Eq (.bin .Mod (.bin .FloorDiv (.var 5) (.int 90)) (.int 4)) (.int 0)) %[.ret (.tup %[.str "see",.var 4,.idx (.var 1) (.var 6),.var 7,.var 8|1])|2] .nil)
  (.seq (.set 9 (.bin .Mod (.bin .Add (.bin .Add (.var 6) (.int 1)) (.bin .Mod (.bin .FloorDiv (.var 5) (.int 360)) (.bin .Sub (.bi .len %[.var 1|1]) (.int 1)))) (.bi .len %[.var 1|1])))
  (.seq (.set 10 (.call "_law_quote" %[.var 0,.idx (.var 1) (.var 6),.var 7,.bin .Mod (.bin .FloorDiv (.var 5) (.int 2500)) (.int 7)|1]))
  (.seq (.ife (.cmp .Eq (.bin .Mod (.bin .FloorDiv (.var 5) (.int 10000)) (.int 5)) (.int 0)) %[.set 10 (.bi .tuple %[.comp [] ["_law_k"] (.nm 0) .rng1 %[.bin .Add (.int 1) (.bin .Mod (.bin .FloorDiv (.var 5) (.int 2500)) (.int 6))|1] .nop (.idx (.var 2) (.bin .Mod (.bin .Add (.bin .FloorDiv (.var 6) (.int 50000)) (.bin .Mult (.int 2) (.var 0))) (.bi .len %[.var 2|1])))|1])|2] .nil)
  YF)))))))))
theorem FX:AA B2 ZK nQ MM (top 48)=true:=by kernel_rfl
noncomputable def fO:LS:=["_law_cells","_law_many","_law_sums","_law_k","_law_cell"]
def AK:LS:=["_law_cells","_law_many"]
def BW:Need:=#[[],[],["range","min","len","enumerate"]]
noncomputable def JF:PT :=
  %[.six (.var 2) (.bin .Mod (.var 3) (.var 1)) (.bin .Add (.idx (.var 2) (.bin .Mod (.var 3) (.var 1))) (.var 4))|2]
def lI:PT :=
  %[.own 2 (.comp [kd,kd,kd,kf] ["_law_k"] (.nm 0) .rng1 %[.bi .min %[.var 1,.bi .len %[.var 0|1]|1]|1] .nop (.int 0)),.for_ (.tp [3,4]) .enum %[.var 0|1] JF,.ret (.var 2)|2]
theorem RU:AA BW lI fO AK (top 49)=true:=by kernel_rfl
noncomputable def dQ:LS:=["_law_script","_law_first","_law_second","_law_names","_law_matters","_law_people","_law_events","_law_k","_law_quote_here","_law_cell"]
def DM:LS:=["_law_script"]
noncomputable def J2:Need:=#[["_law_mixed","_law_cell_at","_law_words","_law_person","_law_folded","_law_event","_law_against"],[],["enumerate","range","len","tuple","reversed"]]
noncomputable def YG:PT :=
  %[.set 8 (.trv (.slc (.var 3) .nop (.var 7))),.expr (.mt .append (.var 6) %[.tup %[.str "tell",.int 1,.idx (.var 3) (.var 7),.idx (.var 3) (.bin .Mod (.bin .Add (.var 7) (.int 1)) (.bi .len %[.var 3|1])),.idx (.var 4) (.int 0),.str "told",.var 8|1]|1])|2]
noncomputable def JG:PT :=
  %[.expr (.mt .append (.var 6) %[.call "_law_event" %[.var 6,.var 3,.var 4,.call "_law_mixed" %[.var 9,.bin .Add (.var 7) (.int 3)|1]|1]|1])|2]
def dD:PT :=
  %[.for_ (.tp [7,9]) .enum %[.call "_law_folded" %[.slc (.var 0) (.int 2) .nop,.int 14|1]|1] JG,.frz [6] (.ret (.tup %[.var 5,.var 4,.call "_law_against" %[.var 4,.bin .FloorDiv (.var 2) (.int 3)|1],.var 6|1]))|2]
def aK:PT :=
  (.seq (.set 1 (.call "_law_mixed" %[.call "_law_cell_at" %[.var 0,.int 0|1],.int 1|1]))
  (.seq (.set 2 (.call "_law_mixed" %[.call "_law_cell_at" %[.var 0,.int 1|1],.int 2|1]))
  (.seq (.set 3 (.call "_law_words" %[.call "_law_cell_at" %[.var 0,.int 0|1],.bin .Add (.int 2) (.bin .Mod (.var 1) (.int 5)),.int 8|1]))
  (.seq (.set 4 (.call "_law_words" %[.call "_law_cell_at" %[.var 0,.int 1|1],.bin .Add (.int 1) (.bin .Mod (.var 2) (.int 3)),.int 8|1]))
  (.seq (.set 5 (.comp [kd,kd,kd,kd,kd,kd,kd,kf] ["_law_k","_law_name"] (.tp [0,1]) .enum %[.var 3|1] .nop (.call "_law_person" %[.var 1,.call "_law_mixed" %[.call "_law_cell_at" %[.var 2,.int 0|1],.bin .Add (.int 10) (.var 0)|1]|1])))
  (.seq (.own 6 (.lst .anil))
  (.seq (.ife (.cmp .Eq (.bin .Mod (.bin .FloorDiv (.var 1) (.int 5)) (.int 4)) (.int 0)) %[.set 5 (.comp [] ["_law_person_here"] (.nm 0) .val %[.var 5|1] .nop (.bin .Add (.slc (.var 0) .nop (.int 2)) (.tup %[.int 0,.int 1|1]))),.expr (.mt .append (.var 6) %[.tup %[.str "see",.int 0,.idx (.var 3) (.int 0),.idx (.var 4) (.int 0),.str "seen"|1]|1]),.for_ (.nm 7) .rng1 %[.bi .len %[.var 3|1]|1] YG|2] .nil)
  dD)))))))
theorem ZX:AA J2 aK dQ DM (top 50)=true:=by kernel_rfl
noncomputable def NZ:LS:=["_law_world_here","_law_steps","_law_at","_law_event_here","_law_edges","_law_way","_law_k","_law_step","_law_ahead"]
def eT:LS:=["_law_world_here","_law_steps","_law_at"]
def Vd:Need:=#[[],[],["list","range","len"]]
noncomputable def UK:PT :=
  %[.ife (.cmp .NotIn (.tup %[.idx (.var 5) (.bin .Add (.var 6) (.int 1)),.idx (.var 5) (.var 6)|1]) (.var 4)) %[.ret (.bl kd)|2] .nil|2]
noncomputable def fH:PT :=
  %[.set 8 (.idx (.idx (.var 0) (.int 3)) (.idx (.var 7) (.int 0))),.ife (.and (.cmp .Eq (.idx (.var 8) (.int 0)) (.str "see")) (.and (.cmp .Eq (.idx (.var 8) (.int 2)) (.idx (.var 5) (.ng 1))) (.cmp .Eq (.idx (.var 8) (.int 3)) (.idx (.var 3) (.int 4))))) %[.ret (.bl kf)|2] .nil|2]
def mI:PT :=
  %[.set 5 (.bin .Add (.lst %[.idx (.var 3) (.int 2)|1]) (.bi .list %[.idx (.var 3) (.int 6)|1])),.for_ (.nm 6) .rng1 %[.bin .Sub (.bi .len %[.var 5|1]) (.int 1)|1] UK,.for_ (.nm 7) .val %[.slc (.var 1) .nop (.var 2)|1] fH,.ret (.bl kd)|2]
def SL:PT :=
  (.seq (.set 3 (.idx (.idx (.var 0) (.int 3)) (.idx (.idx (.var 1) (.var 2)) (.int 0))))
  (.seq (.ife (.cmp .Eq (.idx (.var 3) (.int 0)) (.str "see")) %[.ret (.bl kd)|2] .nil)
  (.seq (.set 4 (.lst .anil))
  (.seq (.ife (.cmp .Gt (.var 2) (.int 0)) %[.set 4 (.comp [kd,kd,kd,kd,kd,kd,kf] ["_law_k"] (.nm 0) .val %[.idx (.idx (.var 1) (.bin .Sub (.var 2) (.int 1))) (.int 2)|1] (.cmp .Eq (.idx (.idx (.idx (.var 1) (.int 3)) (.var 0)) (.int 4)) (.idx (.var 4) (.int 4))) (.tup %[.idx (.idx (.idx (.var 1) (.int 3)) (.var 0)) (.int 2),.idx (.idx (.idx (.var 1) (.int 3)) (.var 0)) (.int 3)|1]))|2] .nil)
  mI))))
theorem J9:AA Vd SL NZ eT (top 51)=true:=by kernel_rfl
noncomputable def yi:LS:=["_law_script","_law_world_here","_law_steps","_law_some","_law_at","_law_found"]
def V6:LS:=["_law_script"]
noncomputable def Hr:Need:=#[["_law_world","gone","_law_mixed","_law_cell_at","said_truly","_law_due"],[],["range","len","isinstance","bool"]]
noncomputable def gS:PT :=
  %[.ife (.cmp .Eq (.bin .Mod (.bin .Add (.var 4) (.var 3)) (.int 3)) (.int 0)) %[.set 5 (.call "said_truly" %[.var 1,.idx (.idx (.var 2) (.var 4)) (.int 0)|1]),.ife (.or (.not (.isi (.var 5) (.bty "bool" "bool"))) (.cmp .NotEq (.var 5) (.call "_law_due" %[.var 1,.var 2,.var 4|1]))) %[.ret (.bl kd)|2] .nil|2] .nil|2]
def L9:PT :=
  %[.set 1 (.call "_law_world" %[.var 0|1]),.set 2 (.call "gone" %[.var 1|1]),.set 3 (.call "_law_mixed" %[.call "_law_cell_at" %[.var 0,.int 1|1],.int 95|1]),.for_ (.nm 4) .rng1 %[.bi .len %[.var 2|1]|1] gS,.ret (.cmp .Eq (.var 1) (.call "_law_world" %[.var 0|1]))|2]
theorem on:AA Hr L9 yi V6 (top 52)=true:=by kernel_rfl
theorem oF(a b:Str):Qo (.str a) (.str b)=decide (a=b):=by rw[Q2,q7];simp[Qo]
theorem AL(l:LS)(z:Str):((l.map j0).any λy=>Qo y (.str z))=decide (z∈l):=by rw[QAl,Q2,wZ,q7];constructor;rintro⟨x,u,e⟩;have e:Qo (.str x) (.str z)=true:=e;rw[oF,q7]at e;exact e▸u;intro h;exact#[z,h,by show Qo (.str z) (.str z)=kf;rw[oF];exact dT rfl]
theorem pJ(l:LS):(l.map j0).all VB=true:=by rw[QCl,Q1];exact λ_ _=>rfl
noncomputable def de(g:Str)(cut:LS)(s:Str):Bool:=!decide (s=g)&&!decide (s∈cut)
inductive Led(es:TC)(st:LS)(g:Str)(cut:LS):Str->Prop
 |st {s:Str}:s∈st->de g cut s=kf->Led es st g cut s
 |ed {a b:Str}:Led es st g cut a->(a,b)∈es->de g cut b=kf->Led es st g cut b
theorem mR:∀{ks ns:LS},ks.Nodup->(∀s∈ks,s∈ns)->ks.9<=ns.9
 |[],_,_,_=>Qn _|s::r,ns,h,hs=>by let#[k,u]:=Ql.mp h;have z:=hs s QD;have:=mR (ks:=r) (ns:=ns.erase s) u λx y=>(QBn (λ(e:x=s)=>k (e▸y))).mpr (hs x (QE _ y));rw[QA4 z]at this;have f:=QBS z;rw[QN];omega
def one(y:Str):Prop:=∃c,c<128/\y=#[(qK [c])]
def pr(p:Str×Str):D:=.tuple [.str p.1,.str p.2]
theorem IR{α h:Type}(f:α->h)(l:List α)(a b:Option Int):cD (l.map f) a b=(cD l a b).map f:=by unfold cD;rw[QF,QCN,List.map_drop]
noncomputable abbrev Pt:=Str×Str
theorem RQ(h:pr p=pr q):p=q:=by let#[a,b]:=p;let#[c,d]:=q;injection h with h;injection h with h1 h;injection h with h2 _;injection h1 with h1;injection h2 with h2;exact QC2 h1 h2
theorem z9{x k:D}{r:List D}(h:x≠k):dA (x::r) k=(dA r k).map (·+1):=by unfold dA;rw[QB h];cases r<;>rfl
theorem Gg{x k:D}{r:List D}(h:x=k):dA (x::r) k=jr 0:=by unfold dA;rw[Qc h]
noncomputable def look{α:Type}:List (Pt×α)->Pt->Option α
 |[],_=>kv|e::l,p=>if e.1=p then jr e.2 else look l p
noncomputable def put{α:Type}:List (Pt×α)->Pt->α->List (Pt×α)
 |[],p,v=>[(p,v)]|e::l,p,v=>if e.1=p then(e.1,v)::l else e::put l p v
def NC{α:Type}(l:List (Pt×α)):List D:=l.map λe=>pr e.1
theorem lK{α:Type}{p:Pt}:∀{l:List (Pt×α)},look l p=kv->dA (NC l) (pr p)=kv/\∀w,put l p w=l++[(p,w)]
 |[],_=>#[rfl,λ_=>rfl]|e::l,h=>by unfold look at h;by_cases c:e.1=p;rw[Qc c]at h;cases h;rw[QB c]at h;let#[y,x]:=lK h;refine#[?_,λw=>?_];show dA (pr e.1::NC l) (pr p)=kv;rw[z9 (λz=>c (RQ z)),y];rfl;show(if e.1=p then(e.1,w)::l else e::put l p w)=_;rw[QB c,x];rfl
theorem KC{α:Type}{p:Pt}{v:α}(f:α->T):∀{l:List (Pt×α)},look l p=jr v->∃n,dA (NC l) (pr p)=jr n/\(l.map λe=>f e.2)[n]?=jr (f v)/\∀w,NC (put l p w)=NC l/\(l.map λe=>f e.2).set n (f w)=(put l p w).map λe=>f e.2
 |[],h=>by cases h|e::l,h=>by unfold look at h;by_cases c:e.1=p;rw[Qc c]at h;injection h with h;refine#[0,?_,?_,λw=>?_];exact Gg (wy pr c);show jr (f e.2)=_;rw[h];have:put (e::l) p w=(e.1,w)::l:=Qc c;rw[this];exact#[rfl,rfl];rw[QB c]at h;let#[n,i,k,u]:=KC f h;refine#[n+1,?_,k,λw=>?_];show dA (pr e.1::NC l) (pr p)=jr (n+1);rw[z9 (λz=>c (RQ z)),i];rfl;have:put (e::l) p w=e::put l p w:=QB c;rw[this];let#[y,x]:=u w;refine#[?_,?_];show pr e.1::NC (put l p w)=pr e.1::NC l;rw[y];show f e.2::(l.map λe=>f e.2).set n (f w)=f e.2::(put l p w).map λe=>f e.2;rw[x]
theorem VD{α:Type}{p q:Pt}{w:α}:∀{l:List (Pt×α)},look (put l p w) q=if p=q then jr w else look l q
 |[]=>rfl|e::l=>by
  by_cases c:e.1=p;have h:put (e::l) p w=(e.1,w)::l:=Qc c;rw[h];show(if e.1=q then jr w else look l q)=if p=q then jr w else(if e.1=q then jr e.2 else look l q)
  rw[c];split<;>rfl;have h:put (e::l) p w=e::put l p w:=QB c;rw[h];show(if e.1=q then jr e.2 else look (put l p w) q)=if p=q then jr w else(if e.1=q then jr e.2 else look l q)
  rw[VD];by_cases d:e.1=q;rw[Qc d,Qc d,QB (λz=>c (d.trans z.symm))];rw[QB d,QB d]
theorem UY{α:Type}{p:Pt}{w:α}:∀{l:List (Pt×α)},(put l p w).9<=l.9+1
 |[]=>QV _|e::l=>by by_cases c:e.1=p;rw[show put (e::l) p w=(e.1,w)::l from Qc c,QN,QN];omega;have:=UY (p:=p) (w:=w) (l:=l);rw[show put (e::l) p w=e::put l p w from QB c,QN,QN];omega
theorem jC(p:Pt):TD kf (pr p):=#[[.s p.1,.s p.2],rfl,by simp[L7,nkds]]
noncomputable abbrev Inn:=List (Pt×Int)
noncomputable abbrev Rm:=List (Pt×Inn)
noncomputable def CD(l:Inn):T:=.dct kf (NC l) (l.map λe=>T.d (.int e.2))
def gB(r:Rm):T:=.dct kf (NC r) (r.map λe=>CD e.2)
def sdf(r:Rm)(p:Pt):Rm:=match look r p with
 |some _=>r|none=>r++[(p,[])]
theorem aY(hl:r.9<kb)(q:Q (gB (sdf r p))):aq (.d (pr p)) (gB r) Q:=by
 refine#[NC r,_,rfl,jC p,by unfold NC;rw[QF];exact hl,?_];unfold sdf at q;cases h:look r p with
 |some v=>rw[h]at q;let#[n,x,_]:=KC CD h;exact .inl #[n,x,q]|none =>
  rw[h]at q;refine .inr #[(lK h).1,?_];have e:gB (r++[(p,[])])=.dct kf (NC r++[pr p]) ((r.map λe=>CD e.2)++[.dct kf [] []]):=by unfold gB NC;rw[QR,QR];rfl
  show Q (T.dct kf (NC r++[pr p]) ((r.map λe=>CD e.2)++[.dct kf [] []]));rw[<- e];exact q
theorem eQ(hl:l.9<kb)(q:Q (CD (put l p v))):Uf (CD l) (.d (pr p)) (.d (.int v)) Q:=by
 refine#[jC p,by unfold NC;rw[QF];exact hl,?_];have e:yK kf (NC l) (l.map λe=>T.d (.int e.2)) (pr p) (.d (.int v))=CD (put l p v):=by
  unfold yK;cases h:look l p with|none=>let#[x,y]:=lK h;rw[x,y];unfold CD NC;rw[QR,QR];rfl|some u=>let#[n,x,y,f]:=KC (λi:Int=>T.d (.int i)) h;rw[x];let#[k,z]:=f v;show T.dct kf (NC l) ((l.map λe=>T.d (.int e.2)).set n (T.d (.int v)))=_;unfold CD;rw[k,z]
 show Q (yK kf (NC l) (l.map λe=>T.d (.int e.2)) (pr p) (.d (.int v)));rw[e];exact q
theorem ZI{Q:T->(T->T)->Prop}(h:look r p=jr l)(q:∀f:T->T,(∀x,f (CD x)=gB (put r p x))->Q (CD l) f):bq (.d (pr p)) (gB r) Q:=by let#[n,i,k,u]:=KC CD h;refine#[kf,NC r,_,n,CD l,rfl,jC p,i,k,q _ λx=>?_];let#[z,y]:=u x;show T.dct kf (NC r) ((r.map λe=>CD e.2).set n (CD x))=_;unfold gB;rw[z,y]
def UA:Pt:=("","begin")
def tO(n:Str):Pt:=(n,"to")
def fR(n:Str):Pt:=(n,"from")
theorem Xw:("begin":Str)≠"to":=by decide +kernel
theorem Uw:("begin":Str)≠"from":=by decide +kernel
theorem Zw:("to":Str)≠"from":=by decide +kernel
theorem EB:UA≠tO a:=λh=>Xw (wy QCO h)
theorem OE:UA≠fR a:=λh=>Uw (wy QCO h)
theorem RA:tO a≠fR b:=λh=>Zw (wy QCO h)
theorem LB(h:tO a=tO b):a=b:=wy wE h
theorem xI(h:fR a=fR b):a=b:=wy wE h
def D4(p q:Pt):Prop:=(p=UA/\∃n,q=tO n)∨(∃n,p=tO n/\q=fR n)∨(∃a b,a≠b/\p=fR a/\q=tO b)
theorem lF(h:D4 p q):¬ D4 q p:=by
 rintro k;rcases h with⟨rfl,n,rfl⟩| ⟨n,rfl,rfl⟩| ⟨a,b,u,rfl,rfl⟩<;>rcases k with⟨x,m,y⟩| ⟨m,x,y⟩| ⟨c,d,z,x,y⟩
 exact EB x.symm;exact OE y;exact RA x;exact OE x.symm;exact RA x.symm;exact z ((xI x).symm.trans (LB y));exact EB x.symm;exact u ((xI y).trans (LB x).symm);exact RA x
theorem hG(h:D4 p q):p≠q:=λe=>lF h (by rw[e]at h ⊢;exact h)
noncomputable abbrev Wy:=Pt×Pt×Int
def lk(r:Rm)(p:Pt):Inn:=(look r p).getD []
def XB(r:Rm)(w:Wy):Rm:=put (put (sdf (sdf r w.1) w.2.1) w.1 (put (lk (sdf (sdf r w.1) w.2.1) w.1) w.2.1 w.2.2)) w.2.1 (put (lk (put (sdf (sdf r w.1) w.2.1) w.1 (put (lk (sdf (sdf r w.1) w.2.1) w.1) w.2.1 w.2.2)) w.2.1) w.1 0)
theorem yU{α:Type}{p q:Pt}{v:α}:∀{l:List (Pt×α)},look (l++[(p,v)]) q=(look l q).or (if p=q then jr v else kv)
 |[]=>rfl|e::l=>by show(if e.1=q then jr e.2 else look (l++[(p,v)]) q)=(if e.1=q then jr e.2 else look l q).or (if p=q then jr v else kv);by_cases c:e.1=q;rw[Qc c,Qc c];rfl;rw[QB c,QB c];exact yU
theorem jU:look (sdf r p) q=(look r q).or (if p=q then jr [] else kv):=by
 unfold sdf;cases h:look r p with
 |some v =>
  show look r q=_;cases y:look r q with
  |some x=>rfl|none =>
   show kv=if p=q then jr [] else kv
   rw[QB];intro e;rw[e,y]at h;cases h
 |none=>show look (r++[(p,[])]) q=_;exact yU
theorem FQ:(sdf r p).9<=r.9+1:=by unfold sdf;split;omega;rw[QI,qO];omega
theorem AI{α:Type}{p:Pt}{w:α}{e:Pt×α}:∀{l:List (Pt×α)},e∈put l p w->e=(p,w)∨e∈l
 |[],h=>.inl (QJ.mp h)|x::l,h=>by by_cases c:x.1=p;rw[show put (x::l) p w=(x.1,w)::l from Qc c]at h;rcases QL.mp h with h|h;exact .inl (by rw[h,c]);exact .inr (QE _ h);rw[show put (x::l) p w=x::put l p w from QB c]at h;rcases QL.mp h with h|h;exact .inr (by rw[h];exact QD);exact(AI h).imp_right (QE _)
theorem NQ{α:Type}{p:Pt}{w:α}{q:Pt}:∀{l:List (Pt×α)},(∃v,(q,v)∈put l p w)↔q=p∨∃v,(q,v)∈l
 |[]=>by
  constructor;rintro⟨v,h⟩;exact .inl (wy wE (QJ.mp h));rintro(rfl|⟨v,h⟩)
  ·exact#[w,QJ.mpr rfl]
  exact(nomatch h)
 |x::l=>by
  by_cases c:x.1=p;rw[show put (x::l) p w=(x.1,w)::l from Qc c];constructor;rintro⟨v,h⟩;rcases QL.mp h with h|h;exact .inl ((wy wE h).trans c);exact .inr #[v,QE _ h];rintro(rfl|⟨v,h⟩)
  ·exact#[w,by rw[c];exact QD]
  rcases QL.mp h with h|h
  ·exact#[w,by rw[<- h];exact QD]
  exact#[v,QE _ h];rw[show put (x::l) p w=x::put l p w from QB c];have y:=NQ (p:=p) (w:=w) (q:=q) (l:=l);constructor;rintro⟨v,h⟩;rcases QL.mp h with h|h;exact .inr #[v,by rw[h];exact QD];exact(y.mp #[v,h]).imp_right λ#[v,h]=>#[v,QE _ h]
  rintro(h|⟨v,h⟩)
  ·let#[v,h]:=y.mpr (.inl h)
   exact#[v,QE _ h]
  rcases QL.mp h with h|h
  ·exact#[v,by rw[h];exact QD]
  let#[v,h]:=y.mpr (.inr #[v,h]);exact#[v,QE _ h]
def G4(r:Rm)(p q:Pt):Prop:=∃v,(q,v)∈lk r p
def Key(r:Rm)(p:Pt):Prop:=∃l,look r p=jr l
def Pos(r:Rm):Prop:=∀p,∀e∈lk r p,(0<e.2↔D4 p e.1)
def Ha(r:Rm):Prop:=∀p q,G4 r p q->Key r q
def Sz(r:Rm)(n:Nat):Prop:=r.9<=n/\∀p,(lk r p).9<=n
theorem gE:lk (put r p l) q=if p=q then l else lk r q:=by unfold lk;rw[VD];split<;>rfl
theorem fE:lk (sdf r p) q=lk r q:=by
 unfold lk;rw[jU];cases look r q with|some x=>rfl|none=>show(if p=q then jr [] else kv).getD []=[];split<;>rfl
theorem gJ:Key (put r p l) q↔p=q∨Key r q:=by unfold Key;rw[VD];by_cases h:p=q;rw[Qc h];exact#[λ_=>.inl h,λ_=>#[_,rfl]];rw[QB h];exact#[.inr,λz=>z.resolve_left h]
theorem kE:Key (sdf r p) q↔p=q∨Key r q:=by
 unfold Key;rw[jU];cases look r q with|some x=>exact#[λ_=>.inr #[_,rfl],λ_=>#[_,rfl]]|none=>show(∃l,(if p=q then jr [] else kv)=jr l)↔_;by_cases h:p=q;rw[Qc h];exact#[λ_=>.inl h,λ_=>#[_,rfl]];rw[QB h];exact#[λ#[_,e]=>(nomatch e),λz=>(z.resolve_left h)]
theorem fJ(h:w.1≠w.2.1)(p:Pt):lk (XB r w) p=if w.2.1=p then put (lk r p) w.1 0 else if w.1=p then put (lk r p) w.2.1 w.2.2 else lk r p:=by unfold XB;rw[gE,gE,gE,fE,fE,fE,fE,QB h,fE,fE];by_cases y:w.2.1=p;rw[Qc y,Qc y,y];rw[QB y,QB y];by_cases x:w.1=p;rw[Qc x,Qc x,x];rw[QB x,QB x]
theorem nG:Key (XB r w) p↔p=w.1∨p=w.2.1∨Key r p:=by
 unfold XB;rw[gJ,gJ,kE,kE];constructor;rintro(h|h|h|h|h)
 ·exact .inr (.inl h.symm)
 exact .inl h.symm;exact .inr (.inl h.symm);exact .inl h.symm;exact .inr (.inr h);rintro(h|h|h)
 ·exact .inr (.inl h.symm)
 exact .inl h.symm;exact .inr (.inr (.inr (.inr h)))
theorem sJ(h:w.1≠w.2.1):G4 (XB r w) p q↔G4 r p q∨(p=w.1/\q=w.2.1)∨(p=w.2.1/\q=w.1):=by
 unfold G4;rw[fJ h];by_cases x:w.2.1=p;rw[Qc x,NQ];constructor;rintro(e|e)
 ·exact .inr (.inr #[x.symm,e])
 exact .inl e;rintro(e|⟨u,y⟩| ⟨u,y⟩)
 ·exact .inr e
 exact Qe (u.symm.trans x.symm) h;exact .inl y;rw[QB x];by_cases k:w.1=p;rw[Qc k,NQ];constructor;rintro(e|e)
 ·exact .inr (.inl #[k.symm,e])
 exact .inl e;rintro(e|⟨u,y⟩| ⟨u,y⟩)
 ·exact .inr e
 exact .inl y;exact Qe u.symm x;rw[QB k];exact#[.inl,λz=>z.elim id λz=>z.elim (λe=>Qe e.1.symm k) λe=>Qe e.1.symm x]
def MG(w:Wy):Prop:=D4 w.1 w.2.1/\0<w.2.2
theorem U6(g:MG w)(y:Pos r):Pos (XB r w):=by intro p e h;rw[fJ (hG g.1)]at h;by_cases k:w.2.1=p;rw[Qc k]at h;rcases AI h with z|z;rw[z,<- k];exact#[λx=>Qe x (WD 0),λx=>Qe x (lF g.1)];exact y p e z;rw[QB k]at h;by_cases u:w.1=p;rw[Qc u]at h;rcases AI h with z|z;rw[z,<- u];exact#[λ_=>g.1,λ_=>g.2];exact y p e z;rw[QB u]at h;exact y p e h
theorem d9(g:MG w)(x:Ha r):Ha (XB r w):=by
 intro p q h;rw[nG];rcases(sJ (hG g.1)).mp h with h|⟨_,h⟩| ⟨_,h⟩
 exact .inr (.inr (x p q h));exact .inr (.inl h);exact .inl h
theorem YM{α:Type}{w:α}{l:List (Pt×α)}{n:Nat}(h:l.9<=n):(put l p w).9<=n+1:=QU UY ()
theorem OQ{α:Type}{p:Pt}{w:α}:∀{l:List (Pt×α)},(look l p).isSome=kf->(put l p w).9=l.9
 |[],h=>by cases h|e::l,h=>by by_cases c:e.1=p;rw[show put (e::l) p w=(e.1,w)::l from Qc c];rfl;rw[show put (e::l) p w=e::put l p w from QB c,QN,QN];rw[show look (e::l) p=look l p from QB c]at h;rw[OQ h]
theorem dU(h:Key r p):(look r p).isSome=true:=by let#[l,e]:=h;rw[e];rfl
theorem c8:(XB r w).9<=r.9+2:=by have x:Key (sdf (sdf r w.1) w.2.1) w.1:=kE.mpr (.inr (kE.mpr (.inl rfl)));have h:Key (sdf (sdf r w.1) w.2.1) w.2.1:=kE.mpr (.inl rfl);unfold XB;rw[OQ (dU (gJ.mpr (.inr h))),OQ (dU x)];have:=FQ (r:=r) (p:=w.1);have:=FQ (r:=sdf r w.1) (p:=w.2.1);omega
theorem YI{n:Nat}(g:w.1≠w.2.1)(h:Sz r n):Sz (XB r w) (n+2):=by
 refine#[QU c8 (by have:=h.1;omega),λp=>?_];rw[fJ g];have x:=h.2 p;split;exact QU (YM x) ();split
 ·exact QU (YM x) ()
 omega
theorem aZ:∀{ws:List Wy}{r:Rm},(∀w∈ws,MG w)->∀{p q:Pt},G4 (ws.foldl XB r) p q↔G4 r p q∨(∃v,(p,q,v)∈ws)∨∃v,(q,p,v)∈ws
 |[],r,_,p,q=>#[.inl,λz=>z.elim id λz=>z.elim (λ#[_,z]=>(nomatch z)) λ#[_,z]=>(nomatch z)]
 |w::ws,r,h,p,q=>by
  rw[QAa,aZ (λw x=>h w (QE _ x)),sJ (hG (h w QD).1)];constructor;rintro((z|⟨rfl,rfl⟩| ⟨rfl,rfl⟩)|⟨v,z⟩| ⟨v,z⟩)
  ·exact .inl z
  exact .inr (.inl #[_,QD]);exact .inr (.inr #[_,QD]);exact .inr (.inl #[v,QE _ z]);exact .inr (.inr #[v,QE _ z]);rintro(z|⟨v,z⟩| ⟨v,z⟩)
  ·exact .inl (.inl z)
  rcases QL.mp z with z|z
  ·rw[<- z]
   exact .inl (.inr (.inl #[rfl,rfl]))
  exact .inr (.inl #[v,z]);rcases QL.mp z with z|z
  ·rw[<- z]
   exact .inl (.inr (.inr #[rfl,rfl]))
  exact .inr (.inr #[v,z])
theorem hV:∀{ws:List Wy}{r:Rm}{n:Nat},(∀w∈ws,MG w)->Pos r->Ha r->Key r UA->Sz r n->Pos (ws.foldl XB r)/\Ha (ws.foldl XB r)/\Key (ws.foldl XB r) UA/\Sz (ws.foldl XB r) (n+2 * ws.length)
 |[],r,n,_,h1,h2,h3,h4=>#[h1,h2,h3,h4]|w::ws,r,n,h,h1,h2,h3,h4=>by have g:=h w QD;have:=hV (ws:=ws) (r:=XB r w) (n:=n+2) (λw x=>h w (QE _ x)) (U6 g h1) (d9 g h2) (nG.mpr (.inr (.inr h3))) (YI (hG g.1) h4);rw[QAa,QN,show n+2 * (ws.length+1)=n+2+2 * ws.length by omega];exact this
noncomputable def ZS(g:Str)(n:Str):List Wy:=if n=g then[] else[(tO n,fR n,1),(UA,tO n,2)]
noncomputable def JV(g:Str)(e:Str×Str):List Wy:=if e.1=g∨e.1=e.2 then[] else[(tO e.1,fR e.1,1),(tO e.2,fR e.2,1),(fR e.1,tO e.2,2)]
def aH:Rm:=[(UA,[])]
def yA(es:TC)(st:LS)(g:Str):Rm:=(es.flatMap (JV g)).foldl XB ((st.flatMap (ZS g)).foldl XB aH)
theorem Vv:(0:Int)<1:=by decide
theorem Sy:(0:Int)<2:=by decide
theorem vY:(ZS g n).9<=2:=by unfold ZS;split;exact Qn _;exact QV _
theorem xY:(JV g e).9<=3:=by unfold JV;split;exact Qn _;exact QV _
theorem jM:∀w∈ZS g n,MG w:=by
 intro w h;unfold ZS at h;split at h;exact(nomatch h);rcases QL.mp h with rfl|h
 ·exact#[.inr (.inl #[n,rfl,rfl]),Vv]
 rw[QJ.mp h];exact#[.inl #[rfl,n,rfl],Sy]
theorem yM:∀w∈JV g e,MG w:=by
 intro w x;unfold JV at x;split at x;exact(nomatch x);rename_i h;rcases QL.mp x with rfl|x;exact#[.inr (.inl #[e.1,rfl,rfl]),Vv];rcases QL.mp x with rfl|x
 ·exact#[.inr (.inl #[e.2,rfl,rfl]),Vv]
 rw[QJ.mp x];exact#[.inr (.inr #[e.1,e.2,λz=>h (.inr z),rfl,rfl]),Sy]
theorem KN{α:Type}{f:α->List Wy}{k:Nat}(h:∀x,(f x).9<=k):∀(l:List α),(l.flatMap f).9<=k * l.9
 |[]=>QV _|x::l=>by have:=KN h l;have:=h x;rw[QA5,QI,QN,Nat.mul_succ];omega
theorem dH{α:Type}{f:α->List Wy}(h:∀x,∀w∈f x,MG w)(l:List α):∀w∈l.flatMap f,MG w:=λw z=>by let#[x,_,y]:=QAJ.mp z;exact h x w y
structure RmOk(r:Rm)(n:Nat):Prop where
 pos:Pos r
 dom:Ha r
 bg:Key r UA
 sz:Sz r n
theorem UE:RmOk aH 1:=by
 have e:∀p,lk aH p=[]:=λp=>by show(if UA=p then jr [] else kv).getD []=[];split<;>rfl
 refine#[λp y x=>?_,λp q #[v,h]=>?_,#[[],Qc rfl],QV _,λp=>?_];rw[e]at x;exact(nomatch x);rw[e]at h;exact(nomatch h);rw[e];exact Qn _
theorem RmOk.add{r:Rm}{n:Nat}(h:RmOk r n){ws:List Wy}(g:∀w∈ws,MG w):RmOk (ws.foldl XB r) (n+2 * ws.length):=by let#[u,z,y,x]:=hV g h.pos h.dom h.bg h.sz;exact#[u,z,y,x]
theorem KT{es:TC}{st:LS}(z:es.9<=126)(y:st.9<=11):RmOk (yA es st g) 1000:=by have a:=(UE.add (dH (f:=ZS g) (λ_=>jM) st)).add (dH (f:=JV g) (λ_=>yM) es);have x:=KN (f:=ZS g) (k:=2) (λ_=>vY) st;have h:=KN (f:=JV g) (k:=3) (λ_=>xY) es;exact#[a.pos,a.dom,a.bg,QU a.sz.1 (),λp=>QU (a.sz.2 p) ()]
def lh(r:Rm)(p q:Pt):Prop:=∃v,(q,v)∈lk r p/\0<v
inductive Rch(r:Rm):Pt->Prop
 |bg:Rch r UA
 |go {p q:Pt}:Rch r p->lh r p q->Rch r q
theorem Ps:(p,q,v)∈ZS g n↔n≠g/\((p,q,v)=(tO n,fR n,1)∨(p,q,v)=(UA,tO n,2)):=by unfold ZS;split;rename_i h;exact#[λz=>(nomatch z),λz=>Qe h z.1];rename_i h;rw[QL,QJ];exact#[λz=>#[h,z],λz=>z.2]
theorem Rs:(p,q,v)∈JV g e↔(e.1≠g/\e.1≠e.2)/\((p,q,v)=(tO e.1,fR e.1,1)∨(p,q,v)=(tO e.2,fR e.2,1)∨(p,q,v)=(fR e.1,tO e.2,2)):=by unfold JV;split;rename_i h;exact#[λz=>(nomatch z),λz=>h.elim (λh=>Qe h z.1.1) λh=>Qe h z.1.2];rename_i h;rw[QL,QL,QJ];exact#[λz=>#[#[λe=>h (.inl e),λe=>h (.inr e)],z],λz=>z.2]
theorem GE{cut:LS}{s:Str}:de g cut s=kf↔s≠g/\s∉cut:=by unfold de;rw[QZ,qD,qD,decide_eq_false_iff_not,decide_eq_false_iff_not]
end
section
variable{es:TC}{st:LS}{g:Str}{x:LS}
theorem pN{s:Str}(h:Led es st g x s):s≠g/\s∉x:=by
 cases h with|st _ h=>exact GE.mp h|ed _ _ h=>exact GE.mp h
end
section
variable{r:Rm}{ks:List Pt}{vs:List D}
theorem D5:∀{ws:List Wy}{r:Rm}{n:Nat},(∀w∈ws,MG w)->Sz r n->Sz (ws.foldl XB r) (n+2 * ws.length)
 |[],r,n,_,h4=>h4|w::ws,r,n,h,h4=>by have:=D5 (ws:=ws) (r:=XB r w) (n:=n+2) (λw x=>h w (QE _ x)) (YI (hG (h w QD).1) h4);rw[QAa,QN,show n+2 * (ws.length+1)=n+2+2 * ws.length by omega];exact this
inductive CF(r:Rm):List Pt->List D->Prop
 |bg:CF r [UA] [.none]
 |add {ks:List Pt}{vs:List D}{p q:Pt}:CF r ks vs->p∈ks->lh r p q->q∉ks->CF r (ks++[q]) (vs++[pr p])
theorem CF.len(h:CF r ks vs):vs.9=ks.length:=by
 induction h with|bg=>rfl|add _ _ _ _ x=>rw[QI,QI,x];rfl
theorem CF.hb(h:CF r ks vs):UA∈ks:=by
 induction h with|bg=>exact QD|add _ _ _ _ x=>exact Qm _ x
theorem CF.rch(h:CF r ks vs):∀k∈ks,Rch r k:=by
 induction h with|bg=>intro k hk;rw[QJ.mp hk];exact .bg|add _ y w _ x=>intro k hk;rcases Qf.mp hk with z|z;exact x k z;rw[QJ.mp z];exact .go (x _ y) w
theorem CF.nd(h:CF r ks vs):ks.Nodup:=by
 induction h with
 |bg=>exact Ql.mpr #[λz=>(nomatch z),Q7]
 |add _ _ _ n x=>refine qW.mpr #[x,Ql.mpr #[λz=>(nomatch z),Q7],λa y b hb z=>?_];rw[QJ.mp hb]at z;exact n (z▸y)
theorem RI(x:Ha r)(hb:Key r UA){p:Pt}(h:Rch r p):Key r p:=by
 cases h with|bg=>exact hb|go _ w=>let#[v,m,_]:=w;exact x _ _ #[v,m]
theorem XR{p:Pt}{l:Inn}:∀{r:Rm},look r p=jr l->p∈r.map (·.1)
 |[],h=>by cases h|e::r,h=>by by_cases c:e.1=p;rw[<- c];exact QD;rw[show look (e::r) p=look r p from QB c]at h;exact QE _ (XR (r:=r) h)
theorem xH:∀{ks ns:List Pt},ks.Nodup->(∀s∈ks,s∈ns)->ks.9<=ns.9
 |[],_,_,_=>Qn _|s::r,ns,h,hs=>by let#[v,u]:=Ql.mp h;have z:=hs s QD;have:=xH (ks:=r) (ns:=ns.erase s) u λx y=>(QBn (λ(e:x=s)=>v (e▸y))).mpr (hs x (QE _ y));rw[QA4 z]at this;have w:=QBS z;rw[QN];omega
theorem CF.le(y:Ha r)(hb:Key r UA)(h:CF r ks vs):ks.9<=r.length:=by
 have:=xH (ns:=r.map (·.1)) h.nd λs x=>by let#[l,e]:=RI y hb (h.rch s x);exact XR e
 rw[QF]at this;exact this
structure Srch(r:Rm)(ks:List Pt)(vs:List D)(ws:List Pt):Prop where
 cf:CF r ks vs
 sub:∀w∈ws,w∈ks
 clo:∀k∈ks,k∉ws->∀q,lh r k q->q∈ks
structure Srch1(r:Rm)(here:Pt)(ks:List Pt)(vs:List D)(ws:List Pt)(l:Inn):Prop where
 cf:CF r ks vs
 sub:∀w∈ws,w∈ks
 clo:∀k∈ks,k∉ws->k≠here->∀q,lh r k q->q∈ks
 her:here∈ks
 don:∀e∈lk r here,0<e.2->e.1∈ks∨e∈l
 all:∀e∈l,e∈lk r here
end
section
variable{r:Rm}{ks ws:List Pt}{vs:List D}
theorem lq:Srch r [UA] [.none] [UA]:=#[.bg,λ_ h=>h,λk h n=>Qe h n]
theorem Srch.pop{w:Pt}(h:Srch r ks vs (w::ws)):Srch1 r w ks vs ws (lk r w):=by refine#[h.cf,λx v=>h.sub x (QE _ v),λk hk n u=>h.clo k hk λz=>?_,h.sub w QD,λe y _=>.inr y,λe y=>y];rcases QL.mp z with z|z;exact u z;exact n z
theorem Srch1.skip{y:Pt}{e:Pt×Int}{l:Inn}(h:Srch1 r y ks vs ws (e::l))(c:0<e.2->e.1∈ks):Srch1 r y ks vs ws l:=by
 refine#[h.cf,h.sub,h.clo,h.her,λx u p=>?_,λx u=>h.all x (QE _ u)];rcases h.don x u p with z|z;exact .inl z;rcases QL.mp z with z|z
 ·rw[z]at p ⊢;exact .inl (c p)
 exact .inr z
theorem Srch1.add{u:Pt}{e:Pt×Int}{l:Inn}(h:Srch1 r u ks vs ws (e::l))(c:0<e.2)(n:e.1∉ks):Srch1 r u (ks++[e.1]) (vs++[pr u]) (ws++[e.1]) l:=by
 have f:=h.all e QD;refine#[h.cf.add h.her #[e.2,f,c] n,λx v=>?_,λk hk a b q w=>?_,Qm _ h.her,λx v p=>?_,λx v=>h.all x (QE _ v)];rcases Qf.mp v with z|z
 ·exact Qm _ (h.sub x z)
 exact QT _ z;rcases Qf.mp hk with z|z
 ·exact Qm _ (h.clo k z (λy=>a (Qm _ y)) b q w)
 exact Qe (QT _ z) a;rcases h.don x v p with z|z
 ·exact .inl (Qm _ z)
 rcases QL.mp z with z|z
 ·rw[z];exact .inl (QT _ QD)
 exact .inr z
theorem Srch1.fin{x:Pt}(h:Srch1 r x ks vs ws []):Srch r ks vs ws:=by refine#[h.cf,h.sub,λk hk n q w=>?_];by_cases e:k=x;subst e;let#[v,m,p]:=w;rcases h.don (q,v) m p with z|z;exact z;exact(nomatch z);exact h.clo k hk n e q w
theorem Srch.done(h:Srch r ks vs [])(p:Pt):p∈ks↔Rch r p:=by
 refine#[h.cf.rch p,λz=>?_];induction z with|bg=>exact h.cf.hb|go _ w x=>exact h.clo _ x (λz=>(nomatch z)) _ w
end
def eC(Q:T->LT->Prop):PEnds:={ nx:=λh=>nW (MA [0] h) (Q (.d .none)),rt:=λt h=>nW (MA [0] h) (Q t) }
theorem oK{Ψ:PEv}{b:PT}{p:PSp}{N x:LS}{ds:LT}{Q:T->LT->Prop}(ρ:vA)(h:pF Ψ b (eC Q) ρ)(hl:ds.9=x.length:=by rfl)(hc:CB 0 p.md x.9=[0]:=by rfl)(y:oB N p.md ds=ρ:=by rfl):ds.9=x.9/\pF Ψ b (yD p x.9 Q) (oB N p.md ds):=by
 have e:yD p x.9 Q=eC Q:=by unfold yD;rw[hc];rfl
 rw[e,y];exact#[hl,h]
def t4(r:Rm)(h t:Pt)(v:Int):vA:=[oW (gB r),bD (pr h),bD (pr t),bD (.int v)]
section
variable{Ψ:PEv}{Z:PEnds}{q:PT}{r:Rm}{h t:Pt}{v:Int}
theorem ly(hl:r.9<kb)(k:pF Ψ q Z (t4 (sdf r h) h t v)):pF Ψ (.seq (.sdf 0 (.var 1)) q) Z (t4 r h t v):=by delta t4 at k ⊢;simp![↓zA];refine#[rfl,aY hl ?_];exact k
theorem gy(hl:r.9<kb)(k:pF Ψ q Z (t4 (sdf r t) h t v)):pF Ψ (.seq (.sdf 0 (.var 2)) q) Z (t4 r h t v):=by delta t4 at k ⊢;simp![↓zA];refine#[rfl,aY hl ?_];exact k
theorem cy{l:Inn}(e:look r h=jr l)(hl:l.9<kb)(k:pF Ψ q Z (t4 (put r h (put l t v)) h t v)):pF Ψ (.seq (.six (.idx (.var 0) (.var 1)) (.var 2) (.var 3)) q) Z (t4 r h t v):=by delta t4 at k ⊢;simp![↓zA];refine ZI e λf x=>eQ hl ?_;rw[x];exact k
theorem uy{l:Inn}(e:look r t=jr l)(hl:l.9<kb)(k:pF Ψ q Z (t4 (put r t (put l h 0)) h t v)):pF Ψ (.seq (.six (.idx (.var 0) (.var 2)) (.var 1) (.int 0)) q) Z (t4 r h t v):=by delta t4 at k ⊢;simp![↓zA];refine ZI e λf x=>eQ hl ?_;rw[x];exact k
end
theorem FE{r:Rm}{p:Pt}(h:Key r p):look r p=jr (lk r p):=by let#[l,e]:=h;unfold lk;rw[e];rfl
def AG:PSp where
 md:=[.chg]
 run:=λh Q _=>∃(r:Rm) (w:Wy),h=[gB r,.d (pr w.1),.d (pr w.2.1),.d (.int w.2.2)]/\(w.1≠w.2.1/\Sz r 5000)/\Q (.d .none) [gB (XB r w)]
theorem yd{Ψ:PEv}:aE Ψ zQ AG oQ NM:=by rintro _ Q _ ⟨r,w,rfl,⟨z,h⟩,q⟩;refine oK (t4 r w.1 w.2.1 w.2.2) ?_;have a:=h.1;have k:=FQ (r:=r) (p:=w.1);have y:Key (sdf (sdf r w.1) w.2.1) w.1:=kE.mpr (.inr (kE.mpr (.inl rfl)));have x:Key (sdf (sdf r w.1) w.2.1) w.2.1:=kE.mpr (.inl rfl);have v:=h.2 w.1;have u:=h.2 w.2.1;refine ly () (gy () (cy (FE y) (by rw[fE,fE];omega) (uy (FE (gJ.mpr (.inr x))) (by rw[gE,QB z,fE,fE];omega) ?_)));exact q
def LI:PSp where
 md:=[.chg]
 run:=λh Q _=>∃(r:Rm) (n:Str),h=[gB r,.d (.str n)]/\Sz r 5000/\Q (.d .none) [gB (XB r (tO n,fR n,1))]
theorem zd{Ψ:PEv}(x:Ψ.sp "add_way"=AG):aE Ψ sI LI nO zL:=by rintro _ Q _ ⟨r,n,rfl,h,q⟩;refine oK [oW (gB r),bD (.str n)] ?_;delta sI;simp![↓gH (md:=[]) x rfl rfl];refine#[(),(),?_];exact#[_,(tO n,fR n,1),rfl,#[RA,h],#[_,rfl,q]]
def V4(es:TC)(st:LS)(g:Str)(r:Rm)(o4 o5 o6:Option Sl):vA:=[bD (.list (es.map pr)),bD (.tuple (st.map j0)),bD (.str g),oW (gB r),o4,o5,o6]
section
variable{Ψ:PEv}{Z:PEnds}{es:TC}{st:LS}{g:Str}{r:Rm}
theorem Gw(h:Ψ.va "BEGIN"=jr (pr UA)){q:PT}{o3 o4 o5 o6:Option Sl}(k:pF Ψ q Z (V4 es st g aH o4 o5 o6)) :
  pF Ψ (.seq (.own 3 (.dsp (.glo "BEGIN") (.dnew kf))) q) Z [bD (.list (es.map pr)),bD (.tuple (st.map j0)),bD (.str g),o3,o4,o5,o6]:=by
 simp![↓MH h];exact#[jC UA,k]
theorem Fw(b:Ψ.sp "add_name"=LI)(a:Ψ.sp "add_way"=AG)(v:Ψ.va "BEGIN"=jr (pr UA))(u:Ψ.va "WIDE"=jr (.int 2)){n:Str}{o5 o6:Option Sl}(h:Sz r 4900)(k:Z.nx (V4 es st g ((ZS g n).foldl XB r) (bD (.str n)) o5 o6)) :
  pF Ψ eF Z (V4 es st g r (bD (.str n)) o5 o6):=by
 delta V4 at k ⊢;delta eF;simp![↓MH v,↓MH u,↓gH (md:=[]) b rfl rfl,↓gH (md:=[]) a rfl rfl];by_cases e:n=g;rw[dT e];unfold ZS at k;rw[Qc e]at k;exact k;rw[dF e];unfold ZS at k;rw[QB e]at k;have z:Sz r 5000:=#[QU h.1 (),λp=>QU (h.2 p) ()]
 have x:=YI (w:=(tO n,fR n,1)) RA h;have y:Sz (XB r (tO n,fR n,1)) 5000:=#[QU x.1 (),λp=>QU (x.2 p) ()]
 refine#[_,_,rfl,z,#[_,rfl,?_]];refine#[(),?_];exact#[_,(UA,tO n,2),rfl,#[EB,y],#[_,rfl,k]]
theorem Dw(j:Ψ.sp "add_name"=LI)(i:Ψ.sp "add_way"=AG)(f:Ψ.va "WIDE"=jr (.int 2)){a b:Str}{o4:Option Sl}(y:Sz r 4900)(k:Z.nx (V4 es st g ((JV g (a,b)).foldl XB r) o4 (bD (.str a)) (bD (.str b)))) :
  pF Ψ aF Z (V4 es st g r o4 (bD (.str a)) (bD (.str b))):=by
 delta V4 at k ⊢;delta aF;simp![↓MH f,↓gH (md:=[]) j rfl rfl,↓gH (md:=[]) i rfl rfl];unfold JV at k;by_cases e:a=g;rw[dT e];rw[Qc (.inl e)]at k;exact k;rw[dF e];by_cases h:a=b;rw[dT h];rw[Qc (.inr h)]at k;exact k;rw[dF h];rw[QB (λz=>z.elim e h)]at k;have v:Sz r 5000:=#[QU y.1 (),λp=>QU (y.2 p) ()]
 have x:=YI (w:=(tO a,fR a,1)) RA y;have u:=YI (w:=(tO b,fR b,1)) RA x;refine#[_,_,rfl,v,#[_,rfl,?_]];refine#[_,_,rfl,#[QU x.1 (),λp=>QU (x.2 p) ()],#[_,rfl,?_]];refine#[(),(),?_];exact#[_,(fR a,tO b,2),rfl,#[RA.symm,#[QU u.1 (),λp=>QU (u.2 p) ()]],#[_,rfl,k]]
end
section
variable{Ψ:PEv}{r:Rm}{p q:Pt}{l:Inn}{n m:Bool}{R:T->Prop}{W:LT->Prop}{E:XE}{ρ:vA}{b:PX}{M:List (T×Bool)->vA->Prop}{md:List Md}{ks:List Pt}{vs:List D}
def BI:PSp where
 run:=λx Q _=>∃(h:TC) (st:LS) (g:Str),x=[.d (.list (h.map pr)),.d (.tuple (st.map j0)),.d (.str g)]/\(h.9<=126/\st.9<=11)/\Q (gB (yA h st g)) []
theorem D1(o:Ψ.sp "add_name"=LI)(j:Ψ.sp "add_way"=AG)(i:Ψ.va "BEGIN"=jr (pr UA))(f:Ψ.va "WIDE"=jr (.int 2)):aE Ψ AN BI bO PK:=by rintro _ Q _ ⟨h,st,g,rfl,⟨Y,X⟩,q⟩;refine uA [bD (.list (h.map pr)),bD (.tuple (st.map j0)),bD (.str g),kv,kv,kv,kv] ?_;refine Gw i ?_;delta V4;simp![↓zA];rw[<- pA];refine HA (λ(s:Str)=>T.d (.str s)) (λl ρ=>∃r x,RmOk r (1+4 * (11 - l.9))/\l.9<=11/\(l.flatMap (ZS g)).foldl XB r=(st.flatMap (ZS g)).foldl XB aH/\ρ=V4 h st g r x kv kv) ?_ ?_ _ _ #[aH,_,?_,X,rfl,rfl];rintro ρ ⟨r,x,ok,_,e,rfl⟩;have e:r=(st.flatMap (ZS g)).foldl XB aH:=e;delta V4;simp![↓zA];rw[<- pA];refine HA (λ(p:Str×Str)=>T.d (pr p)) (λl ρ=>∃r v u,Sz r (45+6 * (126 - l.9))/\l.9<=126/\(l.flatMap (JV g)).foldl XB r=yA h st g/\ρ=V4 h st g r (mG x) v u) ?_ ?_ _ _ #[r,_,_,?_,Y,by rw[e];rfl,rfl];rintro ρ ⟨r,v,u,_,_,e,rfl⟩;have e:r=yA h st g:=e;subst e;delta V4;simp![↓zA];exact q;rintro⟨a,b⟩ l ρ N k ⟨r,v,u,s,w,e,rfl⟩;rw[QN]at s w;rw[QA5,QA6]at e;refine xF.mk rfl ?_;refine Dw (a:=a) (b:=b) o j f #[QU s.1 (),λp=>QU (s.2 p) ()] (k _ #[_,_,_,?_,(),e,rfl]);have z:Sz ((JV g (a,b)).foldl XB r) (45+6 * (126 - (l.9+1))+2 * (JV g (a,b)).9):=D5 yM s;have y:=xY (g:=g) (e:=(a,b));exact#[QU z.1 (),λp=>QU (z.2 p) ()];exact#[QU ok.sz.1 (by rw[wq];omega),λp=>QU (ok.sz.2 p) (by rw[wq];omega)];rintro s l ρ N k ⟨r,x,ok,w,e,rfl⟩;rw[QN]at ok w;rw[QA5,QA6]at e;refine Fw (n:=s) o j i f #[QU ok.sz.1 (),λp=>QU (ok.sz.2 p) ()] (k _ #[_,_,?_,(),e,rfl]);have z:=ok.add (ws:=ZS g s) jM;have y:=vY (g:=g) (n:=s);exact#[z.pos,z.dom,z.bg,QU z.sz.1 (),λp=>QU (z.sz.2 p) ()];exact#[UE.pos,UE.dom,UE.bg,QU UE.sz.1 (),λp=>QU (UE.sz.2 p) ()]
def zX(l:Inn):D:=.dict (l.map λe=>(pr e.1,.int e.2))
def um(r:Rm):List (D×D):=r.map λe=>(pr e.1,zX e.2)
theorem J3(h:look r p=jr l):UD (um r)=jr true:=by
 cases r with|nil=>cases h|cons e r=>rfl
theorem J8(l:Inn):(l.map λe=>(pr e.1,j1 e.2))=[]∨UD (l.map λe=>(pr e.1,j1 e.2))=jr true:=by
 cases l with|nil=>exact .inl rfl|cons e r=>exact .inr rfl
theorem Oi(h:Key r p)(k:R (.d (zX (lk r p)))):CA (.d (.dict (um r))) n (.d (pr p)) m R:=by
 have e:=FE h;let#[i,u,y,_]:=KC (λl=>T.d (zX l)) e;have w:(um r).map (·.1)=NC r:=by unfold um NC;rw[Qa];rfl
 refine Kp (J3 e) (jC p) (by rw[w];exact u) ?_ k;have v:(um r).map (·.2)=r.map λe=>zX e.2:=by unfold um;rw[Qa];rfl
 rw[v];rw[Qd]at y ⊢;cases z:r[i]? with|none=>rw[z]at y;cases y|some x=>rw[z]at y;injection y with y;injection y with y;show jr (zX x.2)=_;rw[y]
theorem Rp:eI .itm [(.d (zX l),n)] W=W (l.map λe=>.d (.tuple [pr e.1,.int e.2])):=by unfold zX;rw[Pp (J8 l),Qa];rfl
theorem tI{K:TK}:Ba (gB r) kd Ψ b E ρ K=zB Ψ b E (lockA ρ) λy m _=>K y m ρ:=rfl
theorem LZ{K:TK}:Ba (CD l) kd Ψ b E ρ K=zB Ψ b E (lockA ρ) λy m _=>K y m ρ:=rfl
theorem eS:Ca (gB r) kd Ψ b E md ρ M=RM Ψ b E md (lockA ρ) λxs _=>M xs ρ:=rfl
theorem ma:Ca (CD l) kd Ψ b E md ρ M=RM Ψ b E md (lockA ρ) λxs _=>M xs ρ:=rfl
def Xo(t:T)(r:Rm):Prop:=t=gB r∨t=.d (.dict (um r))
theorem Vp{b:Bool}{ks:List D}{ts:LT}{n m:Bool}{k:D}{l:Nat}{t:T}(z:TD b k)(y:dA ks k=jr l)(x:ts[l]?=jr t)(h:R t):CA (.dct b ks ts) kd (.d k) m R:=.inr #[b,ks,ts,l,t,rfl,z,y,x,h]
theorem jF(h:Key r p)(k:R (CD (lk r p))):CA (gB r) kd (.d (pr p)) m R:=by let#[i,y,x,_]:=KC CD (FE h);exact Vp (n:=kd) (jC p) y x k
theorem pQ{v:Int}(h:look l p=jr v)(k:R (.d (.int v))):CA (CD l) kd (.d (pr p)) m R:=by let#[i,y,x,_]:=KC (λv:Int=>T.d (.int v)) h;exact Vp (n:=kd) (jC p) y x k
theorem cY(l:Inn):SD (l.map λe=>T.d (.int e.2))=jr (l.map λe=>.int e.2):=by rw[show(l.map λe=>T.d (.int e.2))=(l.map λe=>j1 e.2).map T.d by rw[Qa];rfl,gA]
theorem Si:eI .itm [(CD l,kd)] W=W (l.map λe=>.d (.tuple [pr e.1,.int e.2])):=by
 refine(mU _ _).trans ?_;have e:((NC l).zip (l.map λe=>j1 e.2)).map (λp=>T.d (.tuple [p.1,p.2]))=l.map λe=>T.d (.tuple [pr e.1,.int e.2]):=by unfold NC;rw[List.zip_map',Qa];rfl
 refine qs #[λ#[x,h,k]=>?_,λk=>#[_,cY l,by rw[e];exact k]];rw[cY]at h;cases h;rw[e]at k;exact k
theorem Aa{a:PX}:EF (.idx a b)=EF a:=rfl
theorem ao:rS [(CD l,kd)]=false:=rfl
noncomputable def He(ks:List Pt)(vs:List D):T:=.dct kf (ks.map pr) (vs.map T.d)
theorem PQ:pr q∈ks.map pr↔q∈ks:=by constructor;intro h;let#[x,y,e]:=QW.mp h;rw[<- RQ e];exact y;exact QB5
theorem rJ(ks:List Pt)(q:Pt):(dA (ks.map pr) (pr q)).isSome=decide (q∈ks):=by rw[Q2,hX,PQ,q7]
theorem kj{x:D}{Q:T->Prop}(n:q∉ks)(hl:ks.9<kb)(k:Q (He (ks++[q]) (vs++[x]))):Uf (He ks vs) (.d (pr q)) (.d x) Q:=by refine#[jC q,by rw[QF];exact hl,?_];show Q (yK kf (ks.map pr) (vs.map T.d) (pr q) (.d x));unfold yK;rw[vB.mpr (λz=>n (PQ.mp z))];unfold He at k;rw[QR,QR]at k;exact k
theorem Fn{L:Bool->Prop}:UB .NotIn (.d (pr q)) (He ks vs) L=L (!decide (q∈ks)):=by unfold He;rw[RN,rJ];exact qs #[λh=>h.2,λh=>#[jC q,h]]
def rP(h:T)(ks:List Pt)(vs:List D)(ws:List Pt)(o3 o4 o5:Option Sl):vA:=[jr (.bor h),jr (.own (He ks vs)),jr (.own (.lst ((ws.map pr).map T.d))),o3,o4,o5]
end
section
variable{Ψ:PEv}{Z:PEnds}{x:T}{r:Rm}{ks ws:List Pt}{vs:List D}
section
variable{w:Pt}{o3 o4 o5:Option Sl}
theorem Sw{p q:Pt}{v:Int}(hl:ks.9<kb)(a:ws.length<kb)(u:(0<v->q∈ks)->Z.nx (rP x ks vs ws (bD (pr p)) (bD (pr q)) (bD (.int v))))
  (k:0<v->q∉ks->Z.nx (rP x (ks++[q]) (vs++[pr p]) (ws++[q]) (bD (pr p)) (bD (pr q)) (bD (.int v)))) :
  pF Ψ uB Z (rP x ks vs ws (bD (pr p)) (bD (pr q)) (bD (.int v))):=by
 delta rP at u k ⊢;delta uB;simp![↓Fn];by_cases h:0<v;rw[dT h];by_cases y:q∈ks;rw[dT y];exact u λ_=>y;rw[dF y];simp only[WQ,↓reduceIte];refine kj y hl ?_;refine#[by rw[QF,QF];exact a,?_];have:=k h y;rw[QR,QR]at this;exact this;rw[dF h];exact u λz=>Qe z h
theorem Nj{q:PT}(k:pF Ψ q Z (rP x ks vs ws (bD (pr w)) o4 o5)) :
  pF Ψ (.seq (.set 3 (.mt .pop (.var 2) %[.int 0|1])) q) Z (rP x ks vs (w::ws) o3 o4 o5):=by
 delta rP at k ⊢;simp![↓zA];refine#[0,.d (pr w),?_,rfl,rfl,k];unfold XS;rw[Qc (by decide),Qc (by rw[QF,QF,QN];omega)];rfl
theorem Oj(y:Xo x r)(hk:Key r w)
  (k:uI (pF Ψ uB) (.tp [4,5]) { Z with nx:=λh=>Z.nx (kill [4,5] h) } ((lk r w).map λe=>T.d (.tuple [pr e.1,.int e.2])) (rP x ks vs ws (bD (pr w)) o4 o5)) :
  pF Ψ %[.for_ (.tp [4,5]) .itm %[.idx (.var 0) (.var 3)|1] uB|2] Z (rP x ks vs ws (bD (pr w)) o4 o5):=by
 rcases y with rfl|rfl;delta rP at k ⊢;simp![↓tI];refine jF hk ?_;simp![↓ma,↓Si,ao,Aa];exact k;delta rP at k ⊢;simp![↓zA];refine Oi hk ?_;simp![↓Rp];exact k
theorem Pw(m:Xo x r)(a:Ha r)(hb:Key r UA)(W:r.9<=1000)(h:Srch r ks vs (w::ws))(K:2 * (r.9 - ks.9)+ws.length+1<=3000)
  (o:∀z u y o3 o4 o5,Srch r z u y->2 * (r.9 - z.9)+y.9<=2 * (r.9 - ks.9)+ws.length->Z.nx (rP x z u y o3 o4 o5)) :
  pF Ψ GD Z (rP x ks vs (w::ws) o3 o4 o5):=by
 have A:kb=16777216:=qB;refine Nj ?_;have X:=h.pop;have hk:Key r w:=RI a hb (h.cf.rch w (h.sub w QD));refine Oj m hk ?_;refine HA (λ(e:Pt×Int)=>T.d (.tuple [pr e.1,.int e.2])) (λl k=>∃z u y o4 o5,Srch1 r w z u y l/\2 * (r.9 - z.9)+y.9<=2 * (r.9 - ks.9)+ws.length/\k=rP x z u y (bD (pr w)) o4 o5) ?_ ?_ _ _ #[ks,vs,ws,_,_,X,QV _,rfl];rintro k ⟨z,u,y,g,f,s,l,rfl⟩;exact o z u y _ (mG g) (mG f) s.fin l;rintro⟨q,v⟩ l k N i ⟨z,u,y,g,f,s,e,rfl⟩;refine xF.mk rfl ?_;have Y:=s.cf.le a hb;refine Sw (p:=w) (q:=q) (v:=v) () () (λc=>i _ #[z,u,y,_,_,s.skip c,e,rfl]) λc n=>?_;have b:=s.add c n;have j:=b.cf.le a hb;rw[QI,qO]at j;exact i _ #[_,_,_,_,_,b,by rw[QI,QI,qO];omega,rfl]
theorem Tw(h:Ψ.va "BEGIN"=jr (pr UA)){q:PT}(k:pF Ψ q Z (rP x [UA] [.none] [UA] kv kv kv)) :
  pF Ψ (.seq (.own 1 (.dsp (.glo "BEGIN") .non)) (.seq (.own 2 (.lst %[.glo "BEGIN"|1])) q)) Z [jr (.bor x),kv,kv,kv,kv,kv]:=by
 have y:kb=16777216:=qB;simp![↓MH h];exact#[jC UA,(),k]
end
end
theorem iI{Ψ:PEv}{E:XE}{c:PX}{q:PT}{Z:PEnds}{ρ:vA}(W:Nat->vA->Prop)(m:Nat)(u:W m ρ)(z:∀m ρ,W m ρ->pO Ψ c E ρ λb x=>if b=kf then pB Ψ E q { Z with nx:=λh=>∃y,y < m/\W y h,ct:=λh=>∃y,y < m/\W y h,bk:=Z.nx } x else Z.nx x):Bp Ψ E c q Z ρ:=#[W,#[m,u],z]
def zG:PSp where
 md:=[.bor]
 run:=λz Q _=>∃(y:T) (r:Rm),z=[y]/\(Xo y r/\Ha r/\Key r UA/\r.9<=1000)/\∀h x,CF r h x->(∀p,p∈h↔Rch r p)->Q (He h x) []
theorem e7{Ψ:PEv}(j:Ψ.va "BEGIN"=jr (pr UA)):aE Ψ RE zG EE jE:=by
 rintro _ Q _ ⟨k,r,rfl,⟨l,i,hb,g⟩,q⟩;refine uA [jr (.bor k),kv,kv,kv,kv,kv] ?_;refine Tw j ?_;delta rP;simp![↓zA];refine iI (λm v=>m<=3000/\∃h x ws o3 o4 o5,Srch r h x ws/\m=2 * (r.9 - h.9)+ws.length/\v=rP k h x ws o3 o4 o5) (2 * (r.9 - 1)+1) #[(),[UA],[.none],[UA],kv,kv,kv,lq,rfl,rfl] ?_;rintro m v ⟨o,h,x,ws,o3,o4,o5,s,e,rfl⟩;cases ws with|nil=>delta rP;simp![QF];rw[dF ()];simp![↓zA];exact q h x s.cf s.done|cons w ws=>rw[QN]at e;have a:=λ(Z:PEnds) f=>Pw (Ψ:=Ψ) (Z:=Z) (o3:=o3) (o4:=o4) (o5:=o5) l i hb g s () f;unfold rP at a;delta rP;simp![QF];rw[dT ()];refine a _ λu z y o3 o4 o5 b n=>#[_,(),(),u,z,y,o3,o4,o5,b,rfl,rfl]
theorem vo{α:Type}{x:α}{r:List α}:AC (x::r) 0=jr x:=lD (j:=0) rfl
theorem my{α:Type}{x y:α}{r:List α}:AC (x::y::r) 1=jr y:=lD (j:=1) rfl
def sm:List Pt->(Pt->Int)->Int
 |[],_=>0|x::l,f=>f x+sm l f
section
variable{f g:Pt->Int}
theorem kB:∀{l:List Pt},(∀x∈l,f x=g x)->sm l f=sm l g
 |[],_=>rfl|x::l,h=>by show f x+sm l f=g x+sm l g;rw[h x QD,kB λy z=>h y (QE _ z)]
theorem TH:∀(l:List Pt),sm l (λx=>f x+g x)=sm l f+sm l g
 |[]=>rfl|x::l=>by show f x+g x+sm l _=f x+sm l f+(g x+sm l g);rw[TH l];omega
theorem TJ:∀(l:List Pt),sm l (λx=>- f x)=- sm l f
 |[]=>rfl|x::l=>by show - f x+sm l _=- (f x+sm l f);rw[TJ l];omega
theorem EG:∀(l:List Pt),sm l (λ_=>0)=0
 |[]=>rfl|x::l=>by show 0+sm l _=0;rw[EG l];rfl
theorem fP:∀{l:List Pt},(∀x∈l,0<=f x)->0<=sm l f
 |[],_=>Wa _|x::l,h=>by have v:=h x QD;have u:=fP (l:=l) λy z=>h y (QE _ z);show 0<=f x+sm l f;omega
theorem SH:∀{l:List Pt},(∀x∈l,0<=f x)->∀{y:Pt},y∈l->f y<=sm l f
 |x::l,h,y,z=>by have w:=h x QD;have u:∀y∈l,0<=f y:=λy z=>h y (QE _ z);show f y<=f x+sm l f;rcases QL.mp z with e|e;have v:=fP u;rw[e];omega;have v:=SH u e;omega
theorem O5:∀{l:List Pt},(∀x∈l,0<=f x)->∀{y z:Pt},y∈l->z∈l->y≠z->f y+f z<=sm l f
 |x::l,h,y,z,v,hz,ne=>by
  have a:=h x QD;have w:∀y∈l,0<=f y:=λy v=>h y (QE _ v);show f y+f z<=f x+sm l f;rcases QL.mp v with e|e;rcases QL.mp hz with u|u
  ·exact Qe (e.trans u.symm) ne
  have k:=SH w u;rw[e];omega;rcases QL.mp hz with u|u
  ·have k:=SH w e
   rw[u];omega
  have k:=O5 w e u ne;omega
theorem P5:∀{l:List Pt},0<sm l f->∃x∈l,0<f x
 |[],h=>Qe h (WD 0)|x::l,h=>by by_cases c:0<f x;exact#[x,QD,c];have h:0<f x+sm l f:=h;let#[y,z,p]:=P5 (l:=l) ();exact#[y,QE _ z,p]
theorem pY{k:Pt->Pt->Int}{m:List Pt}:∀(l:List Pt),sm l (λx=>sm m λy=>k x y)=sm m λy=>sm l λx=>k x y
 |[]=>(EG m).symm|x::l=>by show sm m (λy=>k x y)+sm l _=sm m λy=>k x y+sm l λx=>k x y;rw[pY l,TH]
theorem BQ{u:Pt}{k:Int}:∀{l:List Pt},u∉l->sm l (λx=>if x=u then k else 0)=0
 |[],_=>rfl|x::l,h=>by show(if x=u then k else 0)+sm l _=0;rw[QB (λ(e:x=u)=>h (e▸QD)),BQ λz=>h (QE _ z)];rfl
theorem AJ{u:Pt}{k:Int}:∀{l:List Pt},l.Nodup->u∈l->sm l (λx=>if x=u then k else 0)=k
 |x::l,nd,h=>by let#[v,y]:=Ql.mp nd;show(if x=u then k else 0)+sm l _=k;by_cases e:x=u;rw[Qc e,BQ (by rw[<- e];exact v)];omega;rw[QB e,AJ y ((QL.mp h).resolve_left λz=>e z.symm)];omega
theorem kT(p:Pt->Bool):∀(l:List Pt),sm l f=sm (l.filter p) f+sm (l.filter λx=>!p x) f
 |[]=>rfl|x::l=>by
  show f x+sm l f=_;rw[WX,WX,kT p l];cases p x with|true=>show _=(f x+sm (l.filter p) f)+sm (l.filter λx=>!p x) f;omega|false=>show _=sm (l.filter p) f+(f x+sm (l.filter λx=>!p x) f);omega
theorem Bb{a:Pt->Pt->Int}(l:List Pt)(h:∀x∈l,∀y∈l,a x y=- a y x):sm l (λx=>sm l λy=>a x y)=0:=by
 have w:sm l (λx=>sm l λy=>a x y)=sm l λy=>sm l λx=>a x y:=pY l;have v:(sm l λy=>sm l λx=>a x y)=- sm l (λy=>sm l λx=>a y x):=by rw[<- TJ];refine kB λy z=>?_;rw[<- TJ];exact kB λx u=>h x u y z
 omega
end
section
variable{p q u v:Pt}{r:Rm}{w:Wy}{es:TC}{st:LS}{g:Str}
def rm(r:Rm)(p q:Pt):Int:=(look (lk r p) q).getD 0
def aI(r:Rm)(p q:Pt):Prop:=∃v,look (lk r p) q=jr v
def xf(r:Rm):Prop:=∀p,((lk r p).map (·.1)).Nodup
theorem uH{α:Type}{q:Pt}{v:α}:∀{l:List (Pt×α)},look l q=jr v->(q,v)∈l
 |[],h=>by cases h|e::l,h=>by by_cases c:e.1=q;rw[show look (e::l) q=jr e.2 from Qc c]at h;injection h with h;rw[<- c,<- h];exact QD;rw[show look (e::l) q=look l q from QB c]at h;exact QE _ (uH h)
theorem GR{α:Type}{q:Pt}{v:α}:∀{l:List (Pt×α)},(l.map (·.1)).Nodup->(q,v)∈l->look l q=jr v
 |e::l,nd,h=>by let#[k,y]:=Ql.mp nd;rcases QL.mp h with c|c;rw[<- c];exact Qc rfl;have x:e.1≠q:=λz=>k (QW.mpr #[(q,v),c,z.symm]);rw[show look (e::l) q=look l q from QB x];exact GR y c
theorem put_keys{α:Type}{p:Pt}{w:α}:∀{l:List (Pt×α)},(put l p w).map (·.1)=if p∈l.map (·.1) then l.map (·.1) else l.map (·.1)++[p]
 |[]=>rfl|e::l=>by by_cases c:e.1=p;rw[show put (e::l) p w=(e.1,w)::l from Qc c,Qc (by rw[<- c];exact QD)];rfl;rw[show put (e::l) p w=e::put l p w from QB c];rw[QX,QX,put_keys];by_cases h:p∈l.map (·.1);rw[Qc h,Qc (QE _ h)];rw[QB h,QB (λz=>(QL.mp z).elim (λz=>c z.symm) h)];rfl
theorem jH{α:Type}{w:α}{l:List (Pt×α)}(h:(l.map (·.1)).Nodup):((put l p w).map (·.1)).Nodup:=by rw[put_keys];split;exact h;rename_i n;refine qW.mpr #[h,Ql.mpr #[λz=>(nomatch z),Q7],λa x b hb z=>?_];rw[QJ.mp hb]at z;exact n (z▸x)
theorem BV(nd:xf r):lh r p q↔0<rm r p q:=by
 unfold lh rm;constructor;rintro⟨v,m,h⟩;rw[GR (nd p) m];exact h;intro h;cases e:look (lk r p) q with|none=>rw[e]at h;exact Qe h (WD 0)|some v=>rw[e]at h;exact#[v,uH e,h]
def T0(r:Rm)(u v:Pt):Rm:=put (put r u (put (lk r u) v (rm r u v - 1))) v (put (lk (put r u (put (lk r u) v (rm r u v - 1))) v) u (rm (put r u (put (lk r u) v (rm r u v - 1))) v u+1))
theorem SW(h:u≠v)(p:Pt):lk (T0 r u v) p=if v=p then put (lk r v) u (rm r v u+1) else if u=p then put (lk r u) v (rm r u v - 1) else lk r p:=by
 have e:rm (put r u (put (lk r u) v (rm r u v - 1))) v u=rm r v u:=by unfold rm;rw[gE,QB h]
 unfold T0;rw[e,gE,gE,gE,QB h]
theorem uW(h:u≠v)(p q:Pt):rm (T0 r u v) p q=rm r p q+(if p=v/\q=u then 1 else 0) - (if p=u/\q=v then 1 else 0):=by show(look (lk (T0 r u v) p) q).getD 0=_;rw[SW h];by_cases y:v=p;rw[Qc y,VD,QB (c:=p=u/\q=v) (λz=>h (z.1.symm.trans y.symm))];by_cases x:u=q;rw[Qc x,Qc #[y.symm,x.symm],<- y,<- x];show rm r v u+1=rm r v u+1 - 0;omega;rw[QB x,QB (λz=>x z.2.symm),y];show rm r p q=rm r p q+0 - 0;omega;rw[QB y,QB (c:=p=v/\q=u) (λz=>y z.1.symm)];by_cases x:u=p;rw[Qc x,VD];by_cases k:v=q;rw[Qc k,Qc #[x.symm,k.symm],<- x,<- k];show rm r u v - 1=rm r u v+0 - 1;omega;rw[QB k,QB (λz=>k z.2.symm),x];show rm r p q=rm r p q+0 - 0;omega;rw[QB x,QB (λz=>x z.1.symm)];show rm r p q=rm r p q+0 - 0;omega
theorem tB:aI r p q↔G4 r p q:=by
 unfold aI G4;constructor;rintro⟨v,h⟩;exact#[v,uH h];rintro⟨v,h⟩;generalize lk r p=l at h;induction l with
 |nil=>exact(nomatch h)
 |cons e l x =>
  by_cases c:e.1=q;exact#[e.2,Qc c];rcases QL.mp h with z|z
  ·exact Qe (by rw[<- z]) c
  let#[w,y]:=x z;exact#[w,(show look (e::l) q=look l q from QB c).trans y]
theorem jf(h:u≠v)(a:aI r u v)(k:aI r v u):aI (T0 r u v) p q↔aI r p q:=by unfold aI;rw[SW h];by_cases y:v=p;rw[Qc y,VD];by_cases x:u=q;rw[Qc x,<- y,<- x];exact#[λ_=>k,λ_=>#[_,rfl]];rw[QB x,y];rw[QB y];by_cases x:u=p;rw[Qc x,VD];by_cases z:v=q;rw[Qc z,<- x,<- z];exact#[λ_=>a,λ_=>#[_,rfl]];rw[QB z,x];rw[QB x]
theorem Zd(h:u≠v)(nd:xf r):xf (T0 r u v):=by
 intro p;rw[SW h];split;exact jH (nd v);split
 ·exact jH (nd u)
 exact nd p
theorem HQ(h:¬ aI r p q):rm r p q=0:=by
 unfold rm;cases e:look (lk r p) q with|none=>rfl|some v=>exact Qe #[v,e] h
def Pu(p q:Pt)(v:Int):Prop:=(∃n,p=tO n/\q=fR n/\v=1)∨(∃n,p=UA/\q=tO n/\v=2)∨(∃a b,a≠b/\p=fR a/\q=tO b/\v=2)∨(¬ D4 p q/\v=0)
def Do(P:Pt->Pt->Int->Prop)(r:Rm):Prop:=∀p,∀e∈lk r p,P p e.1 e.2
theorem E3{P:Pt->Pt->Int->Prop}(a:w.1≠w.2.1)(f:P w.1 w.2.1 w.2.2)(b:P w.2.1 w.1 0)(h:Do P r):Do P (XB r w):=by intro p e x;rw[fJ a]at x;by_cases k:w.2.1=p;rw[Qc k]at x;rcases AI x with z|z;rw[z,<- k];exact b;exact h p e z;rw[QB k]at x;by_cases y:w.1=p;rw[Qc y]at x;rcases AI x with z|z;rw[z,<- y];exact f;exact h p e z;rw[QB y]at x;exact h p e x
theorem gT(h:(r.map (·.1)).Nodup):((sdf r p).map (·.1)).Nodup:=by
 unfold sdf;cases e:look r p with|some v=>exact h|none=>show(List.map (λe:Pt×Inn=>e.1) (r++[(p,[])])).Nodup;rw[QR];refine qW.mpr #[h,Ql.mpr #[λz=>(nomatch z),Q7],λa y b hb z=>?_];have hb:b=p:=QJ.mp hb;rw[z,hb]at y;let#[x,k,f]:=QW.mp y;have:=GR h (show(p,x.2)∈r by rw[<- f];exact k);rw[e]at this;cases this
theorem O7(x:w.1≠w.2.1)(h:xf r):xf (XB r w):=by
 intro p;rw[fJ x];split;exact jH (h p);split
 ·exact jH (h p)
 exact h p
theorem bB:Key r p↔p∈r.map (·.1):=by
 constructor;rintro⟨l,e⟩;exact XR e;intro h;induction r with
 |nil=>exact(nomatch h)
 |cons e r x =>
  by_cases c:e.1=p;exact#[e.2,Qc c];rcases QL.mp h with z|z
  ·exact Qe z.symm c
  let#[l,hl]:=x z;exact#[l,(show look (e::r) p=look r p from QB c).trans hl]
structure Tbl0(r:Rm):Prop where
 ndk:(r.map (·.1)).Nodup
 ndi:xf r
 cap:Do Pu r
 kind:∀p,Key r p->p=UA∨∃n,p=tO n∨p=fR n
 sym:∀p q,G4 r p q->G4 r q p/\Key r p
theorem cU(h:D4 p q):(p=UA∨∃n,p=tO n∨p=fR n)/\(q=UA∨∃n,q=tO n∨q=fR n):=by
 rcases h with⟨h,n,e⟩| ⟨n,h,e⟩| ⟨a,b,_,h,e⟩
 exact#[.inl h,.inr #[n,.inl e]];exact#[.inr #[n,.inl h],.inr #[n,.inr e]];exact#[.inr #[a,.inr h],.inr #[b,.inl e]]
theorem cb(k:D4 w.1 w.2.1)(f:Pu w.1 w.2.1 w.2.2)(t:Tbl0 r):Tbl0 (XB r w):=by
 have y:=hG k;refine#[?_,O7 y t.ndi,E3 y f (.inr (.inr (.inr #[lF k,rfl]))) t.cap,λp h=>?_,λp q h=>?_];unfold XB;exact jH (jH (gT (gT t.ndk)));rcases nG.mp h with z|z|z
 ·rw[z];exact(cU k).1
 rw[z];exact(cU k).2;exact t.kind p z;rw[sJ y,nG];rcases(sJ y).mp h with z|⟨x,a⟩| ⟨x,a⟩
 let#[e,b]:=t.sym p q z;exact#[.inl e,.inr (.inr b)];exact#[.inr (.inr #[a,x]),.inl x];exact#[.inr (.inl #[a,x]),.inr (.inl x)]
theorem lY:∀{ws:List Wy}{r:Rm},(∀w∈ws,D4 w.1 w.2.1/\Pu w.1 w.2.1 w.2.2)->Tbl0 r->Tbl0 (ws.foldl XB r)
 |[],_,_,t=>t|w::ws,r,h,t=>lY (ws:=ws) (λw x=>h w (QE _ x)) (cb (h w QD).1 (h w QD).2 t)
theorem LL{p:Pt}:∀{ws:List Wy}{r:Rm},Key (ws.foldl XB r) p↔Key r p∨∃w∈ws,p=w.1∨p=w.2.1
 |[],r=>#[.inl,λz=>z.elim id λ#[_,m,_]=>(nomatch m)]
 |w::ws,r=>by
  rw[QAa,LL (ws:=ws),nG];constructor;rintro((z|z|z)|⟨x,m,z⟩)
  ·exact .inr #[w,QD,.inl z]
  exact .inr #[w,QD,.inr z];exact .inl z;exact .inr #[x,QE _ m,z];rintro(z|⟨x,m,z⟩)
  ·exact .inl (.inr (.inr z))
  rcases QL.mp m with rfl|m
  ·rcases z with z|z
   ·exact .inl (.inl z)
   exact .inl (.inr (.inl z))
  exact .inr #[x,m,z]
def Z4(es:TC)(st:LS)(g:Str):List Wy:=st.flatMap (ZS g)++es.flatMap (JV g)
theorem iE:yA es st g=(Z4 es st g).foldl XB aH:=by unfold yA Z4;rw[QA6]
theorem lE{v:Int}:(p,q,v)∈Z4 es st g↔(∃n∈st,n≠g/\((p,q,v)=(tO n,fR n,1)∨(p,q,v)=(UA,tO n,2)))∨(∃e∈es,(e.1≠g/\e.1≠e.2)/\((p,q,v)=(tO e.1,fR e.1,1)∨(p,q,v)=(tO e.2,fR e.2,1)∨(p,q,v)=(fR e.1,tO e.2,2))):=by
 unfold Z4;rw[Qf,QAJ,QAJ];constructor;rintro(⟨n,m,h⟩| ⟨e,m,h⟩)
 ·exact .inl #[n,m,Ps.mp h]
 exact .inr #[e,m,Rs.mp h];rintro(⟨n,m,h⟩| ⟨e,m,h⟩)
 ·exact .inl #[n,m,Ps.mpr h]
 exact .inr #[e,m,Rs.mpr h]
theorem kC:∀w∈Z4 es st g,D4 w.1 w.2.1/\Pu w.1 w.2.1 w.2.2:=by
 rintro⟨p,q,v⟩ h;rcases lE.mp h with⟨n,_,_,e|e⟩| ⟨e,_,⟨_,x⟩,z|z|z⟩
 cases e;exact#[.inr (.inl #[n,rfl,rfl]),.inl #[n,rfl,rfl,rfl]];cases e;exact#[.inl #[rfl,n,rfl],.inr (.inl #[n,rfl,rfl,rfl])];cases z;exact#[.inr (.inl #[_,rfl,rfl]),.inl #[_,rfl,rfl,rfl]];cases z;exact#[.inr (.inl #[_,rfl,rfl]),.inl #[_,rfl,rfl,rfl]];cases z;exact#[.inr (.inr #[_,_,x,rfl,rfl]),.inr (.inr (.inl #[_,_,x,rfl,rfl,rfl]))]
theorem dJ(p:Pt):lk aH p=[]:=by show(if UA=p then jr [] else kv).getD []=[];split<;>rfl
theorem Ep:Tbl0 aH:=by refine#[Ql.mpr #[λz=>(nomatch z),Q7],λp=>?_,λp e x=>?_,λp h=>?_,λp q h=>?_];rw[dJ];exact Q7;rw[dJ]at x;exact(nomatch x);exact .inl (QJ.mp (bB.mp h));let#[v,h]:=h;rw[dJ]at h;exact(nomatch h)
end
section
variable{es:TC}{st:LS}{g:Str}
section
variable{p q:Pt}{n:Str}
theorem oD:Tbl0 (yA es st g):=by rw[iE];exact lY kC Ep
theorem S8:∀w∈Z4 es st g,MG w:=λw h=>by unfold Z4 at h;rcases Qf.mp h with z|z;exact dH (f:=ZS g) (λ_=>jM) st w z;exact dH (f:=JV g) (λ_=>yM) es w z
theorem gC:G4 (yA es st g) p q↔(∃v,(p,q,v)∈Z4 es st g)∨∃v,(q,p,v)∈Z4 es st g:=by
 rw[iE,aZ S8];constructor;rintro(⟨v,h⟩| h)
 ·rw[dJ]at h;exact(nomatch h)
 exact h;exact .inr
theorem eP(h:Key (yA es st g) (tO n)):G4 (yA es st g) (tO n) (fR n):=by
 rw[iE]at h;rcases LL.mp h with z|⟨⟨p,q,v⟩,m,z⟩
 exact Qe (QJ.mp (bB.mp z)).symm EB;refine gC.mpr (.inl #[1,lE.mpr ?_]);have z:tO n=p∨tO n=q:=z;rcases lE.mp m with⟨k,mk,x,e|e⟩| ⟨e,u,x,y|y|y⟩
 cases e;rcases z with z|z;rw[LB z];exact .inl #[k,mk,x,.inl rfl];exact Qe z RA;cases e;rcases z with z|z;exact Qe z.symm EB;rw[LB z];exact .inl #[k,mk,x,.inl rfl];cases y;rcases z with z|z;rw[LB z];exact .inr #[e,u,x,.inl rfl];exact Qe z RA;cases y;rcases z with z|z;rw[LB z];exact .inr #[e,u,x,.inr (.inl rfl)];exact Qe z RA;cases y;rcases z with z|z;exact Qe z RA;rw[LB z];exact .inr #[e,u,x,.inr (.inl rfl)]
theorem x4:Pu p q (rm (yA es st g) p q)∨(¬ aI (yA es st g) p q/\rm (yA es st g) p q=0):=by by_cases h:aI (yA es st g) p q;let#[v,e]:=h;have:=oD (es:=es) (st:=st) (g:=g) |>.cap p (q,v) (uH e);unfold rm;rw[e];exact .inl this;exact .inr #[h,HQ h]
theorem yy:0<=rm (yA es st g) p q:=by rcases x4 (es:=es) (st:=st) (g:=g) (p:=p) (q:=q) with(⟨_,_,_,e⟩| ⟨_,_,_,e⟩| ⟨_,_,_,_,_,e⟩| ⟨_,e⟩)|⟨_,e⟩<;>rw[e]<;>decide
theorem JJ(h:¬ D4 p q):rm (yA es st g) p q=0:=by
 rcases x4 (es:=es) (st:=st) (g:=g) (p:=p) (q:=q) with(⟨n,y,x,_⟩| ⟨n,y,x,_⟩| ⟨a,b,z,y,x,_⟩| ⟨_,e⟩)|⟨_,e⟩
 exact Qe (.inr (.inl #[n,y,x])) h;exact Qe (.inl #[y,n,x]) h;exact Qe (.inr (.inr #[a,b,z,y,x])) h;exact e;exact e
theorem Zn(h:q≠fR n):rm (yA es st g) (tO n) q=0:=JJ λl=>by
 rcases l with⟨e,_⟩| ⟨m,y,x⟩| ⟨a,b,_,e,_⟩
 exact EB e.symm;exact h (by rw[x,LB y]);exact RA e
theorem Bt:rm (yA es st g) (tO n) (fR n)<=1:=by
 rcases x4 (es:=es) (st:=st) (g:=g) (p:=tO n) (q:=fR n) with(⟨_,_,_,e⟩| ⟨m,h,_,_⟩| ⟨a,b,x,h,y,_⟩| ⟨_,e⟩)|⟨_,e⟩
 rw[e];decide;exact Qe h.symm EB;exact Qe h RA;rw[e];decide;rw[e];decide
theorem Vn(h:Key (yA es st g) (tO n)):rm (yA es st g) (tO n) (fR n)=1:=by
 have a:=tB.mpr (eP h);rcases x4 (es:=es) (st:=st) (g:=g) (p:=tO n) (q:=fR n) with(⟨_,_,_,e⟩| ⟨m,x,_,_⟩| ⟨a,b,y,x,u,_⟩| ⟨l,e⟩)|⟨z,e⟩
 exact e;exact Qe x.symm EB;exact Qe x RA;exact Qe (.inr (.inl #[n,rfl,rfl])) l;exact Qe a z
theorem zy(h:p≠tO n):rm (yA es st g) p (fR n)=0:=JJ λl=>by
 rcases l with⟨_,m,e⟩| ⟨m,y,x⟩| ⟨a,b,_,_,e⟩
 exact RA e.symm;exact h (by rw[y,xI x]);exact RA e.symm
theorem ky:rm (yA es st g) p UA=0:=JJ λl=>by
 rcases l with⟨_,m,e⟩| ⟨m,x,h⟩| ⟨a,b,_,_,e⟩
 exact EB e;exact OE h;exact EB e
theorem Ut(h:p≠fR n):rm (yA es st g) p (tO n)=0∨rm (yA es st g) p (tO n)=2:=by
 rcases x4 (es:=es) (st:=st) (g:=g) (p:=p) (q:=tO n) with(⟨_,_,e,_⟩| ⟨m,_,_,e⟩| ⟨a,b,_,_,_,e⟩| ⟨l,e⟩)|⟨_,e⟩
 exact Qe e RA;exact .inr e;exact .inr e;exact .inl e;exact .inl e
theorem Yn{v:Int}(h:(p,tO n,v)∈Z4 es st g):rm (yA es st g) p (tO n)=2:=by
 have a:aI (yA es st g) p (tO n):=tB.mpr (gC.mpr (.inl #[v,h]));have l:D4 p (tO n):=(kC _ h).1;rcases x4 (es:=es) (st:=st) (g:=g) (p:=p) (q:=tO n) with(⟨_,_,e,_⟩| ⟨m,_,_,e⟩| ⟨a,b,_,_,_,e⟩| ⟨x,e⟩)|⟨z,e⟩
 exact Qe e RA;exact e;exact e;exact Qe l x;exact Qe a z
end
end
section
variable{es:TC}{st:LS}{g:Str}
def vs0(es:TC)(st:LS)(g:Str):List Pt:=(yA es st g).map (·.1)
def fl(es:TC)(st:LS)(g:Str)(r:Rm)(p q:Pt):Int:=rm (yA es st g) p q - rm r p q
def out(es:TC)(st:LS)(g:Str)(r:Rm)(p:Pt):Int:=sm (vs0 es st g) (fl es st g r p)
structure Base(es:TC)(st:LS)(g:Str)(r:Rm):Prop where
 ndi:xf r
 adj:∀p q,aI r p q↔aI (yA es st g) p q
 keys:r.map (·.1)=vs0 es st g
 nn:∀p q,0<=rm r p q
 anti:∀p q,fl es st g r p q=- fl es st g r q p
structure Flow(es:TC)(st:LS)(g:Str)(r:Rm):Prop extends Base es st g r where
 cons:∀x,x≠UA->x≠tO g->out es st g r x=0
theorem AF:(vs0 es st g).Nodup:=oD.ndk
theorem Fg:Flow es st g (yA es st g):=by
 have e:∀p q,fl es st g (yA es st g) p q=0:=λp q=>by unfold fl;omega
 refine#[#[oD.ndi,λp q=>WP,rfl,λp q=>yy,λp q=>by rw[e,e];rfl],λx _ _=>?_];unfold out;rw[kB (g:=λ_=>0) λq _=>e x q];exact EG _
theorem DB{p q:Pt}(h:aI (yA es st g) p q):aI (yA es st g) q p:=tB.mpr (oD.sym p q (tB.mp h)).1
theorem sB{p q:Pt}(h:aI (yA es st g) p q):p∈vs0 es st g:=bB.mp (oD.sym p q (tB.mp h)).2
theorem tS{p q:Pt}(h:aI (yA es st g) p q):p≠q:=by
 rcases gC.mp (tB.mp h) with⟨v,m⟩| ⟨v,m⟩
 exact hG (kC _ m).1;exact(hG (kC _ m).1).symm
section
variable{r:Rm}
theorem Base.dom(b:Base es st g r):Ha r:=λp q h=>by have a:=(b.adj p q).mp (tB.mpr h);rw[bB,b.keys];exact sB (DB a)
theorem Base.bg(b:Base es st g r):Key r UA:=by rw[bB,b.keys];refine bB.mp ?_;show Key (yA es st g) UA;rw[iE];exact LL.mpr (.inl #[[],Qc rfl])
theorem Base.len(b:Base es st g r):r.9=(yA es st g).length:=by have:=wy qT b.keys;unfold vs0 at this;rw[QF,QF]at this;exact this
theorem Base.adjw(b:Base es st g r){p q:Pt}(h:0<rm r p q):aI (yA es st g) p q:=(b.adj p q).mp (by
 unfold rm at h;cases e:look (lk r p) q with|none=>rw[e]at h;exact Qe h (WD 0)|some v=>exact#[v,e])
theorem iR{u:Pt}{l:Inn}(h:u∈r.map (·.1)):(put r u l).map (·.1)=r.map (·.1):=by rw[put_keys,Qc h]
theorem Base.pushed(b:Base es st g r){u v:Pt}(h:0<rm r u v):Base es st g (T0 r u v):=by
 have a:=b.adjw h;have y:=tS a;have e:=uW (r:=r) y;refine#[Zd y b.ndi,λp q=>?_,?_,λp q=>?_,λp q=>?_];rw[jf y ((b.adj u v).mpr a) ((b.adj v u).mpr (DB a))];exact b.adj p q;have k:u∈r.map (·.1):=by rw[b.keys];exact sB a
 have f:v∈r.map (·.1):=by rw[b.keys];exact sB (DB a)
 unfold T0;rw[iR (by rw[iR k];exact f),iR k];exact b.keys;rw[e];have:=b.nn p q;by_cases c:p=u/\q=v;rw[Qc c,c.1,c.2];split<;>omega;rw[QB c];split<;>omega;unfold fl;rw[e,e];have:=b.anti p q;unfold fl at this;by_cases x:p=v/\q=u;rw[Qc x,Qc (c:=q=u/\p=v) #[x.2,x.1],QB (c:=p=u/\q=v) (λz=>y (z.1.symm.trans x.1)),QB (c:=q=v/\p=u) (λz=>y (z.2.symm.trans x.1))];omega;rw[QB x,QB (c:=q=u/\p=v) (λz=>x #[z.2,z.1])];by_cases w:p=u/\q=v;rw[Qc w,Qc (c:=q=v/\p=u) #[w.2,w.1]];omega;rw[QB w,QB (c:=q=v/\p=u) (λz=>w #[z.2,z.1])];omega
theorem MY(b:Base es st g r){u v:Pt}(h:0<rm r u v)(x:Pt):out es st g (T0 r u v) x=out es st g r x+(if x=u then 1 else 0) - (if x=v then 1 else 0):=by
 have a:=b.adjw h;have f:=tS a;unfold out;have e:∀q,fl es st g (T0 r u v) x q=fl es st g r x q+((if q=v then(if x=u then 1 else 0) else 0)+-(if q=u then(if x=v then 1 else 0) else 0)):=λq=>by unfold fl;rw[uW f];by_cases k:x=u;have w:x≠v:=λz=>f (k.symm.trans z);rw[QB (c:=x=v/\q=u) (λz=>w z.1),Qc k,QB w];by_cases y:q=v;rw[Qc (c:=x=u/\q=v) #[k,y],Qc y];split<;>omega;rw[QB (c:=x=u/\q=v) (λz=>y z.2),QB y];split<;>omega;rw[QB (c:=x=u/\q=v) (λz=>k z.1),QB k];by_cases w:x=v;rw[Qc w];by_cases y:q=u;rw[Qc (c:=x=v/\q=u) #[w,y],Qc y];split<;>omega;rw[QB (c:=x=v/\q=u) (λz=>y z.2),QB y];split<;>omega;rw[QB (c:=x=v/\q=u) (λz=>w z.1),QB w];split<;>split<;>omega
 rw[kB λq _=>e q,TH,TH,TJ,AJ AF (sB (DB a)),AJ AF (sB a)];omega
end
section
variable{r y:Rm}{ks:List Pt}
theorem CF.find{vs:List D}(h:CF r ks vs){q:Pt}(m:q∈ks)(b:q≠UA):∃z u p k v,CF r z u/\p∈z/\lh r p q/\q∉z/\ks=z++q::k/\vs=u++pr p::v:=by
 induction h with|bg=>exact Qe (QJ.mp m) b|@add ks vs p x c i w n f=>by_cases e:q∈ks;let#[z,u,a,k,v,Z,Y,X,s,o,l]:=f e;exact#[z,u,a,k++[x],v++[pr p],Z,Y,X,s,by rw[o,Q4];rfl,by rw[l,Q4];rfl];have j:q=x:=QJ.mp ((Qf.mp m).resolve_left e);subst j;exact#[ks,vs,p,[],[],c,i,w,n,rfl,rfl]
structure LC(es:TC)(st:LS)(g:Str)(y r:Rm)(here:Pt)(ks:List Pt):Prop extends Base es st g r where
 cons:∀x,x≠UA->x≠tO g->out es st g r x=if x=here then 1 else 0
 val:out es st g r UA=out es st g y UA+if here=UA then 1 else 0
 fresh:∀p,∀q∈ks,rm y p q<=rm r p q
theorem d8(f:Flow es st g y)(ks:List Pt):LC es st g y y (tO g) ks:=by refine#[f.toBase,λx u h=>?_,?_,λp q _=>Wa _];rw[QB h];exact f.cons x u h;rw[QB (λz=>EB z.symm)];omega
theorem Nd{h p:Pt}{u:List Pt}(nd:xf y)(l:LC es st g y r h ks)(i:h∈ks)(hb:h≠UA)(w:lh y p h)(f:h∉u)(e:∀q∈u,q∈ks):0<rm r p h/\LC es st g y (T0 r p h) p u:=by have v:0<rm r p h:=Int.lt_of_lt_of_le ((BV nd).mp w) (l.fresh p h i);have b:=tS (l.adjw v);refine#[v,l.toBase.pushed v,λx a j=>?_,?_,λx q k=>?_];rw[MY l.toBase v,l.cons x a j];split<;>split<;>omega;rw[MY l.toBase v,l.val,QB hb,QB (c:=UA=h) (λz=>hb z.symm)];by_cases c:p=UA;rw[Qc c,Qc c.symm];omega;rw[QB c,QB (λz=>c z.symm)];omega;have a:=l.fresh x q (e q k);rw[uW b,QB (c:=x=p/\q=h) (λz=>f (z.2▸k))];split<;>omega
theorem ym(l:LC es st g y r UA ks):Flow es st g r/\out es st g r UA=out es st g y UA+1:=by refine#[#[l.toBase,λx h z=>?_],?_];rw[l.cons x h z,QB h];rw[l.val,Qc rfl]
end
end
section
variable{es:TC}{st:LS}{g:Str}{r:Rm}
section
variable{p q y:Pt}{n a:Str}{ks:List Pt}
theorem NL(b:Base es st g r)(h:rm (yA es st g) q p=0):fl es st g r p q=rm r q p:=by have:=b.anti p q;unfold fl at this ⊢;omega
def PV(r:Rm)(n:Str):Int:=rm r (fR n) (tO n)
theorem OV(b:Base es st g r)(n:Str):fl es st g r (tO n) (fR n)=PV r n:=NL b (JJ λl=>lF (.inr (.inl #[n,rfl,rfl])) l)
theorem gM(b:Base es st g r)(n:Str):PV r n<=1:=by rw[<- OV b];have x:=Bt (es:=es) (st:=st) (g:=g) (n:=n);have h:=b.nn (tO n) (fR n);unfold fl;omega
theorem u6(b:Base es st g r)(h:p∉vs0 es st g∨q∉vs0 es st g):rm r p q=0:=by refine HQ λa=>?_;have a:=(b.adj p q).mp a;rcases h with h|h;exact h (sB a);exact h (sB (DB a))
theorem Bf(l:List Pt)(nd:l.Nodup)(u:Pt)(k:Int)(h:u∉l->k=0):sm l (λx=>if x=u then k else 0)=k:=by by_cases m:u∈l;exact AJ nd m;rw[BQ m,h m]
def inn(r:Rm)(n:Str)(y:Pt):Int:=if y=fR n then 0 else rm r (tO n) y
theorem FR(f:Flow es st g r)(h:n≠g):sm (vs0 es st g) (inn r n)=PV r n:=by
 have c:=f.cons (tO n) (λz=>EB z.symm) (λz=>h (LB z));unfold out at c;have e:∀y,fl es st g r (tO n) y=(if y=fR n then PV r n else 0)+- inn r n y:=λy=>by unfold inn;by_cases e:y=fR n;rw[Qc e,Qc e,e,OV f.toBase];omega;rw[QB e,QB e];unfold fl;rw[Zn e];omega
 rw[kB λy _=>e y,TH,TJ,Bf _ AF (fR n) (PV r n) (λz=>u6 f.toBase (.inl z))]at c;omega
theorem DR(b:Base es st g r)(n:Str)(y:Pt):0<=inn r n y:=by unfold inn;split;decide;exact b.nn _ _
def Yc(r:Rm)(n:Str)(y:Pt):Int:=if y=tO n then 0 else rm r y (fR n)
theorem LY(f:Flow es st g r)(n:Str):sm (vs0 es st g) (Yc r n)=PV r n:=by
 have c:=f.cons (fR n) (λz=>OE z.symm) (λz=>RA z.symm);unfold out at c;have e:∀y,fl es st g r (fR n) y=- (if y=tO n then PV r n else 0)+Yc r n y:=λy=>by unfold Yc;by_cases e:y=tO n;rw[Qc e,Qc e,e];have:=f.anti (fR n) (tO n);rw[OV f.toBase]at this;omega;rw[QB e,QB e,NL f.toBase (zy e)];omega
 rw[kB λy _=>e y,TH,TJ,Bf _ AF (tO n) (PV r n) (λz=>u6 f.toBase (.inr z))]at c;omega
theorem nk(b:Base es st g r)(n:Str)(y:Pt):0<=Yc r n y:=by unfold Yc;split;decide;exact b.nn _ _
def VV(r:Rm)(n:Str):Prop:=0<rm r (tO n) UA
def Ga(r:Rm)(a b:Str):Prop:=a≠b/\0<rm r (tO b) (fR a)
theorem fK(b:Base es st g r)(h:VV r n):n∈st/\n≠g:=by
 rcases gC.mp (tB.mp (b.adjw h)) with⟨v,m⟩| ⟨v,m⟩
 exact Qe (kC _ m).1 λl=>by
  rcases l with⟨e,_⟩| ⟨_,_,e⟩| ⟨_,_,_,e,_⟩
  exact EB e.symm;exact OE e;exact RA e
 rcases lE.mp m with⟨k,mk,x,e|e⟩| ⟨e,_,_,y|y|y⟩
 ·exact Qe (wy wE e) EB
 have:=wy (λw:Wy=>w.2.1) e;rw[LB this];exact#[mk,x];exact Qe (wy wE y) EB;exact Qe (wy wE y) EB;exact Qe (wy wE y) OE
theorem Zl(b:Base es st g r){c:Str}(h:Ga r a c):(a,c)∈es/\a≠g:=by
 rcases gC.mp (tB.mp (b.adjw h.2)) with⟨v,m⟩| ⟨v,m⟩
 exact Qe (kC _ m).1 λl=>by
  rcases l with⟨e,_⟩| ⟨k,z,x⟩| ⟨_,_,_,e,_⟩
  exact EB e.symm;exact h.1 ((xI x).trans (LB z).symm);exact RA e
 rcases lE.mp m with⟨k,mk,u,e|e⟩| ⟨e,f,u,y|y|y⟩
 ·exact Qe (wy wE e).symm RA
 exact Qe (wy wE e).symm OE;exact Qe (wy wE y).symm RA;exact Qe (wy wE y).symm RA;have z:a=e.1:=xI (wy wE y);have x:c=e.2:=LB (wy (λw:Wy=>w.2.1) y);rw[z,x];exact#[f,u.1]
theorem xX:inn r n UA=rm r (tO n) UA:=by unfold inn;exact QB OE
theorem vR(h:a≠n):inn r n (fR a)=rm r (tO n) (fR a):=by unfold inn;exact QB λz=>h (xI z)
theorem sd(h:a≠n):Yc r a (tO n)=rm r (tO n) (fR a):=by unfold Yc;exact QB λz=>h (LB z).symm
theorem xJ(b:Base es st g r)(h:0<rm r p q):p∈vs0 es st g/\q∈vs0 es st g:=#[sB (b.adjw h),sB (DB (b.adjw h))]
theorem mZ(f:Flow es st g r)(n:Str)(h:n≠g):rm r (tO n) UA<=1:=by by_cases c:0<rm r (tO n) UA;have z:=SH (λx _=>DR f.toBase n x) (xJ f.toBase c).2;rw[FR f h,xX]at z;exact QAm z (gM f.toBase n);omega
theorem oe(f:Flow es st g r)(h:VV r n):PV r n=1:=by have ng:=(fK f.toBase h).2;have z:=SH (λx _=>DR f.toBase n x) (xJ f.toBase h).2;rw[FR f ng,xX]at z;have:=gM f.toBase n;unfold VV at h;omega
theorem ud(f:Flow es st g r)(h:Ga r a n)(ng:n≠g):PV r n=1:=by have z:=SH (λx _=>DR f.toBase n x) (xJ f.toBase h.2).2;rw[FR f ng,vR h.1]at z;have:=gM f.toBase n;have:=h.2;omega
theorem Z5(f:Flow es st g r)(ng:n≠g){x:Pt}(u:0<inn r n x)(h:0<inn r n y):x=y:=by
 have w:x∈vs0 es st g:=by unfold inn at u;split at u;exact Qe u (WD 0);exact(xJ f.toBase u).2
 have v:y∈vs0 es st g:=by unfold inn at h;split at h;exact Qe h (WD 0);exact(xJ f.toBase h).2
 by_cases e:x=y;exact e;have k:=O5 (λz _=>DR f.toBase n z) w v e;rw[FR f ng]at k;have:=gM f.toBase n;omega
theorem RY(f:Flow es st g r){b:Str}(ng:n≠g)(x:Ga r a n)(h:Ga r b n):a=b :=
 xI (Z5 f ng (by rw[vR x.1];exact x.2) (by rw[vR h.1];exact h.2))
theorem PR(f:Flow es st g r)(x:VV r n)(h:Ga r a n):False :=
 OE (Z5 f (fK f.toBase x).2 (by rw[xX];exact x) (by rw[vR h.1];exact h.2))
theorem V7(f:Flow es st g r)(h:PV r n=1):∃y,y≠tO n/\0<rm r y (fR n):=by let#[y,_,x]:=P5 (f:=Yc r n) (l:=vs0 es st g) (by rw[LY f,h];decide);unfold Yc at x;split at x;exact Qe x (WD 0);rename_i ne;exact#[y,ne,x]
theorem fg(b:Base es st g r)(h:aI r y (fR n)):∃m,y=tO m:=by
 rcases gC.mp (tB.mp ((b.adj _ _).mp h)) with⟨v,m⟩| ⟨v,m⟩
 rcases(kC _ m).1 with⟨_,k,e⟩| ⟨k,e,_⟩| ⟨_,k,_,_,e⟩
 ·exact Qe e.symm RA
 exact#[k,e];exact Qe e.symm RA;rcases(kC _ m).1 with⟨e,_⟩| ⟨k,e,_⟩| ⟨_,k,_,_,e⟩
 ·exact Qe e.symm OE
 exact Qe e.symm RA;exact#[k,e]
theorem R7(b:Base es st g r)(h:aI r y UA):∃m,y=tO m:=by
 rcases gC.mp (tB.mp ((b.adj _ _).mp h)) with⟨v,m⟩| ⟨v,m⟩
 rcases(kC _ m).1 with⟨_,k,e⟩| ⟨k,_,e⟩| ⟨_,k,_,_,e⟩
 ·exact Qe e EB
 exact Qe e OE;exact Qe e EB;rcases(kC _ m).1 with⟨_,k,e⟩| ⟨k,e,_⟩| ⟨_,k,_,e,_⟩
 ·exact#[k,e]
 exact Qe e EB;exact Qe e OE
theorem Yl(f:Flow es st g r)(h:PV r n=1):∃m,Ga r n m:=by let#[y,z,x]:=V7 f h;let#[m,rfl]:=fg f.toBase ((f.adj _ _).mpr (f.toBase.adjw x));exact#[m,λe=>z (by rw[e]),x]
theorem vP(f:Flow es st g r){v:Int}(m:(p,tO n,v)∈Z4 es st g):0<rm r p (tO n):=by
 have c:=Yn m;have l:=(kC _ m).1;have h:fl es st g r p (tO n)=rm r (tO n) p:=NL f.toBase (JJ (lF l));unfold fl at h;rw[c]at h;have key:rm r (tO n) p<=1:=by
  rcases lE.mp m with⟨k,mk,z,e|e⟩| ⟨e,o,z,y|y|y⟩
  exact Qe (wy (λw:Wy=>w.2.1) e) RA;have b:p=UA:=wy wE e;have u:n=k:=LB (wy (λw:Wy=>w.2.1) e);rw[b];exact mZ f n (by rw[u];exact z);exact Qe (wy (λw:Wy=>w.2.1) y) RA;exact Qe (wy (λw:Wy=>w.2.1) y) RA;have b:p=fR e.1:=wy wE y;have u:n=e.2:=LB (wy (λw:Wy=>w.2.1) y);rw[b];by_cases c:0<rm r (tO n) (fR e.1);have j:e.1≠n:=by rw[u];exact z.2
  have i:=SH (λx _=>nk f.toBase e.1 x) (xJ f.toBase c).1;rw[LY f,sd j]at i;exact QAm i (gM f.toBase _);omega
 omega
theorem lT{l m:List Pt}(v:l.Nodup)(u:m.Nodup)(h:∀x,x∈l↔x∈m):l.9=m.length:=by have a:=xH v λx z=>(h x).mp z;have b:=xH u λx z=>(h x).mpr z;omega
noncomputable def pH(ks:List Pt)(x:Pt):Bool:=decide (x.2="to")&&!decide (fR x.1∈ks)
theorem vE{x:Pt}:pH ks x=kf↔∃n,x=tO n/\fR n∉ks:=by unfold pH;rw[QZ,qD,q7,decide_eq_false_iff_not];constructor;rintro⟨u,z⟩;exact#[x.1,QC2 rfl u,z];rintro⟨n,rfl,h⟩;exact#[rfl,h]
theorem CQ(p:Pt->Bool):∀(l:List Pt),sm l (λx=>if p x=kf then 1 else 0)=(l.filter p).9
 |[]=>rfl|x::l=>by show(if p x=kf then 1 else 0)+sm l _=_;rw[CQ p l,WX];by_cases c:p x=kf;rw[Qc c,Qc c,QN];omega;rw[QB c,QB c];omega
theorem BU(f:Flow es st g r)(nd:ks.Nodup)(hk:∀p,p∈ks↔Rch r p)(M:tO g∉ks):out es st g r UA=(ks.filter (pH ks)).length:=by
 have sub:∀p∈ks,p∈vs0 es st g:=λp L=>by have:=bB.mp (RI f.toBase.dom f.toBase.bg ((hk p).mp L));rw[f.keys]at this;exact this
 have o:∀x∈ks,∀y,y∉ks->rm r x y=0:=λx w y u=>by have:=f.nn x y;by_cases c:0<rm r x y;exact Qe ((hk y).mpr (.go ((hk x).mp w) ((BV f.ndi).mpr c))) u;omega
 have I:sm ((vs0 es st g).filter λx=>decide (x∈ks)) (λx=>out es st g r x)=out es st g r UA:=by
  have hb:UA∈ks:=(hk UA).mpr .bg;have e:∀x∈(vs0 es st g).filter (λx=>decide (x∈ks)),out es st g r x=if x=UA then out es st g r UA else 0:=λx w=>by by_cases c:x=UA;rw[Qc c,c];rw[QB c];exact f.cons x c λz=>M (z▸qq (Qb.mp w).2)
  rw[kB e];exact AJ (AF.sublist qJ) (Qb.mpr #[sub _ hb,dT hb])
 have G:∀x∈(vs0 es st g).filter (λx=>decide (x∈ks)),sm ((vs0 es st g).filter λy=>!decide (y∈ks)) (fl es st g r x)=if pH ks x=kf then 1 else 0:=λx w=>by
  have W:x∈ks:=qq (Qb.mp w).2;have Z:=(Qb.mp w).1;have k:∀y∈(vs0 es st g).filter (λy=>!decide (y∈ks)),y∉ks/\fl es st g r x y=rm (yA es st g) x y:=λy u=>by have:=(Qb.mp u).2;rw[qD,decide_eq_false_iff_not]at this;refine#[this,?_];unfold fl;rw[o x W y this];omega
  have B:∀y∈(vs0 es st g).filter (λy=>!decide (y∈ks)),∀n,y=tO n->fl es st g r x y=0:=λy u n e=>by
   let#[C,O]:=k y u;rw[O,e];by_cases A:x=fR n;rw[A];exact JJ λl=>lF (.inr (.inl #[n,rfl,rfl])) l;rcases Ut (es:=es) (st:=st) (g:=g) A with z|z
   ·exact z
   have a:aI (yA es st g) x (tO n):=by refine wm λJ=>?_;rw[HQ J]at z;exact Qe z (by decide)
   rcases gC.mp (tB.mp a) with⟨v,m⟩| ⟨v,m⟩
   have:=vP f m;rw[o x W (tO n) (e▸C)]at this;exact Qe this (WD 0);rw[JJ (lF (kC _ m).1)]
  rcases oD.kind x (bB.mpr Z) with e|⟨n,e|e⟩
  have i:¬ pH ks x=true:=λz=>by let#[n,j,_]:=vE.mp z;exact EB (e.symm.trans j)
  rw[QB i];rw[kB (g:=λ_=>0),EG];intro y u;by_cases t:∃n,y=tO n;let#[n,t]:=t;exact B y u n t;rw[(k y u).2,e];exact JJ λl=>by
   rcases l with⟨_,z⟩| ⟨n,z,_⟩| ⟨_,b,_,_,z⟩
   exact t z;exact EB z;exact t #[b,z]
  by_cases X:fR n∈ks
  ·have i:¬ pH ks x=true:=λz=>by
    let#[m,j,h]:=vE.mp z;rw[<- LB (e.symm.trans j)]at h;exact h X
   rw[QB i,kB (g:=λ_=>0),EG];intro y u;rw[(k y u).2,e];exact Zn λz=>(k y u).1 (z▸X)
  rw[Qc (vE.mpr #[n,e,X])];have K:Key (yA es st g) (tO n):=by rw[<- e];exact bB.mpr Z
  have N:fR n∈vs0 es st g:=sB (DB (tB.mpr (eP K)));rw[kB (g:=λy=>if y=fR n then 1 else 0)];exact AJ (AF.sublist qJ) (Qb.mpr #[N,by rw[dF X];rfl]);intro y u;rw[(k y u).2,e];by_cases c:y=fR n;rw[Qc c,c,Vn K];rw[QB c,Zn c];have i:¬ pH ks x=true:=λz=>by let#[m,j,_]:=vE.mp z;exact RA (j.symm.trans e)
  rw[QB i,kB (g:=λ_=>0),EG];intro y u;by_cases t:∃n,y=tO n;let#[n,t]:=t;exact B y u n t;rw[(k y u).2,e];exact JJ λl=>by
   rcases l with⟨z,_⟩| ⟨n,z,_⟩| ⟨_,b,_,_,z⟩
   exact OE z.symm;exact RA z.symm;exact t #[b,z]
 have F:∀x,out es st g r x=sm ((vs0 es st g).filter λy=>decide (y∈ks)) (fl es st g r x)+sm ((vs0 es st g).filter λy=>!decide (y∈ks)) (fl es st g r x):=λx=>kT _ _;have E:sm ((vs0 es st g).filter λx=>decide (x∈ks)) (λx=>out es st g r x)=sm ((vs0 es st g).filter λx=>decide (x∈ks)) (λx=>if pH ks x=kf then 1 else 0):=by rw[kB λx _=>F x,TH,Bb _ λx _ y _=>f.anti x y,kB G];omega
 rw[<- I,E,CQ];have:(((vs0 es st g).filter λx=>decide (x∈ks)).filter (pH ks)).9=(ks.filter (pH ks)).length:=by refine lT ((AF.sublist qJ).sublist qJ) (nd.sublist qJ) λx=>?_;rw[Qb,Qb,Qb,q7];exact#[λ#[#[_,s],Y]=>#[s,Y],λ#[s,Y]=>#[#[sub x s,s],Y]]
 rw[this]
theorem re(f:Flow es st g r):out es st g r UA=(((lk r UA).map (·.1)).filter λy=>decide (0<rm r y UA)).length:=by
 have e:∀y∈vs0 es st g,fl es st g r UA y=if decide (0<rm r y UA)=kf then 1 else 0:=λy x=>by rw[NL f.toBase ky];have z:=f.nn y UA;by_cases c:0<rm r y UA;rw[dT c,Qc rfl];let#[n,e]:=R7 f.toBase ((f.adj _ _).mpr (f.toBase.adjw c));rw[e]at c ⊢;have:=mZ f n (fK f.toBase c).2;omega;rw[dF c,QB (by decide)];omega
 unfold out;rw[kB e,CQ];have:((vs0 es st g).filter λy=>decide (0<rm r y UA)).9=(((lk r UA).map (·.1)).filter λy=>decide (0<rm r y UA)).length:=by refine lT (AF.sublist qJ) ((f.ndi UA).sublist qJ) λy=>?_;rw[Qb,Qb,q7];refine#[λ#[_,h]=>#[?_,h],λ#[_,h]=>#[(xJ f.toBase h).1,h]];let#[v,hv]:=(f.adj UA y).mpr (DB (f.toBase.adjw h));exact QW.mpr #[(y,v),uH hv,rfl]
 rw[this]
theorem Xe(f:Flow es st g r)(hk:∀p,p∈ks↔Rch r p)(o:tO g∉ks){cut:LS}(hc:∀n,tO n∈ks->fR n∉ks->n∈cut):¬ ∃a,(a,g)∈es/\Led es st g cut a:=by
 have u:∀p∈ks,∀n v,(p,tO n,v)∈Z4 es st g->tO n∈ks:=λp j n v m=>(hk _).mpr (.go ((hk _).mp j) ((BV f.ndi).mpr (vP f m)));have key:∀n,Led es st g cut n->fR n∈ks:=λn h=>by
  induction h with|@st s h k=>let#[w,x]:=GE.mp k;have t:=u UA ((hk _).mpr .bg) s 2 (lE.mpr (.inl #[s,h,w,.inr rfl]));exact wm λz=>x (hc s t z)|@ed a b l m k i=>let#[w,x]:=GE.mp k;by_cases e:a=b;rw[<- e];exact i;have t:=u (fR a) i b 2 (lE.mpr (.inr #[(a,b),m,#[(pN l).1,e],.inr (.inr rfl)]));exact wm λz=>x (hc b t z)
 rintro⟨a,m,l⟩;exact o (u (fR a) (key a l) g 2 (lE.mpr (.inr #[(a,g),m,#[(pN l).1,(pN l).1],.inr (.inr rfl)])))
end
end
inductive Run(r:Rm)(g f:Str):LS->Str->Prop
 |nil:Run r g f [] f
 |go {c:LS}{n m:Str}:Run r g f c n->n≠g->Ga r n m->Run r g f (c++[n]) m
inductive Chn(es:TC)(st:LS)(g:Str):LS->Str->Prop
 |st {f:Str}:f∈st->f≠g->Chn es st g [] f
 |go {c:LS}{n m:Str}:Chn es st g c n->n≠g->(n,m)∈es->Chn es st g (c++[n]) m
section
variable{es:TC}{st:LS}{g:Str}{r:Rm}
section
variable{s n:Str}{c:LS}
theorem Run.chn(f:Flow es st g r)(x:VV r s)(h:Run r g s c n):Chn es st g c n:=by
 induction h with|nil=>exact .st (fK f.toBase x).1 (fK f.toBase x).2|go _ ng y z=>exact .go z ng (Zl f.toBase y).1
theorem Run.thr1(f:Flow es st g r)(y:VV r s)(h:Run r g s c n)(ng:n≠g):PV r n=1:=by
 cases h with|nil=>exact oe f y|go _ _ x=>exact ud f x ng
theorem Run.pred(h:Run r g s c n):∀x,x∈c∨x=n->x=s∨∃y∈c,Ga r y x:=by
 induction h with
 |nil=>intro x u;exact u.elim (λz=>(nomatch z)) .inl
 |@go c n m _ _ v w =>
  intro x u;rcases u with u|rfl;have:x∈c∨x=n:=(Qf.mp u).imp_right QJ.mp;rcases w x this with z|⟨y,k,z⟩
  exact .inl z;exact .inr #[y,Qm _ k,z];exact .inr #[n,QT _ QD,v]
theorem Run.ng(h:Run r g s c n):∀x∈c,x≠g:=by
 induction h with
 |nil=>exact λx y=>(nomatch y)
 |go _ k _ u=>intro x y;rcases Qf.mp y with z|z;exact u x z;rw[QJ.mp z];exact k
theorem Run.nd(f:Flow es st g r)(w:VV r s)(h:Run r g s c n):c.Nodup/\n∉c:=by
 induction h with
 |nil=>exact#[Q7,λz=>(nomatch z)]
 |@go c n m h k x u =>
  have nd:(c++[n]).Nodup:=qW.mpr #[u.1,Ql.mpr #[λz=>(nomatch z),Q7],λa i b hb z=>by rw[QJ.mp hb]at z;exact u.2 (z▸i)];refine#[nd,λz=>?_];rcases Qf.mp z with z|z;rcases h.pred m (.inl z) with e|⟨y,v,e⟩
  ·rw[e]at x;exact PR f w x
  rw[RY f (h.ng m z) e x]at v;exact u.2 v;exact x.1 (QJ.mp z).symm
theorem Run.apart(f:Flow es st g r){s':Str}(q:VV r s)(b:VV r s'){l:LS}{p:Str}(h:Run r g s c n)(h':Run r g s' l p):∀x∈c,x∈l->s=s':=by
 induction h with
 |nil=>exact λx a=>(nomatch a)
 |@go c n m h k X i =>
  intro x a v;rcases Qf.mp a with z|z;exact i x z v;have z:=QJ.mp z;subst z;rcases h.pred x (.inr rfl) with e|⟨y,j,e⟩<;>rcases h'.pred x (.inl v) with u|⟨o,w,u⟩
  exact e.symm.trans u;rw[e]at u;exact(PR f q u).elim;rw[u]at e;exact(PR f b e).elim;rw[RY f k e u]at j;exact i o j w
end
end
section
variable{es:TC}{st:LS}{g:Str}
theorem Be{cut:LS}{c:LS}{n:Str}(h:Chn es st g c n)(hc:∀x∈c,x∉cut)(ng:n≠g)(y:n∉cut):Led es st g cut n:=by
 induction h with|st h _=>exact .st h (GE.mpr #[ng,y])|@go c n m _ k e z=>exact .ed (z (λx u=>hc x (Qm _ u)) k (hc n (QT _ QD))) e (GE.mpr #[ng,y])
theorem i9{cut:LS}{c:LS}(h:Chn es st g c g)(hl:¬ ∃a,(a,g)∈es/\Led es st g cut a):∃x∈c,x∈cut:=by
 refine wm λz=>?_;have hc:∀x∈c,x∉cut:=λx y m=>z #[x,y,m];cases h with|st _ e=>exact e rfl|@go c n _ h k e=>exact hl #[n,e,Be h (λx y=>hc x (Qm _ y)) k (hc n (QT _ QD))]
def MJ:List (LS)->Prop
 |[]=>True|c::cs=>(∀d∈cs,∀x∈c,x∉d)/\MJ cs
theorem Of{cut:LS}:∀{cs:List (LS)},MJ cs->(∀c∈cs,∃x∈c,x∈cut)->∃u:LS,u.9=cs.9/\u.Nodup/\(∀p∈u,p∈cut)/\∀p∈u,∃c∈cs,p∈c
 |[],_,_=>#[[],rfl,Q7,λ_ z=>(nomatch z),λ_ z=>(nomatch z)]
 |c::cs,a,h=>by
  let#[u,f,e,b,k]:=Of (cs:=cs) a.2 λd v=>h d (QE _ v);let#[x,w,hc]:=h c QD;refine#[x::u,by rw[QN,QN,f],Ql.mpr #[λz=>?_,e],λp y=>?_,λp y=>?_];let#[d,v,y]:=k x z;exact a.1 d v x w y;rcases QL.mp y with z|z
  ·rw[z];exact hc
  exact b p z;rcases QL.mp y with z|z
  ·exact#[c,QD,by rw[z];exact w]
  let#[d,v,y]:=k p z;exact#[d,QE _ v,y]
theorem y4{cut:LS}{cs:List (LS)}(a:MJ cs)(h:∀c∈cs,Chn es st g c g)(hl:¬ ∃a,(a,g)∈es/\Led es st g cut a):cs.9<=cut.length:=by let#[u,z,y,x,_]:=Of a λc hc=>i9 (h c hc) hl;rw[<- z];exact mR y x
end
section
variable{ks:List Pt}{vs:List D}{p:Pt}
noncomputable def RC(ks:List Pt)(vs:List D):List (D×D):=(ks.map pr).zip vs
theorem Jn(ks:List Pt)(vs:List D):(He ks vs).er=.dict (RC ks vs):=by show PyData.dict ((ks.map pr).zip (ersT (vs.map T.d)))=_;rw[xB];rfl
theorem PL(h:vs.9=ks.9):(RC ks vs).map (·.1)=ks.map pr:=QAH (by rw[QF];omega)
theorem Ge(h:vs.9=ks.9):(RC ks vs).map (·.2)=vs:=WV (by rw[QF];omega)
theorem eJ(h:vs.9=ks.9)(m:p∈ks):UD (RC ks vs)=jr true:=by
 cases ks with
 |nil=>exact(nomatch m)
 |cons x ks=>cases vs with|nil=>cases h|cons y vs=>rfl
theorem VU{q:Pt}{u:List Pt}:∀{y:List Pt},q∉y->dA ((y++q::u).map pr) (pr q)=jr y.9
 |[],_=>Gg rfl|x::y,h=>by show dA (pr x::(y++q::u).map pr) (pr q)=_;rw[z9 (λz=>h (by rw[RQ z];exact QD)),VU λz=>h (QE _ z)];rfl
theorem Xp{h z:List Pt}{y x:List D}{q:Pt}{n m:Bool}{R:T->Prop}(u:y.9=h.9)(w:x.9=z.9)(v:q∉h)(k:R (.d (pr p))):CA (.d (.dict (RC (h++q::z) (y++pr p::x)))) n (.d (pr q)) m R:=by
 have hl:(y++pr p::x).9=(h++q::z).length:=by rw[QI,QI,QN,QN,u,w]
 refine Kp (eJ hl (p:=q) (QT _ QD)) (jC q) (by rw[PL hl];exact VU v) ?_ k;rw[Ge hl,<- u,Qu (QV _),QAn];rfl
theorem UN(a b:Pt):Qo (pr a) (pr b)=decide (a=b):=by
 rw[Q2,q7];have e:Qo (pr a) (pr b)=(Qo (.str a.1) (.str b.1)&&(Qo (.str a.2) (.str b.2)&&kf)):=by simp[pr,Qo,PyData.eqvAll]
 rw[e,oF,oF,QAO,QZ,q7,q7];exact#[λh=>QC2 h.1 h.2,λh=>by rw[h];exact#[rfl,rfl]]
def FK(es:TC)(st:LS):Prop:=(∀s∈st,qd s=kf)/\∀e∈es,qd e.1=kf/\qd e.2=kf
theorem JD{a b:Str}(x:qd a=kf)(h:qd b=kf):BE (pr (a,b)):=by refine#[?_,?_];simp only[pr,QAt,wC,x,h,Bool.and_self];simp only[pr,QBY,ww];decide
theorem zT:qd "to"=true:=by decide +kernel
theorem oY:qd "from"=true:=by decide +kernel
theorem dP:qd ""=kf/\qd "begin"=true:=by decide +kernel
theorem Y8{es:TC}{st:LS}{g:Str}(h:FK es st)(k:p∈vs0 es st g):BE (pr p):=by
 have k:Key (yA es st g) p:=bB.mpr k;rw[iE]at k;rcases LL.mp k with z|⟨⟨u,v,c⟩,m,z⟩
 rw[QJ.mp (bB.mp z)];exact JD dP.1 dP.2;have z:p=u∨p=v:=z;rcases lE.mp m with⟨n,w,_,e|e⟩| ⟨e,x,_,y|y|y⟩
 cases e;rcases z with z|z<;>subst z;exact JD (h.1 n w) zT;exact JD (h.1 n w) oY;cases e;rcases z with z|z<;>subst z;exact JD dP.1 dP.2;exact JD (h.1 n w) zT;cases y;rcases z with z|z<;>subst z;exact JD (h.2 e x).1 zT;exact JD (h.2 e x).1 oY;cases y;rcases z with z|z<;>subst z;exact JD (h.2 e x).2 zT;exact JD (h.2 e x).2 oY;cases y;rcases z with z|z<;>subst z;exact JD (h.2 e x).1 oY;exact JD (h.2 e x).2 zT
def VS(r:Rm)(x:List (D×D))(last:D)(h:Pt)(o4:Option Sl):vA:=[oW (gB r),bD (.dict x),bD last,bD (pr h),o4]
end
section
variable{Ψ:PEv}{Z:PEnds}{q:PT}{r:Rm}{h:List (D×D)}{last:D}{u v:Pt}
theorem xx(hk:Key r u)(w:aI r u v)(hl:(lk r u).9<kb)(k:pF Ψ q Z (VS (put r u (put (lk r u) v (rm r u v - 1))) h last v (bD (pr u)))) :
  pF Ψ (.seq (.six (.idx (.var 0) (.var 4)) (.var 3) (.bin .Sub (.idx (.idx (.var 0) (.var 4)) (.var 3)) (.int 1))) q) Z (VS r h last v (bD (pr u))):=by
 let#[x,y]:=w;have e:rm r u v=x:=by unfold rm;rw[y];rfl
 rw[e]at k;delta VS at k ⊢;simp![↓tI];refine jF hk ?_;simp![↓LZ];refine pQ y ?_;simp![↓zA];refine ZI (FE hk) λf z=>eQ hl ?_;rw[z];exact k
theorem zx(hk:Key r v)(w:aI r v u)(hl:(lk r v).9<kb)(k:pF Ψ q Z (VS (put r v (put (lk r v) u (rm r v u+1))) h last v (bD (pr u)))) :
  pF Ψ (.seq (.six (.idx (.var 0) (.var 3)) (.var 4) (.bin .Add (.idx (.idx (.var 0) (.var 3)) (.var 4)) (.int 1))) q) Z (VS r h last v (bD (pr u))):=by
 let#[x,y]:=w;have e:rm r v u=x:=by unfold rm;rw[y];rfl
 rw[e]at k;delta VS at k ⊢;simp![↓tI];refine jF hk ?_;simp![↓LZ];refine pQ y ?_;simp![↓zA];refine ZI (FE hk) λf z=>eQ hl ?_;rw[z];exact k
end
theorem Base.inn{es:TC}{st:LS}{g:Str}{r:Rm}(b:Base es st g r)(p:Pt):(lk r p).9<=(yA es st g).length:=by
 have:=xH (ns:=vs0 es st g) (b.ndi p) λq h=>by let#[e,x,z]:=QW.mp h;have a:aI r p q:=tB.mpr #[e.2,by rw[<- z];exact x];exact sB (DB ((b.adj p q).mp a))
 unfold vs0 at this;rw[QF,QF]at this;exact this
section
variable{Ψ:PEv}{Z:PEnds}{es:TC}{st:LS}{g:Str}
theorem Gd{m r:Rm}{ks:List Pt}{vs:List D}{x:Pt}{last:D}{o4:Option Sl}{z v:List Pt}{b u:List D}(hsz:(yA es st g).9<=1000)(R:xf m)(I:CF m z b)(S:ks=z++v)(ev:vs=b++u)(h9:u.9=v.9)(F:x∈z)(hb:x≠UA)(i:LC es st g m r x z)
  (k:∀h y n l p A,CF m h y->ks=h++n->vs=y++l->l.9=n.9->h.9<z.9->p∈h->LC es st g m A p h->Z.nx (VS A (RC ks vs) last p (bD (pr p)))) :
  pF Ψ oE Z (VS r (RC ks vs) last x o4):=by
 let#[h,y,p,j,e,J,Q,w,B,X,G]:=I.find F hb;have M:=I.len;have L:=J.len;have H:e.9=j.length:=by rw[X,G,QI,QI,QN,QN]at M;omega
 have s:ks=h++x::(j++v):=by rw[S,X,Q4];rfl
 have o:vs=y++pr p::(e++u):=by rw[ev,G,Q4];rfl
 let#[W,K]:=Nd R i F hb w B λq P=>by rw[X];exact Qm _ P
 have a:=i.adjw W;have C:=tS a;have O:Key r p:=by rw[bB,i.keys];exact sB a
 have N:Key r x:=by rw[bB,i.keys];exact sB (DB a)
 have E:=i.toBase.inn;have Y:pF Ψ %[.set 3 (.var 4)|2] Z (VS (T0 r p x) (RC ks vs) last x (bD (pr p))):=by have:=k h y (x::(j++v)) (pr p::(e++u)) p (T0 r p x) J s o (by rw[QN,QN,QI,QI];omega) (by rw[X,QI,QN];omega) Q K;unfold VS at this;delta VS;simp![↓zA];exact this
 have f:pF Ψ %[.six (.idx (.var 0) (.var 4)) (.var 3) (.bin .Sub (.idx (.idx (.var 0) (.var 4)) (.var 3)) (.int 1)),.six (.idx (.var 0) (.var 3)) (.var 4) (.bin .Add (.idx (.idx (.var 0) (.var 3)) (.var 4)) (.int 1)),.set 3 (.var 4)|2] Z (VS r (RC ks vs) last x (bD (pr p))):=by have i1:=E p;have i2:=E x;refine xx O ((i.adj _ _).mpr a) () (zx ?_ ?_ ?_ Y);exact gJ.mpr (.inr N);show aI _ x p;have:=(i.adj x p).mpr (DB a);unfold aI at this ⊢;rw[gE,QB C];exact this;rw[gE,QB C];omega
 unfold VS at f;delta VS;delta oE;simp![↓zA];rw[s,o]at f ⊢;refine Xp L (by rw[QI,QI];omega) B ?_;simp![↓zA];exact f
end
section
variable{Ψ:PEv}{W:LT->Prop}{n m:Bool}{E:XE}{ρ:vA}{R:T->Prop}{a g f:Str}{es:TC}{st c:LS}{r:Rm}{Z:PEnds}{ks:List Pt}{vs:List D}{L:Bool->Prop}{Q:T->Bool->Prop}{i:Nat}{cs:List (LS)}
def ZQ:PSp where
 md:=[.chg]
 run:=λy Q _=>∃(es:TC) (st:LS) (g:Str) (h:Rm) (ks:List Pt) (vs:List D),y=[gB h,.d (.dict (RC ks vs)),.d (pr (tO g))]/\((yA es st g).9<=1000/\FK es st/\Flow es st g h/\CF h ks vs/\tO g∈ks)/\∀x,Flow es st g x->out es st g x UA=out es st g h UA+1->Q (.d .none) [gB x]
theorem Ak(B:Ψ.va "BEGIN"=jr (pr UA)):aE Ψ iG ZQ dL II:=by
 rintro _ Q _ ⟨es,st,g,k,ks,vs,rfl,⟨N,M,fl,H,I⟩,q⟩;refine oK [oW (gB k),bD (.dict (RC ks vs)),bD (pr (tO g)),kv,kv] ?_;delta iG;simp![↓zA];refine iI (λm ρ=>∃r h x v u y o4,m=h.9/\CF k h x/\ks=h++v/\vs=x++u/\u.9=v.9/\y∈h/\LC es st g k r y h/\ρ=VS r (RC ks vs) (pr (tO g)) y o4) ks.9 #[k,ks,vs,[],[],tO g,_,rfl,H,by rw[qL],by rw[qL],rfl,I,d8 fl ks,rfl] ?_;rintro m ρ ⟨r,h,x,v,u,y,o4,em,C,S,ev,J,K,Y,rfl⟩;have o:BE (pr y):=Y8 M (by have:=RI fl.toBase.dom fl.toBase.bg (C.rch y K);rw[bB,fl.keys]at this;exact this);have s:BE (pr UA):=JD dP.1 dP.2;have z:∀L:Bool->Prop,L (!decide (y=UA))->UB .NotEq (.d (pr y)) (.d (pr UA)) L:=λL l=>by show BE (pr y)/\BE (pr UA)/\L (!PyData.eqv (pr y) (pr UA));rw[UN];exact#[o,s,l]
 by_cases e:y=UA;subst e;delta VS;simp![↓MH B];refine z _ ?_;rw[dT rfl];let#[P,O]:=ym Y;exact q r P O;have A:=λ(Z:PEnds) G=>Gd (Ψ:=Ψ) (Z:=Z) (last:=pr (tO g)) (o4:=o4) N fl.ndi C S ev J K e Y G;unfold VS at A;delta VS;simp![↓MH B];refine z _ ?_;rw[dF e];refine A _ λw j X b p F a1 a2 a3 a4 a5 a6 a7=>#[w.9,(),F,w,j,X,b,p,_,rfl,a1,a2,a3,a4,a6,a7,rfl]
theorem m5{l:Inn}:eI .val [(CD l,kd)] W=W ((l.map λe=>pr e.1).map T.d):=lU _ _
theorem Ri{kvs:List (D×D)}(h:UD kvs=jr kf):eI .val [(.d (.dict kvs),n)] W=W ((kvs.map (·.1)).map T.d):=by unfold eI ZB;rw[rA];show NB .val [bC kvs] W=_;unfold bC;rw[h];exact lU _ _
theorem gh{a b h:PX}{t:Str}{x:T}{R:Option T->Prop}:NF Ψ E [] [t] (.nm 0) (.and a b) h ρ x R=pO Ψ (.and a b) E (jr (.bor x)::lockA ρ) λk z=>if k=kf then zB Ψ h E z λy n _=>sC y n (R (jr y)) else R none:=rfl
theorem CS{p:Pt}:CA (.d (pr p)) n (.d (.int 0)) m R=R (.d (.str p.1)):=by delta pr;rw[T4,vo,GA]
theorem Yp{p:Pt}:CA (.d (pr p)) n (.d (.int 1)) m R=R (.d (.str p.2)):=by delta pr;rw[T4,my,GA]
theorem Nf:(T.d (.tuple [.str a,.str "from"]))=.d (pr (fR a)):=rfl
theorem X6:(T.d (.tuple [.str a,.str "to"]))=.d (pr (tO a)):=rfl
def SG:PSp where
 md:=[.bor]
 run:=λh Q _=>∃(es:TC) (st:LS) (g:Str) (r:Rm) (n:Str),h=[gB r,.d (.str n)]/\((yA es st g).9<=1000/\Flow es st g r/\PV r n=1)/\∀m,Ga r n m->Q (.d (.str m)) []
theorem L1:aE Ψ nE SG FH xG:=by
 rintro _ Q _ ⟨es,st,g,r,n,rfl,⟨M,fl,A⟩,q⟩;have J:=fl.toBase.inn (fR n);let#[b,k]:=Yl fl A;have o:aI r (fR n) (tO b):=(fl.adj _ _).mpr (DB (fl.toBase.adjw k.2));have X:Key r (fR n):=by rw[bB,fl.keys];exact sB ((fl.adj _ _).mp o)
 refine uA [jr (.bor (gB r)),bD (.str n),kv] ?_;delta nE;simp![Nf,↓tI];refine#[(),jF X ?_];simp![↓ma,↓m5];have F:((lk r (fR n)).map λe=>pr e.1).map T.d=((lk r (fR n)).map (·.1)).map λp=>T.d (pr p):=by rw[Qa,Qa];rfl
 rw[F];refine oA (λp=>T.d (pr p)) (λ(p:Pt)=>T.d (.str p.1)) (λp=>!decide (p.1=n)&&decide (0<rm r p (fR n))) ((lk r (fR n)).map (·.1)) [] _ (λx K R u=>?_) (by show 0+((lk r (fR n)).map (·.1)).9<=_;rw[QF];omega) ?_;let#[e,B,C]:=QW.mp K;have G:aI r (fR n) x:=tB.mpr #[e.2,by rw[<- C];exact B];have w:aI r x (fR n):=(fl.adj _ _).mpr (DB ((fl.adj _ _).mp G));have s:Key r x:=by rw[bB,fl.keys];exact sB ((fl.adj _ _).mp w)
 let#[v,hv]:=w;have ev:rm r x (fR n)=v:=by unfold rm;rw[hv];rfl
 rw[ev]at u;simp![↓gh,↓CS,↓tI];by_cases c:x.1=n;rw[dT c]at u ⊢;exact u;rw[dF c]at u ⊢;simp only[WQ,↓reduceIte];refine jF s ?_;simp![↓LZ];refine pQ hv ?_;simp![↓CS];by_cases d:0<v;rw[dT d]at u ⊢;exact u;rw[dF d]at u ⊢;exact u;have j:tO b∈((lk r (fR n)).map (·.1)).filter λp=>!decide (p.1=n)&&decide (0<rm r p (fR n)):=by let#[v,hv]:=o;refine Qb.mpr #[QW.mpr #[_,uH hv,rfl],?_];rw[dF (show ¬ (tO b).1=n from λz=>k.1 z.symm),dT k.2];rfl
 cases l:((lk r (fR n)).map (·.1)).filter λp=>!decide (p.1=n)&&decide (0<rm r p (fR n)) with
 |nil=>rw[l]at j;exact(nomatch j)
 |cons y I =>
  have Y:y∈((lk r (fR n)).map (·.1)).filter λp=>!decide (p.1=n)&&decide (0<rm r p (fR n)):=by rw[l];exact QD
  have h:=(Qb.mp Y).2;rw[QZ,qD,decide_eq_false_iff_not,q7]at h;let#[m,rfl]:=fg fl.toBase ((fl.adj _ _).mpr (fl.toBase.adjw h.2));rw[Qi,pA (λp:Pt=>j0 p.1)];simp![↓zA];rw[QX,vo];simp![↓zA];exact q m #[λz=>h.1 z.symm,h.2]
def CI:PSp where
 md:=[.bor]
 run:=λh Q _=>∃(es:TC) (st:LS) (g:Str) (r:Rm) (f:Str),h=[gB r,.d (.str f),.d (.str g)]/\((yA es st g).9<=1000/\Flow es st g r/\VV r f)/\∀c,Run r g f c g->Q (.lst ((c.map j0).map T.d)) []
theorem Xj(fl:Flow es st g r)(w:VV r f){n:Str}(h:Run r g f c n):(∀x∈c,tO x∈vs0 es st g)/\tO n∈vs0 es st g:=by
 induction h with
 |nil=>exact#[λx y=>(nomatch y),(xJ fl.toBase w).1]
 |go _ _ v u=>refine#[λx y=>?_,(xJ fl.toBase v.2).1];rcases Qf.mp y with z|z;exact u.1 x z;rw[QJ.mp z];exact u.2
theorem iY(fl:Flow es st g r)(y:VV r f){n:Str}(h:Run r g f c n):c.9<=(yA es st g).length:=by
 have nd:=(h.nd fl y).1;have:=xH (ks:=c.map tO) (ns:=vs0 es st g) (Wz tO (λa b u z=>u (LB z)) nd) λp w=>by let#[x,v,e]:=QW.mp w;rw[<- e];exact(Xj fl y h).1 x v
 unfold vs0 at this;rw[QF,QF]at this;exact this
def gn(r:Rm)(f g:Str)(c:LS)(n:Str):vA:=[jr (.bor (gB r)),bD (.str f),bD (.str g),oW (.lst ((c.map j0).map T.d)),bD (.str n)]
theorem Ce(y:Ψ.sp "name_behind"=SG){n:Str}(x:(yA es st g).9<=1000)(fl:Flow es st g r)(h:PV r n=1)(hl:c.9<=1000)(k:∀m,Ga r n m->Z.nx (gn r f g (c++[n]) m)) :
  pF Ψ ND Z (gn r f g c n):=by
 delta gn at k ⊢;delta ND;simp![↓eS,↓kA (md:=[.bor]) y rfl rfl];refine#[by rw[QF,QF];omega,#[_,_,_,_,_,rfl,#[x,fl,h],λm nx=>?_]];have:=k m nx;rw[QR,QR]at this;simp![↓zA];exact this
theorem Y7(j:Ψ.sp "name_behind"=SG):aE Ψ UF CI FJ XH:=by
 rintro _ Q _ ⟨es,st,g,r,f,rfl,⟨b,fl,z⟩,q⟩;have u:kb=16777216:=qB;refine uA [jr (.bor (gB r)),bD (.str f),bD (.str g),kv,kv] ?_;delta UF
 simp![↓zA];refine#[Qn _,iI (λm ρ=>∃c n,m+c.9=1001/\Run r g f c n/\ρ=gn r f g c n) 1001 #[[],f,rfl,.nil,rfl] ?_];rintro m ρ ⟨c,n,l,x,rfl⟩;have hl:=iY fl z x;by_cases e:n=g;subst e;delta gn;simp![↓zA];exact q c x;have v:=λ(Z:PEnds) u=>Ce (Ψ:=Ψ) (Z:=Z) (f:=f) (g:=g) (c:=c) j b fl (x.thr1 fl z e) () u;unfold gn at v;delta gn;simp![↓zA];rw[dF e];refine v _ λk w=>?_;have h:=x.go e w;have y:=iY fl z h;rw[QI,qO]at y;exact#[m - 1,(),c++[n],k,by rw[QI,qO];omega,h,rfl]
theorem Bn{q:Pt}(hv:vs.9=ks.9)(hb:UA∈ks):UB .NotIn (.d (pr q)) (.d (.dict (RC ks vs))) L=L (!decide (q∈ks)):=by show(∃b,UD (RC ks vs)=jr b/\TD b (pr q)/\L (!(dA ((RC ks vs).map (·.1)) (pr q)).isSome))=_;rw[eJ hv hb,PL hv,rJ];exact qs #[λ#[_,_,_,h]=>h,λh=>#[kf,rfl,jC q,h]]
theorem jh{q:Pt}(hv:vs.9=ks.9)(hb:UA∈ks):UB .In (.d (pr q)) (.d (.dict (RC ks vs))) L=L (decide (q∈ks)):=by show(∃b,UD (RC ks vs)=jr b/\TD b (pr q)/\L (dA ((RC ks vs).map (·.1)) (pr q)).isSome)=_;rw[eJ hv hb,PL hv,rJ];exact qs #[λ#[_,_,_,h]=>h,λh=>#[kf,rfl,jC q,h]]
theorem Ur{x:LS}(y:x.9<64)(q:∀h:LS,h.Perm x->i0 h=kf->Q (.lst ((h.map j0).map T.d)) kf):RL .sorted [(.lst ((x.map j0).map T.d),n)] Q:=by unfold RL ZB;rw[IB];exact .inl #[_,x,rfl,gA _,y,q]
theorem Br{ls:List (LS)}(x:ls.9<64)(q:∀h:List (LS),h.Perm ls->Q (.lst ((h.map ED).map T.d)) kf):RL .sorted [(.d (.list (ls.map ED)),n)] Q:=by unfold RL ZB;rw[rA];exact .inr (.inl #[_,ls,rfl,gA _,x,q])
def DN(ks:List Pt):LS:=(ks.filter (pH ks)).map λp=>p.1
def KQ:PSp where
 run:=λh Q _=>∃(ks:List Pt) (vs:List D),h=[.d (.dict (RC ks vs))]/\(vs.9=ks.9/\UA∈ks/\ks.9<=1000/\(ks.filter (pH ks)).9<64)/\∀cut:LS,cut.Perm (DN ks)->i0 cut=kf->Q (.lst ((cut.map j0).map T.d)) []
theorem Ec:aE Ψ XF KQ DJ VH:=by rintro _ Q _ ⟨ks,vs,rfl,⟨hv,hb,k,v⟩,q⟩;refine uA [bD (.dict (RC ks vs))] ?_;delta XF;simp![↓Ri (eJ hv hb),PL hv];rw[<- pA];refine oA (λp=>T.d (pr p)) (λ(p:Pt)=>T.d (.str p.1)) (pH ks) ks [] _ (λx w R h=>?_) (by show 0+ks.9<=_;omega) ?_;have h:R (if(decide (x.2="to")&&!decide (fR x.1∈ks))=kf then jr (T.d (.str x.1)) else kv):=h;simp![↓gh,↓CS,↓Yp,Nf,↓Bn hv hb];by_cases c:x.2="to";rw[dT c]at h ⊢;refine#[(),?_];by_cases d:fR x.1∈ks;rw[dT d]at h ⊢;exact h;rw[dF d]at h ⊢;exact h;rw[dF c]at h ⊢;exact h;rw[Qi,pA (λp:Pt=>j0 p.1),show((ks.filter (pH ks)).map λp=>j0 p.1)=(DN ks).map j0 by unfold DN;rw[Qa];rfl];refine Ur (by unfold DN;rw[QF];exact v) λy u z=>?_;simp![↓zA];exact q y u z
theorem P3(f:Flow es st g r):(((lk r UA).map (·.1)).filter λy=>decide (0<rm r y UA)).9<=st.length:=by
 have u:∀y∈((lk r UA).map (·.1)).filter (λy=>decide (0<rm r y UA)),y=tO y.1/\VV r y.1:=λy x=>by have h:=qq (Qb.mp x).2;let#[n,rfl]:=R7 f.toBase ((f.adj _ _).mpr (f.toBase.adjw h));exact#[rfl,h]
 have nd:(((lk r UA).map (·.1)).filter λy=>decide (0<rm r y UA)).Nodup:=(f.ndi UA).sublist qJ;have:=mR (ks:=(((lk r UA).map (·.1)).filter λy=>decide (0<rm r y UA)).map (·.1)) (ns:=st) (by
  refine Wz _ (λa b h=>h) (w6 (λ{a b} k hb v z=>?_) nd);exact v (by rw[(u a k).1,(u b hb).1,z])) λs w=>by
  let#[y,x,e]:=QW.mp w;rw[<- e];exact(fK f.toBase (u y x).2).1
 rw[QF]at this;exact this
theorem HP{α v:Type}{body:T->(Option T->Prop)->Prop}(P:α->v->Prop)(g:α->T)(f:v->T):∀(l:List α) (h:LT) (Q:LT->Prop),(∀x∈l,∀R:Option T->Prop,(∀y,P x y->R (jr (f y)))->body (g x) R)->h.9+l.9<=kb->(∀u,xm P l u->Q (h++u.map f))->PC body (l.map g) h Q
 |[],h,Q,_,hl,q=>by have:=q [] .nil;rw[wa,qL]at this;exact#[by rw[wq]at hl;omega,this]|x::r,h,Q,hb,hl,q=>by
  rw[QN]at hl;refine hb x QD _ λy k=>#[(),?_]
  refine HP P g f r _ Q (λz w=>hb z (QE _ w)) (by rw[QI,qO];omega) λu b=>?_;have:=q (y::u) (.cons k b);rw[QX]at this;rw[Q4];exact this
theorem ki{r:PT}:MI Ψ E r Z i (He ks vs) kf ρ=pB Ψ E r Z (ρ.set i (bD (.dict (RC ks vs)))):=by unfold MI;rw[Jn];exact qs #[λh=>h.2,λh=>#[rfl,h]]
def Vt(c:LS):T:=.lst ((c.map j0).map T.d)
theorem dn(cs:List (LS)):ersT (cs.map Vt)=cs.map ED:=by rw[TR,Qa];congr 1;funext c;show PyData.list (ersT ((c.map j0).map T.d))=_;rw[xB];rfl
theorem Ny{r:PT}:MI Ψ E r Z i (.lst (cs.map Vt)) kf ρ=pB Ψ E r Z (ρ.set i (bD (.list (cs.map ED)))):=by
 have e:(T.lst (cs.map Vt)).er=.list (cs.map ED):=by show PyData.list (ersT (cs.map Vt))=_;rw[dn]
 unfold MI;rw[e];exact qs #[λh=>h.2,λh=>#[rfl,h]]
theorem js{a b:LT}:ZD [.lst a,.lst b]=.tup [.lst a,.lst b]:=rfl
theorem CK:∀{cs:List (LS)},MJ cs↔cs.Pairwise λc d=>∀x∈c,x∉d
 |[]=>#[λ_=>.nil,λ_=>trivial]|c::cs=>by rw[List.pairwise_cons,<- CK];exact WP
theorem SX{ds:List (LS)}(h:ds.Perm cs)(a:MJ cs):MJ ds:=CK.mpr ((h.pairwise_iff (λ{a b} z x u y=>z x y u)).mpr (CK.mp a))
structure Good(es:TC)(st:LS)(g:Str)(cs:List (LS))(cut:LS):Prop where
 chn:∀c∈cs,Chn es st g c g/\c.Nodup/\∀x∈c,x≠g
 apart:MJ cs
 len:cs.9=cut.9
 few:cut.9<=11
 nd:cut.Nodup
 srt:i0 cut=kf
 ng:g∉cut
 led:¬ ∃a,(a,g)∈es/\Led es st g cut a
 okn:∀s∈cut,qd s=kf
end
section
variable{es:TC}{st:LS}{g:Str}{r:Rm}
theorem aM(f:Flow es st g r):∀{fs:LS}{cs:List (LS)},fs.Nodup->(∀s∈fs,VV r s)->xm (λs c=>Run r g s c g) fs cs->MJ cs/\(∀c∈cs,∃s∈fs,Run r g s c g)
 |_,_,_,_,.nil=>#[trivial,λ_ h=>(nomatch h)]
 |s::fs,c::cs,nd,hf,.cons h t=>by
  let#[b,a]:=Ql.mp nd;let#[l,k]:=aM f a (λs j=>hf s (QE _ j)) t;refine#[#[λd w x i e=>?_,l],λd w=>?_];let#[u,y,v]:=k d w;have:=Run.apart f (hf s QD) (hf u (QE _ y)) h v x i e;exact b (this▸y);rcases QL.mp w with z|z
  ·rw[z];exact#[s,QD,h]
  let#[u,y,v]:=k d z;exact#[u,QE _ y,v]
def pv(r:Rm):List Pt:=((lk r UA).map λe=>e.1).filter λy=>decide (0<rm r y UA)
def bX(r:Rm):LS:=(pv r).map λp=>p.1
theorem T8(f:Flow es st g r):∀y∈pv r,y=tO y.1/\VV r y.1:=λy x=>by have h:=qq (Qb.mp x).2;let#[n,rfl]:=R7 f.toBase ((f.adj _ _).mpr (f.toBase.adjw h));exact#[rfl,h]
theorem ut(f:Flow es st g r):(bX r).Nodup:=by have nd:(pv r).Nodup:=(f.ndi UA).sublist qJ;refine Wz _ (λa b h=>h) (w6 (λ{a b} y hb x z=>?_) nd);exact x (by rw[(T8 f a y).1,(T8 f b hb).1,z])
theorem uX(f:Flow es st g r):∀s∈bX r,VV r s:=λs x=>by let#[y,h,e]:=QW.mp x;rw[<- e];exact(T8 f y h).2
theorem gK(f:Flow es st g r):out es st g r UA=(bX r).9/\(bX r).9<=st.length:=by have x:=re f;have h:=P3 f;unfold bX;rw[QF];exact#[x,h]
theorem EM{α x:Type}{P:α->x->Prop}{l:List α}{m:List x}(h:xm P l m):l.9=m.length:=qP h
theorem ue(f:Flow es st g r)(C:FK es st)(F:st.9<=11){ks:List Pt}{vs:List D}(W:CF r ks vs)(hk:∀p,p∈ks↔Rch r p)(q:tO g∉ks){cs ds:List (LS)}(Y:xm (λs c=>Run r g s c g) (bX r) cs)(j:ds.Perm cs){cut:LS}(w:cut.Perm (DN ks))(sc:i0 cut=kf):Good es st g ds cut:=by
 let#[J,I]:=aM f (ut f) (uX f) Y;let#[P,O]:=gK f;have N:=BU f W.nd hk q;have M:(DN ks).9=(ks.filter (pH ks)).length:=by unfold DN;rw[QF]
 have L:=EM Y;have u:∀s,s∈DN ks↔tO s∈ks/\fR s∉ks:=λs=>by unfold DN;rw[QW];constructor;rintro⟨y,B,e⟩;let#[v,x]:=Qb.mp B;let#[n,X,k]:=vE.mp x;subst X;have e:n=s:=e;subst e;exact#[v,k];rintro⟨v,x⟩;exact#[tO s,Qb.mpr #[v,vE.mpr #[s,rfl,x]],rfl]
 have l:(DN ks).Nodup:=by unfold DN;refine Wz _ (λa b h=>h) (w6 (λ{a b} E hb A z=>?_) (W.nd.sublist (qJ (p:=pH ks))));let#[n,G,_]:=vE.mp (Qb.mp E).2;let#[m,X,_]:=vE.mp (Qb.mp hb).2;subst G X;have z:n=m:=z;exact A (by rw[z])
 have K:=w.length_eq;refine#[λc hc=>?_,SX j J,by rw[j.length_eq,K];omega,(),w.nodup_iff.mpr l,sc,λz=>q ((u g).mp (w.mem_iff.mp z)).1,?_,λs o=>?_];let#[s,o,i]:=I c (j.mem_iff.mp hc);have Z:=uX f s o;exact#[i.chn f Z,(i.nd f Z).1,i.ng];exact Xe f hk q λn v x=>w.mem_iff.mpr ((u n).mpr #[v,x]);have v:=((u s).mp (w.mem_iff.mp o)).1;have x:=bB.mp (RI f.toBase.dom f.toBase.bg ((hk _).mp v));rw[f.keys]at x;have k:=(Y8 C x).1;simp only[pr,tO,QAt,wC,QZ]at k;exact k.1
end
def oS(es:TC)(st:LS)(g:Str)(r:Rm)(h:List (D×D))(o5 o6:Option Sl):vA:=[bD (.list (es.map pr)),bD (.tuple (st.map j0)),bD (.str g),oW (gB r),bD (.dict h),o5,o6]
section
variable{Ψ:PEv}{Z:PEnds}{es:TC}{st:LS}{g:Str}{r:Rm}
section
variable{q:PT}{h:List (D×D)}{o6:Option Sl}
theorem ay(u:Ψ.sp "rooms_of"=BI)(z:Ψ.sp "points_reached"=zG)(y:es.9<=126)(x:st.9<=11)(k:∀ks vs,CF (yA es st g) ks vs->(∀p,p∈ks↔Rch (yA es st g) p)->pF Ψ q Z (oS es st g (yA es st g) (RC ks vs) kv kv)) :
  pF Ψ (.seq (.own 3 (.call "rooms_of" %[.var 0,.var 1,.var 2|1])) (.seq (.set 4 (.call "points_reached" %[.var 3|1])) q)) Z [bD (.list (es.map pr)),bD (.tuple (st.map j0)),bD (.str g),kv,kv,kv,kv]:=by
 have ok:=KT (g:=g) y x;delta oS at k;simp![↓kA (md:=[]) u rfl rfl,↓kA (md:=[.bor]) z rfl rfl];refine#[_,_,_,rfl,#[y,x],?_];simp![↓eS,↓kA (md:=[.bor]) z rfl rfl];refine#[_,_,rfl,#[(.inl rfl),ok.dom,ok.bg,ok.sz.1],λks vs hc hk=>?_];simp![↓ki];exact k ks vs hc hk
theorem sy(w:Ψ.sp "points_reached"=zG)(i:Ψ.sp "lay_chain"=ZQ){ks:List Pt}{vs:List D}(v:(yA es st g).9<=1000)(a:FK es st)(f:Flow es st g r)(j:CF r ks vs)(b:tO g∈ks)
  (k:∀z x y,Flow es st g z->out es st g z UA=out es st g r UA+1->CF z x y->(∀p,p∈x↔Rch z p)->Z.nx (oS es st g z (RC x y) kv kv)) :
  pF Ψ UC Z (oS es st g r (RC ks vs) kv kv):=by
 delta oS at k ⊢;delta UC;simp![X6,↓gH (md:=[]) i rfl rfl,↓kA (md:=[.bor]) w rfl rfl];refine#[(),#[_,_,_,_,_,_,rfl,#[v,a,f,j,b],λz u e=>#[_,rfl,?_]]];simp![↓eS,↓kA (md:=[.bor]) w rfl rfl];refine#[_,_,rfl,#[(.inl rfl),u.toBase.dom,u.toBase.bg,(by rw[u.toBase.len];exact v)],λx y hc hk=>?_];simp![↓ki];exact k z x y u e hc hk
theorem oy(w:Ψ.va "BEGIN"=jr (pr UA)){o5:Option Sl}(o:(yA es st g).9<=1000)(f:Flow es st g r)(k:pF Ψ q Z (oS es st g r h (bD (.list ((bX r).map j0))) o6)) :
  pF Ψ (.seq (.set 5 (.comp [] ["point"] (.nm 0) .val %[.idx (.var 3) (.glo "BEGIN")|1] (.cmp .Gt (.idx (.idx (.var 4) (.var 0)) (.glo "BEGIN")) (.int 0)) (.idx (.var 0) (.int 0)))) q) Z (oS es st g r h o5 o6):=by
 have s:=f.toBase.inn UA;delta oS at k ⊢;simp![↓tI,↓MH w];refine jF f.toBase.bg ?_;simp![↓ma,↓m5];have m:((lk r UA).map λe=>pr e.1).map T.d=((lk r UA).map λe=>e.1).map λp=>T.d (pr p):=by rw[Qa,Qa];rfl
 rw[m];refine oA (λp=>T.d (pr p)) (λ(p:Pt)=>T.d (.str p.1)) (λy=>decide (0<rm r y UA)) ((lk r UA).map λe=>e.1) [] _ (λx b R z=>?_) (by show 0+((lk r UA).map λe=>e.1).9<=_;rw[QF];omega) ?_;let#[e,i,j]:=QW.mp b;have n:aI r UA x:=tB.mpr #[e.2,by rw[<- j];exact i];have u:aI r x UA:=(f.adj _ _).mpr (DB ((f.adj _ _).mp n));have a:Key r x:=by rw[bB,f.keys];exact sB ((f.adj _ _).mp u)
 let#[v,hv]:=u;have ev:rm r x UA=v:=by unfold rm;rw[hv];rfl
 rw[ev]at z;simp![↓tI,↓MH w];refine jF a ?_;simp![↓LZ,↓MH w];refine pQ hv ?_;simp![↓CS];by_cases d:0<v;rw[dT d]at z ⊢;exact z;rw[dF d]at z ⊢;exact z;rw[Qi,pA (λp:Pt=>j0 p.1)];have l:((((lk r UA).map λe=>e.1).filter λy=>decide (0<rm r y UA)).map λp=>j0 p.1)=(bX r).map j0:=by unfold bX pv;rw[Qa];rfl
 rw[l];simp![↓zA];exact k
theorem ny(a:Ψ.sp "chain_from"=CI)(u:(yA es st g).9<=1000)(b:st.9<=11)(f:Flow es st g r)(k:∀cs,xm (λs c=>Run r g s c g) (bX r) cs->pF Ψ q Z (oS es st g r h (bD (.list ((bX r).map j0))) (bD (.list (cs.map ED))))) :
  pF Ψ (.seq (.set 6 (.comp [] ["first"] (.nm 0) .val %[.var 5|1] .nop (.call "chain_from" %[.var 4,.var 0,.var 3|1]))) q) Z (oS es st g r h (bD (.list ((bX r).map j0))) o6):=by
 have hl:=(gK f).2;delta oS at k ⊢;simp![↓zA];rw[<- pA j0 (bX r)];refine HP (λs c=>Run r g s c g) (λs=>T.d (.str s)) Vt (bX r) [] _ (λx z R w=>?_) (by show 0+(bX r).9<=_;omega) λcs v=>?_;simp![↓eS,↓kA (md:=[.bor]) a rfl rfl];refine#[_,_,_,_,_,rfl,#[u,f,(uX f x z)],λc y=>?_];simp![↓zA];exact w c y;rw[Qi];simp![↓Ny];exact k cs v
end
end
section
variable{es u:TC}{F sr z:LS}{x:Str}{n:Int}
noncomputable def FI:PSp where
 run:=λy Q _=>∃(es:TC) (st:LS) (g:Str),y=[.d (.list (es.map pr)),.d (.tuple (st.map j0)),.d (.str g)]/\(es.9<=126/\st.9<=11/\FK es st)/\∀h cut,Good es st g h cut->Q (.tup [.lst ((h.map ED).map T.d),.lst ((cut.map j0).map T.d)]) []
theorem Z7{Ψ:PEv}(S:Ψ.sp "rooms_of"=BI)(G:Ψ.sp "points_reached"=zG)(R:Ψ.sp "lay_chain"=ZQ)(P:Ψ.sp "chain_from"=CI)(C:Ψ.sp "full_names"=KQ)(O:Ψ.va "BEGIN"=jr (pr UA))(ds Q E)(h:FI.run ds Q E):Cz Ψ BG FI GG MF ds Q:=by
 let#[es,st,g,rfl,#[W,i,B],q]:=h;have K:kb=16777216:=qB;have j:(yA es st g).9<=1000:=(KT (g:=g) W i).sz.1;refine uA [bD (.list (es.map pr)),bD (.tuple (st.map j0)),bD (.str g),kv,kv,kv,kv] ?_;refine ay S G W i λo w H M=>?_;have b0:=gK (Fg (es:=es) (st:=st) (g:=g));delta oS;simp![↓zA];refine iI (λm Y=>∃r v b,(m:Int)+out es st g r UA=12/\Flow es st g r/\CF r v b/\(∀p,p∈v↔Rch r p)/\Y=oS es st g r (RC v b) kv kv) (12 - out es st g (yA es st g) UA).toNat #[yA es st g,o,w,(),Fg,H,M,rfl] ?_;rintro m Y ⟨r,v,b,em,f,y,hk,rfl⟩;have bd:=gK f;by_cases a:tO g∈v;have k:=λ(Z:PEnds) K=>sy (Ψ:=Ψ) (Z:=Z) G R j B f y a K;unfold oS at k;delta oS;simp![X6,↓jh y.len y.hb];refine#[(),?_];rw[dT a];refine k _ λI s l X e c' N=>#[m - 1,?_,I,s,l,?_,X,c',N,rfl]
 have:=gK X;omega;have:=gK X;omega;have A:pF Ψ %[.set 5 (.comp [] ["point"] (.nm 0) .val %[.idx (.var 3) (.glo "BEGIN")|1] (.cmp .Gt (.idx (.idx (.var 4) (.var 0)) (.glo "BEGIN")) (.int 0)) (.idx (.var 0) (.int 0))),.set 6 (.comp [] ["first"] (.nm 0) .val %[.var 5|1] .nop (.call "chain_from" %[.var 4,.var 0,.var 3|1])),.ret (.tup %[.bi .sorted %[.var 6|1],.call "full_names" %[.var 4|1]|1])|2] (eZ Q) (oS es st g r (RC v b) kv kv):=by refine oy O j f (ny P j i f λcs k=>?_);have lc:=EM k;have l3:=BU f y.nd hk a;delta oS;simp![↓kA (md:=[]) C rfl rfl];refine Br () λds J=>?_;simp![↓kA (md:=[]) C rfl rfl];refine#[_,_,rfl,#[y.len,y.hb,(QU (y.le f.toBase.dom f.toBase.bg) (by rw[f.toBase.len];exact j)),()],λcut L sc=>?_];simp![js];exact#[(),q ds cut (ue f B i y hk a k J L sc)]
 unfold oS at A;delta oS;simp![X6,↓jh y.len y.hb];refine#[(),?_];rw[dF a];exact A
def lX(es:TC)(F:LS):TC:=es.filter λe=>decide (e.1∈F)
theorem HR{e:Str×Str}:e∈lX es F↔e∈es/\e.1∈F:=by unfold lX;rw[Qb,q7]
def BL(es:TC)(sr:LS)(x:Str)(F:LS)(n:Int):Prop:=∃h:List (LS),MJ h/\(∀c∈h,Chn (lX es F) sr x c x)/\n<=(h.9:Int)
theorem Chn.sub{g:Str}(w:∀e∈es,e∈u)(v:∀s∈sr,s∈z){c:LS}{n:Str}(h:Chn es sr g c n):Chn u z g c n:=by
 induction h with|st a b=>exact .st (v _ a) b|go _ b c y=>exact .go y b (w _ c)
theorem BL.sub{w:LS}{v:Int}(j:∀e∈es,e∈u)(i:∀s∈sr,s∈z)(g:∀y∈F,y∈w)(k:v<=n)(h:BL es sr x F n):BL u z x w v:=by let#[p,a,c,l]:=h;refine#[p,a,λd f=>Chn.sub (λe b=>?_) i (c d f),QAm k l];let#[o,m]:=HR.mp b;exact HR.mpr #[j e o,g _ m]
theorem z8{cs:List (LS)}{cut:LS}(h:Good (lX es F) sr x cs cut):BL es sr x F n↔n<=(cs.9:Int):=by constructor;rintro⟨y,a,c,l⟩;have:=y4 a c h.led;rw[<- h.len]at this;exact QAm l (Int.ofNat_le.mpr this);exact λl=>#[cs,h.apart,λc hc=>(h.chn c hc).1,l]
inductive Held(es:TC)(sr:LS)(nd:List (Str×Int)):Str->Prop
 |see {x:Str}{n:Int}:(x,n)∈nd->x∈sr->Held es sr nd x
 |tell {x:Str}{n:Int}(F:LS):(x,n)∈nd->(∀y∈F,Held es sr nd y)->BL es sr x F n->Held es sr nd x
end
section
variable{es v:TC}{sr y:LS}{nd u:List (Str×Int)}
theorem O8{S:LS}(f:∀x∈S,Held es sr nd x)(e:∀x n,(x,n)∈nd->x∈sr->x∈S)(k:∀x n,(x,n)∈nd->x∉S->¬ BL es sr x S n)(x:Str):x∈S↔Held es sr nd x:=by
 refine#[f x,λh=>?_];induction h with|see a b=>exact e _ _ a b|@tell x n F a _ m w=>by_cases z:x∈S;exact z;exact Qe (m.sub (λ_ h=>h) (λ_ h=>h) w (Wa _)) (k x n a z)
theorem ze{x:Str}(h:Held es sr nd x):∃n,(x,n)∈nd:=by
 cases h with|see a _=>exact#[_,a]|tell _ a=>exact#[_,a]
end
noncomputable def XI:PSp where
 md:=[.fro,.fro,.shal]
 run:=λz Q _=>∃(x:TC) (h F:LS) (g:Str),z=[.d (.tuple (x.map pr)),.d (.tuple (h.map j0)),.lst ((F.map j0).map T.d),.d (.str g)]/\(x.9<=126/\h.9<=11/\FK x h)/\∀y cut,Good (lX x F) h g y cut->Q (.tup [.lst ((y.map ED).map T.d),.lst ((cut.map j0).map T.d)]) []
theorem Mc{Ψ:PEv}(w:Ψ.sp "apart_chains"=FI):aE Ψ FD XI CG GF:=by
 rintro _ Q _ ⟨h,u,F,g,rfl,⟨b,a,v⟩,q⟩;have k:(lX h F).9<=126:=QU (qI _ _) b;have z:FK (lX h F) u:=#[v.1,λe f=>v.2 e (HR.mp f).1]
 refine uA [bD (.tuple (h.map pr)),bD (.tuple (u.map j0)),jr (.bor (.lst ((F.map j0).map T.d))),bD (.str g)] ?_;delta FD;simp![↓kA (md:=[]) w rfl rfl];rw[<- pA pr h];refine oA (λp=>T.d (pr p)) (λ(p:Str×Str)=>T.d (pr p)) (λp=>decide (p.1∈F)) h [] _ (λx l R y=>?_) (by show 0+h.9<=_;omega) ?_;simp![↓CS,AL,pJ,VB,true_or];by_cases d:x.1∈F;rw[dT d]at y ⊢;exact y;rw[dF d]at y ⊢;exact y;rw[Qi,pA pr];simp![↓kA (md:=[]) w rfl rfl];refine#[_,_,_,rfl,#[k,a,z],λj cut i=>?_];simp![↓zA];exact q j cut i
section
variable{Ψ:PEv}{E:XE}{ρ:vA}{K:TK}{a b c h:PX}{ds:List D}{n m:Bool}{L:Bool->Prop}
def pq(x:T)(n:Bool)(Ψ:PEv)(b:PX)(E:XE)(ρ:vA)(K:TK):Prop:=sq (α:=Option Int) (fA x n) ρ (λρ R=>(pe Ψ b E).e ρ λu _ y=>cG u.er λo=>R o y) λu y=>kG (fA x n).vw kv u λz k=>K z k y
def SM(x:T)(Q:Option Int->Prop):Prop:=cG x.er Q
theorem R0{i:Int}{Q:Option Int->Prop}:SM (.d (.int i)) Q=Q (jr i):=rfl
theorem fj{x:T}{R:Option Int->vA->Prop}:sq (α:=Option Int) x ρ (λρ (R:Option Int->vA->Prop)=>R kv ρ) R=R kv ρ:=by unfold sq;split<;>rfl
theorem zY{j:Nat}:zB Ψ (.slc a .nop (.var j)) E ρ K=zB Ψ a E ρ λx n v=>pq x n Ψ (.var j) E v K:=by show(pe Ψ a E).e ρ (λx n v=>sq (α:=Option Int) (fA x n) v (λρ (R:Option Int->vA->Prop)=>R kv ρ) λl w=>sq (α:=Option Int) (fA x n) w (λρ R=>(pe Ψ (.var j) E).e ρ λu _ y=>cG u.er λo=>R o y) λu y=>kG (fA x n).vw l u λz k=>K z k y)=_;simp only[fj];rfl
theorem Bo{x:D}:pq (.d x) n Ψ b E ρ K=zB Ψ b E ρ λu _ y=>SM u λo=>zF (.d x) n kv o λz k=>K z k y:=by cases n<;>rfl
theorem Ye(a b:List D):(T.tup [.lst (a.map T.d),.lst (b.map T.d)]).er=.tuple [.list a,.list b]:=by show PyData.tuple [.list (ersT (a.map T.d)),.list (ersT (b.map T.d))]=_;rw[xB,xB]
theorem Uv{a b:List D}{m:Bool}{t:T}{R:T->Prop}:CA (.tup [.lst (a.map T.d),.lst (b.map T.d)]) kf t m R=CA (.d (.tuple [.list a,.list b])) kd t m R:=by
 have e:fA (.tup [.lst (a.map T.d),.lst (b.map T.d)]) kf=.d (.tuple [.list a,.list b]):=by show T.d (T.tup [.lst (a.map T.d),.lst (b.map T.d)]).er=_;rw[Ye]
 unfold CA;rw[e];rfl
end
section
variable{Ψ:PEv}{E:XE}{ρ:vA}{a c h:PX}{W:LT->Prop}{R:Option T->Prop}{C:LT->Prop}{xs:List (T×Bool)}{ds:List D}{n m:Bool}
section
variable{md:List Md}{ts:LT}{b:Bool}{t u:Str}
theorem OB{v:PX}{M:List (T×Bool)->vA->Prop}:RM Ψ (.acons a v) E (.fro::md) ρ M=zB Ψ a E ρ λx n z=>Ca x n Ψ v E md z λxs y=>M ((x,n)::xs) y:=rfl
theorem da{d:D}:KB (.fro::md) ((.d d,n)::xs) C=KB md xs λts=>C (.d d::ts):=by
 have e:XA (.fro::md) ((.d d,n)::xs) []=(XA md xs []).map (.d d::·):=by cases n<;>rfl
 unfold KB;rw[e,vF]
theorem Np:eI .val [(.lst ts,kd)] W=W ts:=by unfold eI ZB;exact lJ ts
theorem xu{m:List Bool}{x y:D}{v:fv}:NF Ψ E (b::m) [t,u] (.tp [0,1]) (.cmp v a c) h ρ (.d (.tuple [x,y])) R=pO Ψ (.cmp v a c) E (bD x::bD y::dC (b::m) (lockA ρ)) λk z=>if k=kf then zB Ψ h E z λy n _=>sC y n (R (jr y)) else R none:=GA
theorem Yy{m:List Bool}{x y:T}:NF Ψ E (b::m) [t,u] (.tp [0,1]) .nop h ρ (.tup [x,y]) R=zB Ψ h E (jr (.bor x)::jr (.bor y)::dC (b::m) (lockA ρ)) λy n _=>sC y n (R (jr y)):=GA
theorem jAj:mN ((.lst [],kf)::xs) C=mN xs λts=>C (.lst []::ts):=Hy (ds:=[])
theorem Sr{d:D}:ZD [.d d,.lst ts]=.tup [.d d,.lst ts]:=rfl
theorem Ot{i j:Int}{L:Bool->Prop}:UB .GtE (.d (.int i)) (.d (.int j)) L=L (decide (j<=i)):=rfl
end
end
noncomputable abbrev Rw:=Str×List (LS)
noncomputable def IJ(r:Rw):T:=.tup [.d (.str r.1),.lst ((r.2.map ED).map T.d)]
def KS(p:Str×Int):D:=.tuple [.str p.1,.int p.2]
def O3(es:TC)(sr:LS)(nd:List (Str×Int))(h:List Rw)(F:LS)(b:Bool)(o6 o7 o8:Option Sl):vA:=[bD (.tuple (es.map pr)),bD (.tuple (sr.map j0)),bD (.list (nd.map KS)),oW (.lst (h.map IJ)),oW (.lst ((F.map j0).map T.d)),bD (.bool b),o6,o7,o8]
section
variable{Ψ:PEv}{Z:PEnds}{es:TC}{sr:LS}{nd:List (Str×Int)}{q:PT}
section
variable{o5 o6 o7 o8:Option Sl}{h:List Rw}
noncomputable def cT(sr:LS)(nd:List (Str×Int)):List Rw:=(nd.filter λp=>decide (p.1∈sr)).map λp=>(p.1,[])
theorem Fx(hl:nd.9<=100){o4:Option Sl}(k:pF Ψ q Z [bD (.tuple (es.map pr)),bD (.tuple (sr.map j0)),bD (.list (nd.map KS)),oW (.lst ((cT sr nd).map IJ)),o4,o5,o6,o7,o8]) :
  pF Ψ (.seq (.own 3 (.comp [kd,kd,kd,kd,kd,kd,kf,kf] ["name","number"] (.tp [0,1]) .val %[.var 2|1] (.cmp .In (.var 0) (.var 3)) (.tup %[.var 0,.lst .anil|1]))) q) Z [bD (.tuple (es.map pr)),bD (.tuple (sr.map j0)),bD (.list (nd.map KS)),kv,o4,o5,o6,o7,o8]:=by
 simp![↓zA];rw[<- pA KS nd];refine oA (λp=>T.d (KS p)) (λ(p:Str×Int)=>IJ (p.1,[])) (λp=>decide (p.1∈sr)) nd [] _ (λx z R y=>?_) (by show 0+nd.9<=_;omega) ?_;let#[x,n]:=x;delta KS;simp![↓xu,AL,pJ,VB,true_or];by_cases d:x∈sr;rw[dT d]at y ⊢;simp![↓jAj,↓Sr];exact#[(),(),y];rw[dF d]at y ⊢;exact y;rw[Qi];have e:(nd.filter λp=>decide (p.1∈sr)).map (λp=>IJ (p.1,[]))=(cT sr nd).map IJ:=by unfold cT;rw[Qa];rfl
 rw[e];exact k
theorem Dx(hl:h.9<=100)(k:pF Ψ q Z [bD (.tuple (es.map pr)),bD (.tuple (sr.map j0)),bD (.list (nd.map KS)),oW (.lst (h.map IJ)),oW (.lst (((h.map λr=>r.1).map j0).map T.d)),o5,o6,o7,o8]) :
  pF Ψ (.seq (.own 4 (.comp [kd,kd,kd,kd,kd,kd,kf,kd,kf] ["name","chains"] (.tp [0,1]) .val %[.var 3|1] .nop (.var 0))) q) Z [bD (.tuple (es.map pr)),bD (.tuple (sr.map j0)),bD (.list (nd.map KS)),oW (.lst (h.map IJ)),kv,o5,o6,o7,o8]:=by
 simp![↓Np];refine NA IJ (λr=>T.d (.str r.1)) h [] _ (λx z R y=>?_) (by show 0+h.9<=_;omega) ?_;delta IJ;simp![↓Yy];exact y;rw[Qi,pA (λr:Rw=>j0 r.1)];have e:(h.map λr=>j0 r.1)=(h.map λr=>r.1).map j0:=by rw[Qa];rfl
 rw[e];exact k
theorem Bx(f:Ψ.sp "told_through"=XI){F:LS}{b:Bool}{x:Str}{n:Int}(a:es.9<=126)(k:sr.9<=11)(e:FK es sr)(j:h.9<=100)(i:F.9<=100)
  (w:x∈F->∀o8,Z.nx (O3 es sr nd h F b (bD (.str x)) (bD (.int n)) o8))
  (v:x∉F->¬ BL es sr x F n->∀o8,Z.nx (O3 es sr nd h F b (bD (.str x)) (bD (.int n)) o8))
  (u:x∉F->BL es sr x F n->∀cs o8,Z.nx (O3 es sr nd (h++[(x,cs)]) (F++[x]) kf (bD (.str x)) (bD (.int n)) o8)) :
  pF Ψ XC Z (O3 es sr nd h F b (bD (.str x)) (bD (.int n)) o8):=by
 delta O3 at w v u ⊢;delta XC;simp![AL,pJ,VB,true_or];by_cases d:x∈F;rw[dT d];exact w d _;rw[dF d];simp![↓OB,↓da,↓kA (md:=[.fro,.fro,.shal]) f rfl rfl];refine#[_,_,_,_,rfl,#[a,k,e],λcs cut g=>?_];have y:=z8 (n:=n) g;simp![↓Uv,↓vo,↓Ot,QF];by_cases c:n<=(cs.9:Int);rw[dT c];simp![↓zY,↓Bo,↓R0,↓Sr];rw[IR];refine#[(),(),by rw[QF,QF];omega,?_];have:=u d (y.mpr c) (cD cs kv (jr n)) (bD (.list (cs.map ED)));rw[QR,QR,QR]at this;exact this;rw[dF c];exact v d (λz=>c (y.mp z)) _
end
end
structure GI(es:TC)(sr:LS)(nd:List (Str×Int))(rs:List Rw)(F:LS):Prop where
 e:F=rs.map λr=>r.1
 ndp:F.Nodup
 held:∀x∈F,Held es sr nd x
 see:∀x n,(x,n)∈nd->x∈sr->x∈F
 non:∀r∈rs,r.1∈sr->r.2=[]
section
variable{es:TC}{sr:LS}{nd:List (Str×Int)}{u:List Rw}{F:LS}
theorem GI.len(g:GI es sr nd u F):F.9<=nd.length:=by
 have:=mR (ns:=nd.map λp=>p.1) g.ndp λs x=>by let#[n,h]:=ze (g.held s x);exact QW.mpr #[_,h,rfl]
 rw[QF]at this;exact this
theorem GI.rlen(g:GI es sr nd u F):u.9=F.length:=by rw[g.e,QF]
theorem Xx(h:(nd.map λp=>p.1).Nodup):GI es sr nd (cT sr nd) ((cT sr nd).map λr=>r.1):=by
 have e:((cT sr nd).map λr=>r.1)=(nd.filter λp=>decide (p.1∈sr)).map λp=>p.1:=by unfold cT;rw[Qa];rfl
 refine#[rfl,?_,λx y=>?_,λx n y v=>?_,λr z _=>?_];rw[e];exact h.sublist (qJ.map _);rw[e]at y;let#[p,w,rfl]:=QW.mp y;let#[a,k]:=Qb.mp w;exact .see (n:=p.2) a (qq k);rw[e];exact QW.mpr #[(x,n),Qb.mpr #[y,dT v],rfl];unfold cT at z;let#[p,_,rfl]:=QW.mp z;rfl
theorem GI.add(g:GI es sr nd u F){x:Str}{n:Int}(w:(x,n)∈nd)(f:x∉F)(m:BL es sr x F n)(cs:List (LS)):GI es sr nd (u++[(x,cs)]) (F++[x]):=by
 refine#[by rw[QR,<- g.e];rfl,qW.mpr #[g.ndp,Ql.mpr #[λz=>(nomatch z),Q7],λa j b hb e=>?_],λy v=>?_,λy k v h=>Qm _ (g.see y k v h),λr i h=>?_];rw[QJ.mp hb]at e;exact f (e▸j);rcases Qf.mp v with z|z
 ·exact g.held y z
 rw[QJ.mp z];exact .tell F w g.held m;rcases Qf.mp i with z|z
 ·exact g.non r z h
 rw[QJ.mp z]at h;exact Qe (g.see x n w h) f
end
def HI:PSp where
 run:=λu Q _=>∃(y:TC) (h:LS) (nd:List (Str×Int)),u=[.d (.tuple (y.map pr)),.d (.tuple (h.map j0)),.d (.list (nd.map KS))]/\(y.9<=126/\h.9<=11/\FK y h/\nd.9<=90/\(nd.map λp=>p.1).Nodup)/\∀z F,GI y h nd z F->(∀x,x∈F↔Held y h nd x)->Q (.lst (z.map IJ)) []
theorem B0{es:TC}{sr:LS}{nd:List (Str×Int)}{K:T->LT->Prop}{E:XE}(l:es.9<=126/\sr.9<=11/\FK es sr/\nd.9<=90/\(nd.map λp=>p.1).Nodup)(q:∀h F,GI es sr nd h F->(∀x,x∈F↔Held es sr nd x)->K (.lst (h.map IJ)) []):mL HI [.d (.tuple (es.map pr)),.d (.tuple (sr.map j0)),.d (.list (nd.map KS))] K E:=#[es,sr,nd,rfl,l,q]
section
variable{Ψ:PEv}{Z:PEnds}{es:TC}{sr:LS}{nd:List (Str×Int)}{u:List Rw}{F:LS}
theorem Ux(L:Ψ.sp "told_through"=XI)(G:es.9<=126)(E:sr.9<=11)(J:FK es sr)(O:nd.9<=90){b:Bool}{o6 o7 o8:Option Sl}(g:GI es sr nd u F)
  (k:∀v w a o6 o7 o8,GI es sr nd v w->F.9<=w.9->(a=kf->F.9<w.9)->(a=kd->∀x n,(x,n)∈nd->x∉w->¬ BL es sr x w n)->Z.nx (O3 es sr nd v w a o6 o7 o8)) :
  pF Ψ VC Z (O3 es sr nd u F b o6 o7 o8):=by
 delta O3;delta VC;simp![↓zA];rw[<- pA KS nd];refine HA (λ(p:Str×Int)=>T.d (KS p)) (λl r=>∃v w a o6 o7 o8,GI es sr nd v w/\(∀p∈l,p∈nd)/\F.9<=w.9/\(a=kf->F.9<w.9)/\(a=kd->∀x n,(x,n)∈nd->(x,n)∈l∨x∈w∨¬ BL es sr x w n)/\r=O3 es sr nd v w a o6 o7 o8) ?_ ?_ _ _ #[u,F,kd,_,_,_,g,λ_ z=>z,QV _,λz=>(nomatch z),λ_ x n h=>.inl h,rfl];rintro r ⟨v,w,a,B,A,K,f,_,q,o,j,rfl⟩;exact k v w a _ _ _ f q o λhb x n Y i=>((j hb x n Y).resolve_left λz=>(nomatch z)).resolve_left i;rintro⟨x,n⟩ l r N W ⟨v,w,a,B,A,K,f,m,q,o,j,rfl⟩;have Y:=m _ QD;have s:∀p∈l,p∈nd:=λp I=>m p (QE _ I);have Q:=f.len;have P:=f.rlen;refine xF.mk rfl ?_;refine Bx (x:=x) (n:=n) L G E J () () (λi o8=>W _ #[v,w,a,_,_,_,f,s,q,o,λhb y k X=>?_,rfl]) (λi nm o8=>W _ #[v,w,a,_,_,_,f,s,q,o,λhb y k X=>?_,rfl]) λi C M o8=>W _ #[_,_,kf,_,_,_,f.add Y i C M,s,?_,λ_=>?_,λz=>(nomatch z),rfl];rcases j hb y k X with z|z
 ·rcases QL.mp z with e|z
  ·cases e
   exact .inr (.inl i)
  exact .inl z
 exact .inr z;rcases j hb y k X with z|z
 ·rcases QL.mp z with e|z
  ·cases e
   exact .inr (.inr nm)
  exact .inl z
 exact .inr z;rw[QI,qO];omega;rw[QI,qO];omega
end
theorem K7{Ψ:PEv}(p:Ψ.sp "told_through"=XI):aE Ψ UG HI FG LF:=by
 rintro _ Q _ ⟨es,sr,nd,rfl,⟨i,f,l,e,o⟩,q⟩;refine uA [bD (.tuple (es.map pr)),bD (.tuple (sr.map j0)),bD (.list (nd.map KS)),kv,kv,kv,kv,kv,kv] ?_;have g0:=Xx (es:=es) (sr:=sr) o;have K:=g0.len;have W:=g0.rlen;refine Fx () (Dx () ?_);simp![↓zA];refine iI (λm u=>∃h F b o6 o7 o8,m=2 * (nd.9 - F.9)+(if b=kf then 1 else 0)/\GI es sr nd h F/\(b=kd->∀x n,(x,n)∈nd->x∉F->¬ BL es sr x F n)/\u=O3 es sr nd h F b o6 o7 o8) _ #[_,_,kf,kv,kv,kv,rfl,g0,λz=>(nomatch z),rfl] ?_;rintro m u ⟨h,F,b,o6,o7,o8,k,g,r,rfl⟩;cases b with
 |true =>
  have v:=λ(Z:PEnds) j=>Ux (Ψ:=Ψ) (Z:=Z) (b:=kf) (o6:=o6) (o7:=o7) (o8:=o8) p i f l e g j;unfold O3 at v;delta O3;simp![↓zA];refine v _ λy Y a o6 o7 o8 w A X s=>#[_,?_,y,Y,a,o6,o7,o8,rfl,w,s,rfl]
  have:=w.len;cases a with|true=>have:=X rfl;rw[k,Qc rfl];omega|false=>rw[k,Qc rfl,QB QG];omega
 |false=>delta O3;simp![↓zA];exact q h F g λx=>O8 g.held g.see (r rfl) x
noncomputable def yH(p:Str×Int×Int×Int):D:=.tuple [.str p.1,.int p.2.1,.int p.2.2.1,.int p.2.2.2]
inductive Evt where
 |see (t:Int) (p m w:Str)|tell (t:Int) (a b m w:Str) (by_:LS)
noncomputable def PD:Evt->D
 | .see t p m w=>.tuple [.str "see",.int t,.str p,.str m,.str w]|.tell t a b m w q=>.tuple [.str "tell",.int t,.str a,.str b,.str m,.str w,.tuple (q.map j0)]
structure Wd where
 ps:List (Str×Int×Int×Int)
 ms:LS
 ag:TC
 es:List Evt
def wD(w:Wd):D:=.tuple [.list (w.ps.map yH),.list (w.ms.map j0),.list (w.ag.map pr),.list (w.es.map PD)]
section
variable{w:Wd}{p:Str×Int×Int×Int}{n m:Bool}{R:T->Prop}
theorem OA{ds:List D}{i:Nat}{d:D}(h:ds[i]?=jr d):CA (.d (.tuple ds)) n (.d (.int (i:Int))) m R=R (.d d):=by rw[T4,show AC ds (i:Int)=jr d from lD h,GA]
theorem N4:CA (.d (wD w)) n (.d (.int 0)) m R=R (.d (.list (w.ps.map yH))):=OA (i:=0) rfl
theorem Ni:CA (.d (wD w)) n (.d (.int 1)) m R=R (.d (.list (w.ms.map j0))):=OA (i:=1) rfl
theorem Xv:CA (.d (wD w)) n (.d (.int 2)) m R=R (.d (.list (w.ag.map pr))):=OA (i:=2) rfl
theorem OJ:CA (.d (wD w)) n (.d (.int 3)) m R=R (.d (.list (w.es.map PD))):=OA (i:=3) rfl
theorem E4:CA (.d (yH p)) n (.d (.int 0)) m R=R (.d (.str p.1)):=OA (i:=0) rfl
theorem Fv:CA (.d (yH p)) n (.d (.int 1)) m R=R (.d (.int p.2.1)):=OA (i:=1) rfl
theorem Dv:CA (.d (yH p)) n (.d (.int 2)) m R=R (.d (.int p.2.2.1)):=OA (i:=2) rfl
theorem Cv:CA (.d (yH p)) n (.d (.int 3)) m R=R (.d (.int p.2.2.2)):=OA (i:=3) rfl
end
def JO(w:Wd):List (Str×Int):=w.ps.map λp=>(p.1,p.2.2.2)
def jW:PSp where
 run:=λh Q _=>∃w:Wd,h=[.d (wD w)]/\w.ps.9<=90/\Q (.lst (((JO w).map KS).map T.d)) []
theorem Mk{Ψ:PEv}:aE Ψ dI jW cO RK:=by
 rintro _ Q _ ⟨w,rfl,l,q⟩;refine uA [bD (wD w)] ?_;delta dI;simp![↓N4];rw[<- pA yH];refine NA (λp=>T.d (yH p)) (λp=>T.d (KS (p.1,p.2.2.2))) w.ps [] _ (λx y R h=>?_) (by show 0+w.ps.9<=_;omega) ?_;simp![↓E4,↓Cv];exact#[(),h];rw[Qi,pA λp:Str×Int×Int×Int=>KS (p.1,p.2.2.2)];have e:(w.ps.map λp=>KS (p.1,p.2.2.2))=(JO w).map KS:=by unfold JO;rw[Qa];rfl
 rw[e];exact q
noncomputable def eE(es:TC)(sr:LS):D:=.tuple [.tuple (sr.map j0),.tuple (es.map pr)]
section
variable{es:TC}{sr:LS}{n m:Bool}{R:T->Prop}
theorem Ov:CA (.d (eE es sr)) n (.d (.int 0)) m R=R (.d (.tuple (sr.map j0))):=OA (i:=0) rfl
theorem Nv:CA (.d (eE es sr)) n (.d (.int 1)) m R=R (.d (.tuple (es.map pr))):=OA (i:=1) rfl
end
def DL:PSp where
 run:=λz Q _=>∃(w:Wd) (y:TC) (h:LS),z=[.d (wD w),.d (eE y h)]/\(y.9<=126/\h.9<=11/\FK y h/\w.ps.9<=90/\(w.ps.map λp=>p.1).Nodup)/\∀l:LS,(∀x,x∈l↔Held y h (JO w) x)->l.9<=90->Q (.lst ((l.map j0).map T.d)) []
theorem Mp{ts:LT}{W:LT->Prop}:eI .val [(.lst ts,kf)] W=W ((ersT ts).map T.d):=lJ _
theorem Sm(r:Rw):(IJ r).er=.tuple [.str r.1,.list (ersT ((r.2.map ED).map T.d))]:=rfl
theorem Sc{Ψ:PEv}(l:Ψ.sp "ground_alone"=HI)(j:Ψ.sp "needs_of"=jW):aE Ψ KF DL BJ ZH:=by
 rintro _ Q _ ⟨w,m,z,rfl,⟨a,k,b,y,nd⟩,q⟩;have v:(JO w).9<=90:=by unfold JO;rw[QF];exact y
 have u:((JO w).map λp=>p.1).Nodup:=by unfold JO;rw[Qa];exact nd
 refine uA [bD (wD w),bD (eE m z)] ?_;delta KF;simp![↓Ov,↓Nv,↓kA (md:=[]) l rfl rfl,↓kA (md:=[]) j rfl rfl];refine#[_,rfl,y,?_];simp![↓zA];refine B0 #[a,k,b,v,u] λh F g i=>?_;rw[Mp];have fl:=g.len;have rl:h.9=F.length:=by rw[g.e,QF]
 rw[TR,Qa,Qa];refine#[rfl,?_];refine NA (λr=>T.d (IJ r).er) (λr=>T.d (.str r.1)) h [] _ (λx n R f=>?_) (by show 0+h.9<=_;omega) ?_;rw[Sm];simp![↓zA];exact f;rw[Qi,pA (λr:Rw=>j0 r.1)];have e:(h.map λr=>j0 r.1)=F.map j0:=by rw[g.e,Qa];rfl
 rw[e];exact q F i ()
noncomputable def KA(evs:List Evt)(n:Nat):Evt:=(evs[n]?).getD (.see 0 "" "" "")
def jD(e:Evt):Prop:=∃t a b m w q,e=.tell t a b m w q
def Fa:Evt->Str
 | .see _ _ m _=>m|.tell _ _ _ m _ _=>m
noncomputable def AD:Evt->Str×Str
 | .see _ p m _=>(p,m)|.tell _ a b _ _ _=>(a,b)
def nD(n:Nat):D:=.int (n:Int)
theorem NH{evs:List Evt}{i:Nat}{n m:Bool}{R:T->Prop}(h:i<evs.9):CA (.d (.list (evs.map PD))) n (.d (nD i)) m R=R (.d (PD (KA evs i))):=by delta nD;rw[Oa,show AC (evs.map PD) (i:Int)=jr (PD (KA evs i)) from lD (by rw[Qd,Qk h];unfold KA;rw[Qk h];rfl),GA]
section
variable{e:Evt}{n m:Bool}{R:T->Prop}
theorem P4(h:jD e):CA (.d (PD e)) n (.d (.int 2)) m R=R (.d (.str (AD e).1)):=by let#[t,a,b,x,w,q,rfl]:=h;exact OA (i:=2) rfl
theorem O4(h:jD e):CA (.d (PD e)) n (.d (.int 3)) m R=R (.d (.str (AD e).2)):=by let#[t,a,b,x,w,q,rfl]:=h;exact OA (i:=3) rfl
theorem bf(h:jD e):CA (.d (PD e)) n (.d (.int 4)) m R=R (.d (.str (Fa e))):=by let#[t,a,b,x,w,q,rfl]:=h;exact OA (i:=4) rfl
end
section
variable{Ψ:PEv}{ks:List Pt}{L:Bool->Prop}
theorem gg{ds:List D}{Q:T->Bool->Prop}:RL .tuple [(.lst (ds.map T.d),kf)] Q=Q (.d (.tuple ds)) false:=by unfold RL ZB;show BZ .tuple [.ls ((ersT (ds.map T.d)).map T.d)] Q=_;rw[xB,vh];exact qs #[λ#[_,e,q]=>by rw[gA]at e;cases e;exact q,λq=>#[_,gA _,q]]
def bI(evs:List Evt)(h:LN)(m:Str):TC:=(h.filter λn=>decide (Fa (KA evs n)=m)).map λn=>AD (KA evs n)
def VQ:PSp where
 run:=λy Q _=>∃(h:List Evt) (x:LN) (m:Str),y=[.d (.list (h.map PD)),.d (.list (x.map nD)),.d (.str m)]/\x.9<=100/\(∀n∈x,n<h.9/\jD (KA h n))/\Q (.d (.tuple ((bI h x m).map pr))) []
theorem xl:aE Ψ pI VQ mO yL:=by
 rintro _ Q _ ⟨h,y,m,rfl,l,a,q⟩;refine uA [bD (.list (h.map PD)),bD (.list (y.map nD)),bD (.str m),kv] ?_;delta pI;simp![↓zA];rw[<- pA nD];refine oA (λn=>T.d (nD n)) (λn=>T.d (PD (KA h n))) (λn=>decide (Fa (KA h n)=m)) y [] _ (λx v R u=>?_) (by show 0+y.9<=_;omega) ?_;simp![↓NH (a x v).1,↓bf (a x v).2];split at u;rename_i c;rw[Qc c];exact u;rename_i c;rw[QB c];exact u;rw[Qi,pA λn=>PD (KA h n)];simp![↓zA];rw[<- pA λn=>PD (KA h n)];refine NA (λn=>T.d (PD (KA h n))) (λn=>T.d (pr (AD (KA h n)))) _ [] _ (λx v R u=>?_) (by show 0+(List.filter _ y).9<=_;have:=qI (λn=>decide (Fa (KA h n)=m)) y;omega) ?_;have z:=(Qb.mp v).1;simp![↓P4 (a x z).2,↓O4 (a x z).2];exact#[(),u];rw[Qi,pA λn=>pr (AD (KA h n)),gg];have e:((y.filter λn=>decide (Fa (KA h n)=m)).map λn=>pr (AD (KA h n)))=(bI h y m).map pr:=by unfold bI;rw[Qa];rfl
 rw[e];simp![↓zA];exact q
noncomputable def MK(w:Wd)(x:Str):LJ:=(w.ps.filter λp=>decide (p.1=x)).map λp=>p.2.1
def YQ:PSp where
 run:=λh Q _=>∃(w:Wd) (x:Str) (r:Int),h=[.d (wD w),.d (.str x)]/\w.ps.9<=90/\(MK w x)[0]?=jr r/\Q (.d (.int r)) []
theorem Oc:aE Ψ rK YQ uQ UM:=by
 rintro _ Q _ ⟨w,x,r,rfl,l,a,q⟩;refine uA [bD (wD w),bD (.str x)] ?_;delta rK;simp![↓N4];rw[<- pA yH];refine oA (λp=>T.d (yH p)) (λp=>T.d (.int p.2.1)) (λp=>decide (p.1=x)) w.ps [] _ (λp z R h=>?_) (by show 0+w.ps.9<=_;omega) ?_;simp![↓E4,↓Fv];split at h;rename_i c;rw[Qc c];exact h;rename_i c;rw[QB c];exact h;rw[Qi,pA λp:Str×Int×Int×Int=>j1 p.2.1];have e:((w.ps.filter λp=>decide (p.1=x)).map λp=>j1 p.2.1)=(MK w x).map j1:=by unfold MK;rw[Qa];rfl
 rw[e];have y:AC ((MK w x).map j1) 0=jr (.int r):=lD (j:=0) (by rw[Qd,a];rfl);simp![y];exact q
noncomputable def pG(w:Wd)(x:Str):LJ:=(w.ps.filter λp=>decide (p.1=x)).map λp=>p.2.2.1
def mM:PSp where
 run:=λh Q _=>∃(w:Wd) (x:Str) (r:Int),h=[.d (wD w),.d (.str x)]/\w.ps.9<=90/\(pG w x)[0]?=jr r/\Q (.d (.int r)) []
theorem J7:aE Ψ oI mM lO jL:=by
 rintro _ Q _ ⟨w,x,r,rfl,l,a,q⟩;refine uA [bD (wD w),bD (.str x)] ?_;delta oI;simp![↓N4];rw[<- pA yH];refine oA (λp=>T.d (yH p)) (λp=>T.d (.int p.2.2.1)) (λp=>decide (p.1=x)) w.ps [] _ (λp z R h=>?_) (by show 0+w.ps.9<=_;omega) ?_;simp![↓E4,↓Dv];split at h;rename_i c;rw[Qc c];exact h;rename_i c;rw[QB c];exact h;rw[Qi,pA λp:Str×Int×Int×Int=>j1 p.2.2.1];have e:((w.ps.filter λp=>decide (p.1=x)).map λp=>j1 p.2.2.1)=(pG w x).map j1:=by unfold pG;rw[Qa];rfl
 rw[e];have y:AC ((pG w x).map j1) 0=jr (.int r):=lD (j:=0) (by rw[Qd,a];rfl);simp![y];exact q
noncomputable def NJ(ks:List Pt):T:=.dct kf (ks.map pr) (ks.map λ_=>T.d (.bool kf))
noncomputable def jO(ks:List Pt)(p:Pt):List Pt:=if p∈ks then ks else ks++[p]
theorem lV(ks:List Pt)(p:Pt):(jO ks p).9<=ks.9+1:=by unfold jO;split;omega;simp
theorem gP{α h:Type}(c:h):∀(l:List α) (n:Nat),(l.map λ_=>c).set n c=l.map λ_=>c
 |[],_=>rfl|_::_,0=>rfl|x::l,n+1=>by show c::(l.map λ_=>c).set n c=_;rw[gP c l n];rfl
theorem Vf{p:Pt}{Q:T->Prop}(hl:ks.9<kb)(q:Q (NJ (jO ks p))):Uf (NJ ks) (.d (pr p)) (.d (.bool kf)) Q:=by
 refine#[jC p,by rw[QF];exact hl,?_];show Q (yK kf (ks.map pr) (ks.map λ_=>T.d (.bool kf)) (pr p) (.d (.bool kf)));unfold jO at q;unfold yK;by_cases c:p∈ks;rw[Qc c]at q;cases e:dA (ks.map pr) (pr p) with|none=>exact Qe (PQ.mpr c) (vB.mp e)|some n=>show Q (.dct kf (ks.map pr) ((ks.map λ_=>T.d (.bool kf)).set n (.d (.bool kf))));rw[gP];exact q
 rw[QB c]at q;rw[vB.mpr λz=>c (PQ.mp z)];unfold NJ at q;rw[QR,QR]at q;exact q
theorem Ht{q:Pt}:UB .In (.d (pr q)) (NJ ks) L=L (decide (q∈ks)):=by unfold NJ;rw[B9,rJ];exact qs #[λh=>h.2,λh=>#[jC q,h]]
theorem Xn{q:Pt}:UB .NotIn (.d (pr q)) (NJ ks) L=L (!decide (q∈ks)):=by unfold NJ;rw[RN,rJ];exact qs #[λh=>h.2,λh=>#[jC q,h]]
def yC(evs:List Evt)(ks:List Pt)(n:Nat):List Pt:=match KA evs n with
 | .see _ p m _=>jO ks (p,m)|_=>ks
def fB(evs:List Evt)(l:LN):List Pt:=l.foldl (yC evs) []
noncomputable def YV:Evt->Str
 | .see _ _ _ _=>"see"|.tell _ _ _ _ _ _=>"tell"
end
section
variable{e:Evt}{n m:Bool}{R:T->Prop}{t:Int}{p h w:Str}
theorem PJ:CA (.d (PD e)) n (.d (.int 0)) m R=R (.d (.str (YV e))):=by cases e;exact OA (i:=0) rfl;exact OA (i:=0) rfl
theorem gf:CA (.d (PD (.see t p h w))) n (.d (.int 2)) m R=R (.d (.str p)):=OA (i:=2) rfl
theorem A4:CA (.d (PD (.see t p h w))) n (.d (.int 3)) m R=R (.d (.str h)):=OA (i:=3) rfl
end
section
variable{Ψ:PEv}{ks z:List Pt}{a b:Str}{L:Bool->Prop}{ns:LJ}
theorem BD{c a b:Prop}[Decidable c](h:¬ c)(q:b):if c then a else b:=by rw[QB h];exact q
def Yw(evs:List Evt)(l:LN)(ks:List Pt)(o3:Option Sl):vA:=[bD (.list (evs.map PD)),jr (.bor (.lst (l.map λn=>T.d (nD n)))),oW (NJ ks),o3]
def UI:PSp where
 md:=[.fro,.shal]
 run:=λx Q _=>∃(h:List Evt) (l:LN),x=[.d (.list (h.map PD)),.lst ((l.map nD).map T.d)]/\l.9<=100/\(∀n∈l,n<h.9)/\Q (NJ (fB h l)) []
theorem Nc:aE Ψ sF UI VJ iH:=by
 rintro _ Q _ ⟨h,l,rfl,hl,j,q⟩;refine uA [bD (.list (h.map PD)),jr (.bor (.lst ((l.map nD).map T.d))),kv,kv] ?_;delta sF;simp![↓zA];rw[<- pA nD];refine HA (λn=>T.d (nD n)) (λr y=>∃ks u,r.foldl (yC h) ks=fB h l/\ks.9+r.9<=100/\(∀n∈r,n<h.9)/\y=Yw h l ks u) ?_ ?_ l _ #[[],kv,rfl,by simpa using hl,j,rfl];rintro y ⟨ks,u,e,_,_,rfl⟩;have e:ks=fB h l:=e;subst e;delta Yw;simp![↓zA];exact q;rintro n r y N i ⟨ks,u,e,hk,k,rfl⟩;have g:ks.9+(r.9+1)<=100:=hk;have f:=k n QD;delta Yw;delta eG;simp![↓NH f,↓PJ];have e:r.foldl (yC h) (yC h ks n)=fB h l:=e;unfold yC at e;cases ev:KA h n with|see t p m w=>rw[ev]at e;simp![YV,↓gf,↓A4];rw[NH f,ev];simp![↓A4];exact#[(),Vf (p:=(p,m)) () (i _ #[jO ks (p,m),_,e,by have:=lV ks (p,m);omega,λx v=>k x (QE _ v),rfl])]|tell t a b m w o=>rw[ev]at e;refine BD (show decide ((QY "tell")=(QY "see"))≠kf by decide) ?_;exact i _ #[ks,_,e,(),λx v=>k x (QE _ v),rfl]
theorem dS:UB .In (.d (.tuple [.str a,.str b])) (NJ ks) L=L (decide ((a,b)∈ks)):=Ht (q:=(a,b))
theorem UZ:UB .NotIn (.d (.tuple [.str a,.str b])) (NJ ks) L=L (!decide ((a,b)∈ks)):=Xn (q:=(a,b))
noncomputable def RH(w:Wd)(ks:List Pt)(m:Str):LS:=(w.ps.filter λp=>decide ((p.1,m)∈ks)).map λp=>p.1
def iQ:PSp where
 md:=[.fro,.bor]
 run:=λh Q _=>∃(w:Wd) (ks:List Pt) (m:Str),h=[.d (wD w),NJ ks,.d (.str m)]/\w.ps.9<=90/\Q (.d (.tuple ((RH w ks m).map j0))) []
theorem Ck:aE Ψ cI iQ uO OK:=by
 rintro _ Q _ ⟨w,ks,m,rfl,l,q⟩;refine uA [bD (wD w),jr (.bor (NJ ks)),bD (.str m)] ?_;delta cI;simp![↓N4];rw[<- pA yH];refine oA (λp=>T.d (yH p)) (λp=>T.d (.str p.1)) (λp=>decide ((p.1,m)∈ks)) w.ps [] _ (λp x R h=>?_) (by show 0+w.ps.9<=_;omega) ?_;simp![↓E4,↓dS];refine#[(),?_];split at h;rename_i c;rw[Qc c];exact h;rename_i c;rw[QB c];exact h;rw[Qi,pA λp:Str×Int×Int×Int=>j0 p.1,gg];have e:((w.ps.filter λp=>decide ((p.1,m)∈ks)).map λp=>j0 p.1)=(RH w ks m).map j0:=by unfold RH;rw[Qa];rfl
 rw[e];simp![↓zA];exact q
theorem gu{E:XE}{ρ:vA}{a c h:PX}{t u:Str}{x y:D}{w:fv}{R:Option T->Prop}:NF Ψ E [] [t,u] (.tp [0,1]) (.cmp w a c) h ρ (.d (.tuple [x,y])) R=pO Ψ (.cmp w a c) E (bD x::bD y::lockA ρ) λk v=>if k=kf then zB Ψ h E v λy n _=>sC y n (R (jr y)) else R none:=GA
theorem EY:∀{l:List D},(∀x∈l,x.canLay0=kf/\x.depth<=1)->wC l=kf/\ww l<=1
 |[],_=>by simp[wC,ww]|x::l,h=>by let#[w,e]:=h x QD;let#[u,k]:=EY (l:=l) λy v=>h y (QE _ v);simp only[wC,ww,w,u,Bool.and_self,true_and];omega
theorem Rk{l:List D}(h:∀x∈l,x.canLay0=kf/\x.depth<=1):BE (.list l):=by let#[y,u]:=EY h;refine#[?_,?_];simp only[QAt];exact y;simp only[QBY];omega
noncomputable def tL(w:Wd)(m:Str):LS:=(w.ag.filter λp=>decide (p.1=m)).map λp=>p.2
noncomputable def rL(w:Wd)(m:Str):LS:=(w.ag.filter λp=>decide (p.2=m)).map λp=>p.1
def OkS(a:Str):Prop:=qd a=kf
def Uo(h:T)(f:Pt->Bool):Prop:=∀a b (L:Bool->Prop),OkS a->OkS b->L (f (a,b))->UB .In (.d (.tuple [.str a,.str b])) h L
theorem Os(ks:List Pt):Uo (NJ ks) λq=>decide (q∈ks):=λa b L _ _ h=>by rw[dS];exact h
theorem Gk(h:∀p∈z,OkS p.1/\OkS p.2):BE (.list (z.map pr)):=Rk λx u=>by let#[p,y,rfl]:=QW.mp u;have q:=JD (h p y).1 (h p y).2;exact#[q.1,by simp[pr,QBY,ww]]
theorem G8(h:∀p∈z,OkS p.1/\OkS p.2):Uo (.d (.list (z.map pr))) λq=>decide (q∈z):=λa b L u hb q=>by
 refine#[.inr #[JD u hb,Gk h],?_];have e:((z.map pr).any λy=>Qo y (.tuple [.str a,.str b]))=decide ((a,b)∈z):=by rw[QAl,Q2,wZ,q7];constructor;rintro⟨p,x,e⟩;have e:Qo (pr p) (pr (a,b))=true:=e;rw[UN,q7]at e;exact e▸x;intro x;refine#[(a,b),x,?_];show Qo (pr (a,b)) (pr (a,b))=kf;rw[UN];exact dT rfl
 show L ((z.map pr).any λy=>Qo y (.tuple [.str a,.str b]));rw[e];exact q
def UQ:PSp where
 md:=[.fro,.bor]
 run:=λy Q _=>∃(w:Wd) (h:T) (f:Pt->Bool) (x m:Str),y=[.d (wD w),h,.d (.str x),.d (.str m)]/\(Uo h f/\OkS x/\∀p∈w.ag,OkS p.1/\OkS p.2)/\w.ag.9<=100/\Q (.d (.bool ((tL w m++rL w m).any λr=>f (x,r)))) []
theorem Jl:aE Ψ tE UQ HH bG:=by
 rintro _ Q _ ⟨w,v,f,x,m,rfl,⟨i,k,u⟩,l,q⟩;have Y:=qI (λp:Str×Str=>decide (p.1=m)) w.ag;have X:=qI (λp:Str×Str=>decide (p.2=m)) w.ag;have s:(tL w m).9<=100:=by unfold tL;rw[QF];omega
 have o:(rL w m).9<=100:=by unfold rL;rw[QF];omega
 refine uA [bD (wD w),jr (.bor v),bD (.str x),bD (.str m),kv] ?_;delta tE;simp![↓Xv];rw[<- pA pr w.ag];refine oA (λp=>T.d (pr p)) (λ(p:Str×Str)=>T.d (.str p.2)) (λp=>decide (p.1=m)) w.ag [] _ (λp e R y=>?_) (by show 0+w.ag.9<=_;omega) ?_;delta pr;simp![↓gu];split at y;rename_i c;rw[Qc c];exact y;rename_i c;rw[QB c];exact y;rw[Qi,pA λp:Str×Str=>j0 p.2];have n:((w.ag.filter λp=>decide (p.1=m)).map λp=>j0 p.2)=(tL w m).map j0:=by unfold tL;rw[Qa];rfl
 rw[n];refine oA (λp=>T.d (pr p)) (λ(p:Str×Str)=>T.d (.str p.1)) (λp=>decide (p.2=m)) w.ag [] _ (λp e R y=>?_) (by show 0+w.ag.9<=_;omega) ?_;delta pr;simp![↓gu];split at y;rename_i c;rw[Qc c];exact y;rename_i c;rw[QB c];exact y;rw[Qi,pA λp:Str×Str=>j0 p.1];have j:((w.ag.filter λp=>decide (p.2=m)).map λp=>j0 p.1)=(rL w m).map j0:=by unfold rL;rw[Qa];rfl
 rw[j,<- QR,<- QR];refine#[by rw[QF,QF,QF,QF];omega,?_];simp![↓zA];rw[<- pA j0];refine NA (λr=>T.d (.str r)) (λr=>T.d (.bool (f (x,r)))) (tL w m++rL w m) [] _ (λr e R y=>?_) (by show 0+(tL w m++rL w m).9<=_;rw[QI];omega) ?_;simp![↓zA];refine#[(),i _ _ _ k ?_ y];rcases Qf.mp e with h|h;let#[p,g,rfl]:=QW.mp h;exact(u p (Qb.mp g).1).2;let#[p,g,rfl]:=QW.mp h;exact(u p (Qb.mp g).1).1;rw[Qi,pA λr=>PyData.bool (f (x,r)),Lr];refine#[(tL w m++rL w m).map λr=>f (x,r),by rw[Qa];rfl,?_];rw[QAl];simp![↓zA];exact q
theorem Cr{n:Bool}{Q:T->Bool->Prop}(x:ns.9<64)(q:∀h:LJ,h.Perm ns->h.Pairwise (·<=·)->Q (.lst ((h.map j1).map T.d)) kf):RL .sorted [(.lst ((ns.map j1).map T.d),n)] Q:=by unfold RL ZB;rw[IB];exact .inr (.inr #[_,ns,rfl,gA _,x,q])
theorem Kd{l:LN}(h:ns.Perm (l.map λ(n:Nat)=>(n:Int)))(u:ns.Pairwise (·<=·)):∃y:LN,ns=y.map (λ(n:Nat)=>(n:Int))/\y.Perm l/\y.Pairwise (·<=·):=by
 have e:ns=(ns.map QDD).map λ(n:Nat)=>(n:Int):=by rw[Qa];refine(QDC ns).symm.trans (wW λx v=>?_);let#[n,_,rfl]:=QW.mp (h.mem_iff.mp v);rfl
 refine#[ns.map QDD,e,?_,?_];have:=h.map QDD;rw[Qa]at this;refine this.trans (QDB.of_eq ?_);exact(wW λn _=>rfl).trans (QDC l);rw[e]at u;exact(QCf.mp u).imp λh=>()
def mH(evs:List Evt)(h:LN)(ks:List Pt):LN:=h.filter λn=>!decide (((AD (KA evs n)).1,(AD (KA evs n)).2)∈ks)
def OG:PSp where
 md:=[.fro,.shal,.bor]
 run:=λu Q _=>∃(h:List Evt) (x:LN) (ks:List Pt),u=[.d (.list (h.map PD)),.lst ((x.map nD).map T.d),NJ ks]/\x.9<64/\(∀n∈x,n<h.9/\jD (KA h n))/\∀y:LN,y.Perm (mH h x ks)->y.Pairwise (·<=·)->Q (.lst ((y.map nD).map T.d)) []
theorem Rc:aE Ψ iF OG UJ YH:=by
 rintro _ Q _ ⟨h,x,ks,rfl,l,a,q⟩;refine uA [bD (.list (h.map PD)),jr (.bor (.lst ((x.map nD).map T.d))),jr (.bor (NJ ks))] ?_;delta iF;simp![↓zA];rw[<- pA nD];refine oA (λn=>T.d (nD n)) (λn=>T.d (nD n)) (λn=>!decide (((AD (KA h n)).1,(AD (KA h n)).2)∈ks)) x [] _ (λn u R v=>?_) (by show 0+x.9<=_;omega) ?_;simp![↓NH (a n u).1,↓P4 (a n u).2,↓O4 (a n u).2,↓UZ];refine#[(),?_];split at v;rename_i c;rw[Qc c];exact v;rename_i c;rw[QB c];exact v;rw[Qi,pA nD];have e:(mH h x ks).map nD=((mH h x ks).map λ(n:Nat)=>(n:Int)).map j1:=by rw[Qa];rfl
 have fl:=qI (λn=>!decide (((AD (KA h n)).1,(AD (KA h n)).2)∈ks)) x;show RL .sorted [(.lst (((mH h x ks).map nD).map T.d),kf)] _;rw[e];refine Cr (by rw[QF];unfold mH;omega) λf k w=>?_;let#[y,rfl,i,g]:=Kd k w;have j:(y.map λ(n:Nat)=>(n:Int)).map j1=y.map nD:=by rw[Qa];rfl
 rw[j];simp![↓zA];exact q y i g
def v5(w:Wd)(h:List Pt)(b m:Str):Bool:=!decide ((b,m)∈h)&&(tL w m++rL w m).any λr=>decide ((b,r)∈h)
def zM(w:Wd)(h ks:List Pt)(n:Nat):List Pt:=match KA w.es n with
 | .tell _ a b m _ _=>if v5 w h b m=kf then jO ks (a,b) else ks|_=>ks
def sO(w:Wd)(l:LN):List Pt:=l.foldl (zM w (fB w.es l)) []
def vi(w:Wd)(x:Str):Prop:=∃p∈w.ps,p.1=x
def jY(w:Wd):Evt->Prop
 | .see _ p m h=>vi w p/\m∈w.ms/\OkS h|.tell _ a b m h q=>vi w a/\vi w b/\m∈w.ms/\a≠b/\OkS h/\∀x∈q,vi w x
structure WOk(w:Wd):Prop where
 ag:∀p∈w.ag,OkS p.1/\OkS p.2
 al:w.ag.9<=100
 pl:w.ps.9<=11
 pn:(w.ps.map λp=>p.1).Nodup
 po:∀p∈w.ps,OkS p.1
 ml:w.ms.9<=10
 mo:∀m∈w.ms,OkS m
 mn:w.ms.Nodup
 el:w.es.9<=60
 eo:∀e∈w.es,jY w e
theorem WOk.ev{w:Wd}(h:WOk w){n:Nat}(x:n<w.es.9):jY w (KA w.es n):=by unfold KA;rw[Qk x];exact h.eo _ (wY x)
theorem WOk.nm{w:Wd}(h:WOk w){x:Str}(y:vi w x):OkS x:=by let#[p,u,rfl]:=y;exact h.po p u
end
section
variable{Ψ:PEv}{E:XE}{ρ:vA}{M:List (T×Bool)->vA->Prop}{a z:PX}{md:List Md}{d:D}{n m:Bool}{xs:List (T×Bool)}{C:LT->Prop}{R:T->Prop}{t:Int}{x b h y:Str}{q:LS}
theorem Cu{ks:List Pt}:Ca (NJ ks) kd Ψ z E md ρ M=RM Ψ z E md (lockA ρ) λxs _=>M xs ρ:=rfl
theorem BS:CA (.d (PD (.tell t x b h y q))) n (.d (.int 2)) m R=R (.d (.str x)):=OA (i:=2) rfl
theorem R4:CA (.d (PD (.tell t x b h y q))) n (.d (.int 3)) m R=R (.d (.str b)):=OA (i:=3) rfl
theorem kP:CA (.d (PD (.tell t x b h y q))) n (.d (.int 4)) m R=R (.d (.str h)):=OA (i:=4) rfl
end
section
variable{Ψ:PEv}{x:Str}{es:List Pt}{sr:LS}{u:Kn}
def Av(w:Wd)(l:LN)(ks:List Pt)(o4 o5:Option Sl):vA:=[bD (wD w),jr (.bor (.lst (l.map λn=>T.d (nD n)))),oW (NJ (fB w.es l)),oW (NJ ks),o4,o5]
def jG:PSp where
 md:=[.fro,.shal]
 run:=λh Q _=>∃(w:Wd) (l:LN),h=[.d (wD w),.lst ((l.map nD).map T.d)]/\WOk w/\l.9<=100/\(∀n∈l,n<w.es.9)/\Q (NJ (sO w l)) []
theorem d7(K:Ψ.sp "seen_among"=UI)(W:Ψ.sp "has_against"=UQ):aE Ψ mE jG DH vG:=by
 rintro _ Q _ ⟨w,l,rfl,k,hl,X,q⟩;refine uA [bD (wD w),jr (.bor (.lst ((l.map nD).map T.d))),kv,kv,kv,kv] ?_;delta mE;simp![↓OJ,↓kA (md:=[.fro,.shal]) K rfl rfl,↓OB,↓da];refine#[_,_,rfl,hl,X,?_];simp![↓zA];rw[<- pA nD];refine HA (λn=>T.d (nD n)) (λr i=>∃h o j,r.foldl (zM w (fB w.es l)) h=sO w l/\h.9+r.9<=100/\(∀n∈r,n<w.es.9)/\i=Av w l h o j) ?_ ?_ l _ #[[],kv,kv,rfl,by simpa using hl,X,rfl];rintro i ⟨h,o,j,e,_,_,rfl⟩;have e:h=sO w l:=e;subst e;delta Av;simp![↓zA];exact q;rintro n r i N f ⟨h,o,j,e,hk,z,rfl⟩;have Y:h.9+(r.9+1)<=100:=hk;have s:=z n QD;have v:=k.ev s;have e:r.foldl (zM w (fB w.es l)) (zM w (fB w.es l) h n)=sO w l:=e;unfold zM at e;delta Av;delta PF;simp![↓OJ,↓NH s,↓PJ];cases ev:KA w.es n with|see t p m Z=>rw[ev]at e;refine BD (show decide ((QY "see")=(QY "tell"))≠kf by decide) ?_;exact f _ #[h,_,_,e,(),λx y=>z x (QE _ y),rfl]|tell t a b m Z A=>rw[ev]at e v;let#[C,hb,B,_]:=v;simp![YV,↓BS,↓R4,↓kP,↓UZ,↓kA (md:=[.fro,.bor]) W rfl rfl,↓OB,↓da,↓Cu];refine#[(),?_];unfold v5 at e;by_cases c:(b,m)∈fB w.es l;simp![dT c];simp only[dT c,QAP,W5,Qw,if_false]at e;exact f _ #[h,_,_,e,(),λx y=>z x (QE _ y),rfl];simp![dF c];refine#[_,_,_,_,_,rfl,#[Os _,k.nm hb,k.ag],k.al,?_];simp![↓zA];by_cases g:((tL w m++rL w m).any λr=>decide ((b,r)∈fB w.es l))=kf;simp![g];simp only[dF c,g,WQ,WK,if_true]at e;exact#[(),Vf (p:=(a,b)) () (f _ #[jO h (a,b),_,_,e,by have:=lV h (a,b);omega,λx y=>z x (QE _ y),rfl])];rw[QB g];simp only[dF c,WQ,WK]at e;rw[QB g]at e;exact f _ #[h,_,_,e,(),λx y=>z x (QE _ y),rfl]
theorem Yd{y:List Pt}(h:∀p∈y,OkS p.1/\OkS p.2){a b:Str}{L:Bool->Prop}(z:OkS a)(hb:OkS b)(q:L (!decide ((a,b)∈y))):UB .NotIn (.d (.tuple [.str a,.str b])) (.d (.list (y.map pr))) L:=G8 h a b (λc=>L (!c)) z hb q
def oT(w:Wd)(x:Str):Int:=((MK w x)[0]?).getD 0
def ZN(w:Wd)(x:Str):Int:=((pG w x)[0]?).getD 0
theorem Hb{w:Wd}(h:vi w x):(MK w x)[0]?=jr (oT w x):=by
 let#[p,z,rfl]:=h;have y:p.2.1∈MK w p.1:=QW.mpr #[p,Qb.mpr #[z,dT rfl],rfl];unfold oT;cases e:MK w p.1 with|nil=>rw[e]at y;cases y|cons x r=>rfl
theorem j9{w:Wd}(h:vi w x):(pG w x)[0]?=jr (ZN w x):=by
 let#[p,z,rfl]:=h;have y:p.2.2.1∈pG w p.1:=QW.mpr #[p,Qb.mpr #[z,dT rfl],rfl];unfold ZN;cases e:pG w p.1 with|nil=>rw[e]at y;cases y|cons x r=>rfl
def jw(w:Wd)(wr h:List Pt):Evt->Bool
 | .see _ _ _ _=>kf|.tell _ a b m _ _=>decide ((a,m)∈h)&&!decide ((a,b)∈wr)&&decide (ZN w b<=oT w a)&&!((tL w m++rL w m).any λr=>decide ((b,r)∈h))
def uf(h:List Pt):Prop:=∀p∈h,OkS p.1/\OkS p.2
def nY:PSp where
 md:=[.fro,.fro,.bor,.fro]
 run:=λz Q _=>∃(w:Wd) (e:Evt) (y h:List Pt),z=[.d (wD w),.d (PD e),NJ y,.d (.list (h.map pr))]/\WOk w/\jY w e/\uf h/\Q (.d (.bool (jw w y h e))) []
theorem Kr(Y:Ψ.sp "rank_of"=YQ)(X:Ψ.sp "floor_of"=mM)(s:Ψ.sp "has_against"=UQ):aE Ψ ZF nY gO IK:=by
 rintro _ Q _ ⟨w,e,f,y,rfl,h,o,i,q⟩;refine uA [bD (wD w),bD (PD e),jr (.bor (NJ f)),bD (.list (y.map pr)),kv,kv,kv] ?_;cases e with|see t p m l=>delta ZF;simp![↓PJ,YV];exact q|tell t a b m l Z=>let#[j,hb,n,_]:=o;delta ZF;simp![↓PJ,YV];refine BD (show decide ((QY "tell")=(QY "see"))≠kf by decide) ?_;simp![↓BS,↓R4,↓kP,↓yf];refine#[(),Yd i (h.nm j) (h.mo _ n) ?_];have q:Q (.d (.bool (decide ((a,m)∈y)&&!decide ((a,b)∈f)&&decide (ZN w b<=oT w a)&&!((tL w m++rL w m).any λr=>decide ((b,r)∈y))))) []:=q;by_cases k:(a,m)∈y;simp![dT k,↓dS];rw[dT k]at q;refine#[(),?_];by_cases v:(a,b)∈f;simp![dT v];rw[dT v]at q;exact q;simp![dF v,↓kA (md:=[]) Y rfl rfl,↓kA (md:=[]) X rfl rfl];rw[dF v]at q;have g:w.ps.9<=90:=QU h.pl (by decide);refine#[_,_,_,rfl,g,(Hb j),?_];simp![↓zA];refine#[_,_,_,rfl,g,(j9 hb),?_];simp![↓Ot];by_cases z:ZN w b<=oT w a;simp![dT z,↓kA (md:=[.fro,.bor]) s rfl rfl,↓OB,↓da];rw[dT z]at q;refine#[_,_,_,_,_,rfl,#[G8 i,h.nm hb,h.ag],h.al,?_];simp![↓zA];exact q;simp![dF z];rw[dF z]at q;exact q;simp![dF k];rw[dF k]at q;exact q
noncomputable abbrev Kn:=List ((List Pt×LS)×LS)
def u3(u:Kn):List D:=u.map λx=>eE x.1.1 x.1.2
def gm(u:Kn):LT:=u.map λx=>T.d (.list (x.2.map j0))
def U4(u:Kn):T:=.dct kf (u3 u) (gm u)
def oO(w:Wd)(u:Kn):Prop:=∀x∈u,∀y,y∈x.2↔Held x.1.1 x.1.2 (JO w) y
theorem af:∀l:LS,tDs (l.map NK.s)=l.map j0
 |[]=>rfl|x::l=>by show j0 x::tDs (l.map NK.s)=_;rw[af l];rfl
theorem Jf:∀l:List Pt,tDs (l.map λp=>NK.t [.s p.1,.s p.2])=l.map pr
 |[]=>rfl|x::l=>by show pr x::tDs (l.map λp=>NK.t [.s p.1,.s p.2])=_;rw[Jf l];rfl
theorem Vr:∀l:LS,nkds (l.map NK.s)=0
 |[]=>rfl|x::l=>by show max 0 (nkds (l.map NK.s))=0;rw[Vr l];rfl
theorem Xr:∀l:List Pt,nkds (l.map λp=>NK.t [.s p.1,.s p.2])<=1
 |[]=>Qn _|x::l=>by show max 1 (nkds (l.map λp=>NK.t [.s p.1,.s p.2]))<=1;have:=Xr l;omega
theorem ZR(es:List Pt)(sr:LS):TD kf (eE es sr):=by refine#[[.t (sr.map NK.s),.t (es.map λp=>NK.t [.s p.1,.s p.2])],?_,?_];show _=PyData.tuple [.tuple (tDs (sr.map NK.s)),.tuple (tDs (es.map λp=>NK.t [.s p.1,.s p.2]))];rw[af,Jf];rfl;show max (nkds (sr.map NK.s)+1) (max (nkds (es.map λp=>NK.t [.s p.1,.s p.2])+1) 0)+1<=6;rw[Vr];have:=Xr es;omega
theorem Sa{v:List Pt}{z:LS}(h:eE es sr=eE v z):es=v/\sr=z:=by injection h with h;injection h with h1 h2;injection h2 with h2 _;injection h1 with h1;injection h2 with h2;refine#[(Wp λx y e=>?_).mp h2,(Wp λx y e=>?_).mp h1];injection e with e;injection e with e1 e2;injection e2 with e2 _;injection e1 with e1;injection e2 with e2;exact QC2 e1 e2;injection e
theorem cm{v:LS}{Q:T->Prop}(hl:u.9<kb)(h:dA (u3 u) (eE es sr)=kv)(q:Q (U4 (u++[((es,sr),v)]))):Uf (U4 u) (.d (eE es sr)) (.lst ((v.map j0).map T.d)) Q:=by refine#[ZR es sr,by unfold u3;rw[QF];exact hl,?_];show Q (yK kf (u3 u) (gm u) (eE es sr) (.d (.list (ersT ((v.map j0).map T.d)))));unfold yK;rw[h,xB];unfold U4 u3 gm at q;rw[QR,QR]at q;exact q
theorem Kg{k:Nat}(h:dA (u3 u) (eE es sr)=jr k):∃v,((es,sr),v)∈u/\(gm u)[k]?=jr (T.d (.list (v.map j0))):=by
 have e:=OC h;unfold u3 at e;unfold gm;rw[Qd]at e ⊢;cases z:u[k]? with|none=>rw[z]at e;cases e|some x=>rw[z]at e;let#[w,y]:=Sa (Qp e);let#[#[a,b],v]:=x;cases w;cases y;exact#[v,qZ z,rfl]
end
section
variable{Ψ:PEv}{E:XE}{ρ:vA}{K:TK}{M:List (T×Bool)->vA->Prop}{a b c i g:PX}{md:List Md}{m:Bool}{f:Kn}{es:List Pt}{sr:LS}{L:Bool->Prop}{R:T->Prop}
section
variable{u:List (Str×LS)}{w:Str}
theorem Me:UB .NotIn (.d (.tuple [.tuple (sr.map j0),.tuple (es.map pr)])) (U4 f) L=L (!(dA (u3 f) (eE es sr)).isSome):=by unfold U4;rw[RN];exact qs #[λh=>h.2,λh=>#[ZR es sr,h]]
theorem Mv{v:LS}{k:Nat}(h:dA (u3 f) (eE es sr)=jr k)(hv:(gm f)[k]?=jr (T.d (.list (v.map j0))))(q:R (.d (.list (v.map j0)))):CA (U4 f) kd (.d (.tuple [.tuple (sr.map j0),.tuple (es.map pr)])) m R:=.inr #[kf,_,_,k,_,rfl,ZR es sr,h,hv,q]
theorem jAg:Ba (U4 f) kd Ψ b E ρ K=zB Ψ b E (lockA ρ) λy m _=>K y m ρ:=rfl
noncomputable def G3(u:List (Str×LS)):T:=.dct kd (u.map λx=>.str x.1) (u.map λx=>T.d (.list (x.2.map j0)))
theorem jt{v:LS}{Q:T->Prop}(hl:u.9<kb)(h:w∉u.map λx=>x.1)(q:Q (G3 (u++[(w,v)]))):Uf (G3 u) (.d (.str w)) (.d (.list (v.map j0))) Q:=by refine#[#[w,rfl],by rw[QF];exact hl,?_];show Q (yK kd (u.map λx=>.str x.1) (u.map λx=>T.d (.list (x.2.map j0))) (.str w) (.d (.list (v.map j0))));unfold yK;rw[vB.mpr λz=>h (by let#[x,y,e]:=QW.mp z;injection e with e;exact QW.mpr #[x,y,e])];unfold G3 at q;rw[QR,QR]at q;exact q
theorem yt(h:w∈u.map λx=>x.1)(q:∀v,(w,v)∈u->R (.d (.list (v.map j0)))):CA (G3 u) kd (.d (.str w)) m R:=by
 cases e:dA (u.map λx=>j0 x.1) (.str w) with
 |none=>let#[x,l,j]:=QW.mp h;exact Qe (QW.mpr #[x,l,wy j0 j]) (vB.mp e)|some k =>
  have j:=OC e;rw[Qd]at j;cases z:u[k]? with|none=>rw[z]at j;cases j|some x=>rw[z]at j;have j:j0 x.1=.str w:=Qp j;injection j with j;let#[y,v]:=x;cases j;exact .inr #[kd,_,_,k,T.d (.list (v.map j0)),rfl,#[_,rfl],e,by rw[Qd,z];rfl,q v (qZ z)]
theorem jAh:Ba (G3 u) kd Ψ b E ρ K=zB Ψ b E (lockA ρ) λy m _=>K y m ρ:=rfl
theorem bu{v:Bool}{mk:List Bool}{t:Str}{x:T}{z:fv}{R:Option T->Prop}:NF Ψ E (v::mk) [t] (.nm 0) (.cmp z a c) g ρ x R=pO Ψ (.cmp z a c) E (jr (.bor x)::dC (v::mk) (lockA ρ)) λk h=>if k=kf then zB Ψ g E h λy n _=>sC y n (R (jr y)) else R none:=rfl
end
end
theorem ML{c a b:Prop}[Decidable c](h:c)(q:a):if c then a else b:=by rw[Qc h];exact q
def nV(w:Wd)(l h:LN)(m x:Str):Prop:=Held (bI w.es h m) (RH w (fB w.es l) m) (JO w) x
open Classical in
def Ao(w:Wd)(l h:LN)(x m:Str):Bool:=decide (nV w l h m x)
open Classical in
section
variable{Ψ:PEv}{Z:PEnds}{w:Wd}{l u:LN}{f:Kn}{g:List (Str×LS)}{m:Str}{o8 i o7:Option Sl}
theorem ke(w:Wd)(l u:LN)(x m:Str):Ao w l u x m=kf↔nV w l u m x:=by unfold Ao;exact q7
noncomputable def Bg(w:Wd)(l u:LN)(x:Str):List Pt:=(w.ms.filter (Ao w l u x)).map λm=>(x,m)
def iN(w:Wd)(l u:LN):List Pt:=w.ps.flatMap λp=>Bg w l u p.1
def aS(w:Wd)(u:LN):Prop:=u.9<=100/\∀n∈u,n<w.es.9/\jD (KA w.es n)
def oz(Q:T->LT->Prop):PEnds:={ nx:=λh=>nW (MA [3] h) (Q (.d .none)),rt:=λt h=>nW (MA [3] h) (Q t) }
def N3(w:Wd)(l u:LN)(f:Kn)(g:List (Str×LS))(o6 o7 o8 i:Option Sl):vA:=[bD (wD w),jr (.bor (.lst ((l.map nD).map T.d))),bD (.list (u.map nD)),oW (U4 f),oW (NJ (fB w.es l)),oW (G3 g),o6,o7,o8,i]
def Ta(w:Wd)(l u:LN)(m:Str):T:=.d (eE (bI w.es u m) (RH w (fB w.es l) m))
theorem Ug{k:Nat}{v:LS}(hl:g.9<kb)(y:m∉g.map λx=>x.1)(h:dA (u3 f) (eE (bI w.es u m) (RH w (fB w.es l) m))=jr k)(hv:(gm f)[k]?=jr (T.d (.list (v.map j0))))(q:Z.nx (N3 w l u f (g++[(m,v)]) (bD (.str m)) (jr (.bor (Ta w l u m))) o8 i)):pF Ψ IC Z (N3 w l u f g (bD (.str m)) (jr (.bor (Ta w l u m))) o8 i):=by delta N3 Ta eE;delta IC;simp![↓jAg];refine Mv h hv ?_;simp![↓zA];exact jt hl y q
theorem cj(w:Wd)(ks:List Pt)(m:Str):(RH w ks m).9<=w.ps.length:=by unfold RH;rw[QF];exact qI _ _
theorem jn(evs:List Evt)(u:LN)(m:Str):(bI evs u m).9<=u.length:=by unfold bI;rw[QF];exact qI _ _
theorem Pi(h:WOk w)(hv:aS w u)(m:Str):FK (bI w.es u m) (RH w (fB w.es l) m):=by constructor;intro s z;let#[p,v,rfl]:=QW.mp z;exact h.po p (Qb.mp v).1;intro e k;let#[n,y,rfl]:=QW.mp k;have y:=(Qb.mp y).1;let#[a,t,x,b,o,j,q,e]:=hv.2 n y;have:=h.ev a;rw[e]at this ⊢;exact#[h.nm this.1,h.nm this.2.1]
theorem Yx(F:Ψ.sp "seers_of"=iQ)(E:Ψ.sp "edges_of"=VQ)(r:Ψ.sp "holders_in"=DL)(b:WOk w)(hv:aS w u)(hk:oO w f)(C:f.9<=20000)(hl:g.9<1000)(p:m∉g.map λx=>x.1)(q:∀h v,oO w h->h.9<=f.9+1->(∀y,y∈v↔nV w l u m y)->Z.nx (N3 w l u h (g++[(m,v)]) (bD (.str m)) (jr (.bor (Ta w l u m))) o8 i)):pF Ψ MD Z (N3 w l u f g (bD (.str m)) o7 o8 i):=by
 have L:=b.pl;have J:=cj w (fB w.es l) m;have I:=jn w.es u m;have G:=hv.1;delta N3;delta MD;simp![↓OJ,↓kA (md:=[.fro,.bor]) F rfl rfl,↓kA (md:=[]) E rfl rfl,↓kA (md:=[]) r rfl rfl,↓OB,↓da,↓Cu];refine#[_,_,_,rfl,(),?_];simp![↓zA];refine#[_,_,_,rfl,hv.1,hv.2,?_];simp![↓Me];refine#[(),?_];cases e:dA (u3 f) (eE (bI w.es u m) (RH w (fB w.es l) m)) with
 |some k=>let#[v,X,s]:=Kg e;refine BD (λz=>by cases z) ?_;exact Ug () p e s (q f v hk () (hk _ X))|none =>
  refine ML rfl ?_;simp![↓kA (md:=[]) r rfl rfl];refine#[_,_,_,rfl,#[(),(),Pi b hv m,(),b.pn],λv j B=>?_];simp![↓zA];refine cm () e ?_;have A:dA (u3 (f++[((bI w.es u m,RH w (fB w.es l) m),v)])) (eE (bI w.es u m) (RH w (fB w.es l) m))≠none:=λz=>vB.mp z (QW.mpr #[_,QT _ (QJ.mpr rfl),rfl]);have o:oO w (f++[((bI w.es u m,RH w (fB w.es l) m),v)]):=λx a=>by rcases Qf.mp a with a|a;exact hk x a;rw[QJ.mp a];exact j
  cases n:dA (u3 (f++[((bI w.es u m,RH w (fB w.es l) m),v)])) (eE (bI w.es u m) (RH w (fB w.es l) m)) with|none=>exact Qe n A|some k=>let#[Y,K,W]:=Kg n;exact Ug () p n W (q _ Y o (by rw[QI];exact QV _) (o _ K))
theorem m4{b:PT}{p:PSp}{N x:LS}{ds:LT}{Q:T->LT->Prop}(ρ:vA)(h:pF Ψ b (oz Q) ρ)(hl:ds.9=x.length:=by rfl)(hc:CB 0 p.md x.9=[3]:=by rfl)(y:oB N p.md ds=ρ:=by rfl):ds.9=x.9/\pF Ψ b (yD p x.9 Q) (oB N p.md ds):=by
 have e:yD p x.9 Q=oz Q:=by unfold yD;rw[hc];rfl
 rw[e,y];exact#[hl,h]
def ID:PSp where
 md:=[.fro,.shal,.fro,.chg]
 run:=λx Q _=>∃(w:Wd) (l u:LN) (f:Kn),x=[.d (wD w),.lst ((l.map nD).map T.d),.d (.list (u.map nD)),U4 f]/\(WOk w/\l.9<=100/\∀n∈l,n<w.es.9)/\aS w u/\(oO w f/\f.9<=10000)/\∀h,oO w h->h.9<=f.9+10->Q (.lst (((iN w l u).map pr).map T.d)) [U4 h]
theorem dZ(h:WOk w)(l u:LN)(x:Str):(Bg w l u x).9<=10:=by unfold Bg;rw[QF];exact QU (qI _ _) h.ml
theorem Jx{h:List Pt}{o6:Option Sl}{p:Str×Int×Int×Int}(k:WOk w)(n:g.map (λx=>x.1)=w.ms)(j:∀x∈g,∀y,y∈x.2↔nV w l u x.1 y)(hl:h.9<=1000)(q:Z.nx (N3 w l u f g o6 o7 (oW (.lst (((h++Bg w l u p.1).map pr).map T.d))) (bD (yH p)))):pF Ψ LD Z (N3 w l u f g o6 o7 (oW (.lst ((h.map pr).map T.d))) (bD (yH p))):=by
 have o:=k.ml;have a:=dZ k l u p.1;delta N3;delta LD;simp![↓Ni];rw[<- pA j0];refine oA (λm=>T.d (.str m)) (λm=>T.d (pr (p.1,m))) (Ao w l u p.1) w.ms [] _ (λm b R z=>?_) (by show 0+w.ms.9<=_;omega) ?_;simp![↓bu,↓E4,↓jAh];refine yt (n▸b) λv hv=>?_;have e:decide (p.1∈v)=Ao w l u p.1 m:=by rw[Q2,q7];exact(j _ hv p.1).trans (ke w l u p.1 m).symm
 simp![AL,pJ,VB,true_or,e];split at z;rename_i c;rw[Qc c];exact#[(),z];rename_i c;rw[QB c];exact z;rw[Qi,pA λm=>pr (p.1,m)];have e:((w.ms.filter (Ao w l u p.1)).map λm=>pr (p.1,m))=(Bg w l u p.1).map pr:=by unfold Bg;rw[Qa];rfl
 rw[e,<- QR,<- QR];exact#[by rw[QF,QF,QF,QF];omega,q]
theorem Tc(L:Ψ.sp "seen_among"=UI)(J:Ψ.sp "seers_of"=iQ)(I:Ψ.sp "edges_of"=VQ)(G:Ψ.sp "holders_in"=DL):aE Ψ VF ID CJ KH:=by
 rintro _ Q _ ⟨w,l,u,f,rfl,⟨n,hl,E⟩,hv,⟨hk,F⟩,q⟩;have R:=n.ml;have P:=n.pl;refine m4 [bD (wD w),jr (.bor (.lst ((l.map nD).map T.d))),bD (.list (u.map nD)),oW (U4 f),kv,kv,kv,kv,kv,kv] ?_;delta VF;simp![↓OJ,↓Ni,↓kA (md:=[.fro,.shal]) L rfl rfl,↓OB,↓da];refine#[_,_,rfl,hl,E,?_];simp![↓Ni];rw[<- pA j0];refine HA (λm=>T.d (.str m)) (λr b=>∃h g a o7,g.map (λx=>x.1)++r=w.ms/\(oO w h/\h.9+r.9<=f.9+w.ms.9)/\(∀x∈g,∀y,y∈x.2↔nV w l u x.1 y)/\b=N3 w l u h g a o7 kv kv) ?_ ?_ w.ms _ #[f,[],kv,kv,rfl,#[hk,QV _],(λx j=>by cases j),rfl];rintro b ⟨h,g,a,o7,e,⟨Y,o⟩,K,rfl⟩;have e:g.map (λx=>x.1)=w.ms:=by rw[<- e,qL]
 have o:h.9<=f.9+w.ms.length:=o;delta N3;simp![↓N4];rw[<- pA yH];refine#[(),?_];refine HA (λp=>T.d (yH p)) (λr b=>∃k a o7 i,k++r.flatMap (λp=>Bg w l u p.1)=iN w l u/\k.9+10 * r.9<=200/\b=N3 w l u h g a o7 (oW (.lst ((k.map pr).map T.d))) i) ?_ ?_ w.ps _ #[[],_,_,kv,rfl,by show 0+10 * w.ps.9<=200;omega,rfl];rintro b ⟨k,a,o7,i,s,_,rfl⟩;have s:k=iN w l u:=by rw[<- s];exact(qL k).symm
 subst s;delta N3;simp![↓zA];exact q h Y ();rintro p r b N W ⟨k,a,o7,i,s,A,rfl⟩;have A:k.9+10 * (r.9+1)<=200:=A;have B:=dZ n l u p.1;refine Jx n e K () (W _ #[k++Bg w l u p.1,a,o7,_,?_,by rw[QI];omega,rfl]);rw[Q4];exact s;rintro m r b N W ⟨h,g,a,o7,e,⟨Y,o⟩,K,rfl⟩;have o:h.9+(r.9+1)<=f.9+w.ms.length:=o;have C:g.9+(r.9+1)=w.ms.length:=by rw[<- e,QI,QF];rfl
 have nd:=n.mn;rw[<- e]at nd;refine Yx J I G n hv Y () () (λz=>(qW.mp nd).2.2 m z m QD rfl) λX v O S M=>W _ #[X,g++[(m,v)],_,_,?_,#[O,()],?_,rfl];rw[QR,Q4];exact e;intro x j;rcases Qf.mp j with j|j;exact K x j;rw[QJ.mp j];exact M
end
end L2.L3.K45
namespace L2.L3
open PySem PySem.Spec PyProof.Rows PySem.W PySem.SeqAt
noncomputable def gz(ks:List (Int×Int))(i j:Nat):Bool:=decide ((ks.getD i (0,0)).1<(ks.getD j (0,0)).1∨(ks.getD i (0,0)).1=(ks.getD j (0,0)).1/\(ks.getD i (0,0)).2<(ks.getD j (0,0)).2)
noncomputable def Jv{α:Type}(lt:Nat->Nat->Bool):KasT α->α
 | .ret a=>a|.ask i j k=>Jv lt (k (lt i j))
def jT(ks:List (Int×Int))(n:Nat):Array Nat:=if n<2 then qK (Qq n) else Jv (gz ks) (kas_sort n)
theorem zC.ev{α:Type}{n:Nat}{P:α->Prop}(lt:Nat->Nat->Bool):∀{t:KasT α},zC n P t->P (Jv lt t)
 | .ret _,h=>h|.ask i j k,#[_,_,h]=>zC.ev (t:=k (lt i j)) lt (h _)
theorem zC.wpE{α:Type}{n:Nat}{P:α->Prop}{lt:Nat->Nat->Bool}{x:Nat->Nat->(Bool->kt->Prop)->kt->Prop}{Q:α->kt->Prop}{s:kt}(y:∀i j,i<n->j<n->∀C:Bool->kt->Prop,C (lt i j) s->x i j C s):∀{t:KasT α},zC n P t->Q (Jv lt t) s->t.kasWp x Q s
 | .ret _,_,q=>q|.ask i j _,#[h1,h2,h],q=>y i j h1 h2 _ (zC.wpE y (h _) q)
def OD(h:vu)(v:kn)(p:Int×Int):Prop:=∃a o n t u,v=.ref a/\h.get? a=jr o/\o.cls=.type "tuple"/\o.data=.seq (qK [Value.int p.1 t,Value.int p.2 u]) n
theorem OD.keep{h h':vu}{v:kn}{x:Int×Int}{c:ko}{u:Obj}(e:h.get? c=jr u)(hc:u.cls≠.type "tuple")(k:∀b o,b≠c->h.get? b=jr o->h'.get? b=jr o)(t:OD h v x):OD h' v x:=by let#[a,o,n,t,r,f,y,w,d]:=t;exact#[a,o,n,t,r,f,k _ _ (λz=>by rw[z,e]at y;cases y;exact hc w) y,w,d]
section
variable{prog:k5}{w:xb}{A:x0}{E:mC}{s:kt}
section
variable{vs:LW}{r f:ko}{a b c:Int}{t u v:Tok}{n:Nat}{kz:List (Int×Int)}
theorem Ol{v u:kn}{x y:Int×Int}{Q:Bool->kt->Prop}(hv:OD s.1 v x)(z:OD s.1 u y)(q:Q (decide (x.1<y.1∨x.1=y.1/\x.2<y.2)) s):ku (k0 prog w) A (keyLt' (tuples' kf) v u) Q E s:=by let#[a,o,n,t,r,rfl,g,_,j]:=hv;let#[b,p,X,l,m,rfl,k,_,i]:=z;refine kat_lt g j k i (kat_cons (QBJ ?_));by_cases e:x.1=y.1;rw[e,beq_self_eq_true];refine kat_yes (kat_cons (QBJ ?_));by_cases h:x.2=y.2;rw[h,beq_self_eq_true];refine kat_yes (kat_nil ?_);rw[show decide (x.1<y.1∨x.1=y.1/\x.2<y.2)=kd from dF ()]at q;exact q;rw[beq_false_of_ne h];refine kat_no (kat_one _ _ (PyProof.Rows.lt_int ?_));rw[show decide (x.1<y.1∨x.1=y.1/\x.2<y.2)=decide (x.2<y.2) from decide_eq_decide.mpr ()]at q;exact q;rw[beq_false_of_ne e];refine kat_no (oneLt_int ?_);rw[show decide (x.1<y.1∨x.1=y.1/\x.2<y.2)=decide (x.1<y.1) from decide_eq_decide.mpr ()]at q;exact q
theorem i8{ns:List (Int×Int)}{Q:SortKind->kt->Prop}(l:xm (OD s.1) vs ns)(K:2<=vs.9)(q:Q (tuples' kf) s):ku (k0 prog w) A (keyKind' vs.toArray) Q E s:=by
 have key:∀{vs:LW}{ns:List (Int×Int)},xm (OD s.1) vs ns->∃fs,KatTups s.1 vs fs/\fs.9=vs.9/\∀f∈fs,∃x t,f=.int x t:=by
  intro vs ns h;induction h with
  |nil=>exact#[[],.nil,rfl,λ_ z=>(nomatch z)]
  |@cons v x Z Y h _ e=>let#[fs,j,i,g]:=e;let#[a,o,n,t,r,rfl,p,hc,X]:=h;refine#[.int x.1 t::fs,.cons (f:=.int x.1 t) p hc X (by simp) j,by rw[QN,QN,i],λf m=>?_];rcases QL.mp m with rfl|z;exact#[_,_,rfl];exact g f z
 let#[fs,k,W,y]:=key l;exact kat_kind (T:=.type "int") k () (λv hv=>by let#[x,t,rfl]:=y v hv;exact .of_pure rfl) (by decide) q
theorem EH{α x:Type}{R:α->x->Prop}{d:α}{e:x}:∀{l:List α}{m:List x},xm R l m->∀i,i<l.9->R (l.getD i d) (m.getD i e)
 |_,_,.nil,i,h=>Qe h (Nat.not_lt_zero _)|_,_,.cons r _,0,_=>r|_,_,.cons _ t,i+1,h=>EH t i (wX h)
theorem kL{α x:Type}{R:α->x->Prop}:∀{l z:List α}{m y:List x},xm R l m->xm R z y->xm R (l++z) (m++y)
 |_,_,_,_,.nil,h=>h|_,_,_,_,.cons r t,h=>.cons r (kL t h)
theorem FO{Q:LW->kt->Prop}(Y:A.handled=kv)(q:ti s.1 r a b c t u v)(x:QB6 a b c=kf)
  (X:Wg a b c=n) (z:n<=2 ^ 24)
  (h:∀h' g y,(∀b o,s.1.get? b=jr o->h'.get? b=jr o)->s.1.1.size<h'.1.size->nj (λi v=>∃t,v=.int (a+i * c) t) y n->Q y.toList { s with heap:=h',toks:=g }) :
  ku (k0 prog w) A (tt (.ref r)) Q E s:=by
 unfold tt;refine QA (pR (wx QBd ?_));rw[qu QBe _];show ku _ A.in1 (tv [] >>= λl=>again (.builtin "list.__iadd__" #[[l,.ref r],[]])) _ _ s;refine QA (Qy ?_);refine QK #[WN Wx _,wx QCd ?_];rw[qu Wx _];have Z:(s.1.push { cls:=.type "list",data:=.seq ([]:LW).toArray }).get? s.1.1.size=jr { cls:=.type "list",data:=.seq #[] }:=QO _ rfl;show ku _ A.in1 (qt (.ref s.1.1.size) (.ref r) (.ref s.1.1.size)) _ _ _;refine wpAny_extend_range (R:=λr j=>match r with | .ok (.ret v)=>ku (k0 prog w) A (match v with | .ref a=>(do let o <- load a;match o.data with | .seq m _=>ak m.toList|_=>unsupported "internal:collect")|_=>unsupported "internal:collect") Q E j | .ok _=>False | .error e=>E e j) (s:={ s with heap:=s.1.push { cls:=.type "list",data:=.seq ([]:LW).toArray } }) Y (QH _ q) x X z _ _ _ Z λh' g y W p k it=>?_;show ku _ A (load s.1.1.size >>= _) _ _ _;refine QA (QDG k ?_);exact QK (h h' g y (λb o e=>p b o (Qj (QS e)) (QH _ e)) (QS k) it)
theorem Tl{a:ko}{P:PySem.Fin->kt->Prop}(ho:s.1.get? a=jr (ah "list" vs.toArray n))(h64:vs.9<64)(hl:kz.9=vs.9)
  (hf:∀(h:vu) (g:Nat),(∀b o,b≠a->s.1.get? b=jr o->h.get? b=jr o)->∀(i:Nat) (x:kn) (p:Int×Int),vs[i]?=jr x->kz[i]?=jr p->∀C:kn->kt->Prop,
   (∀Z m k,(∀b o,h.get? b=jr o->Z.get? b=jr o)->OD Z k p->C k { s with heap:=Z,toks:=m })->ku (k0 prog w) A (b8 (.ref f) [x]) C (λ_ _=>False) { s with heap:=h,toks:=g })
  (k:∀(p:Array Nat) (h':vu) (g c:Nat),Pm vs.9 p->p=jT kz vs.9->(∀b o,b≠a->s.1.get? b=jr o->h'.get? b=jr o)->h'.get? a=jr (ah "list" (p.toList.map λi=>vs.getD i j2).toArray c)->P (.done (.ret .none)) { s with heap:=h',toks:=g }) :
  ku (k0 prog w) A (ksk_tree a (.ref f) kd) P E s:=by
 have ha:a<s.1.1.size:=QS ho;have s1:=qA s.1 a (Q5 λ_=>(#[]:Array kn));obtain⟨G,ho1⟩:∃G,(s.1.update a (Q5 λ_=>(#[]:Array kn))).get? a=jr (ah "list" #[] G):=#[_,QAW ho λ_=>#[]]
 generalize hH:((s.1.update a (Q5 λ_=>(#[]:Array kn))).push (ah "tuple" vs.toArray 0))=hT;have S:hT.1.size=s.1.1.size+1:=by rw[<- hH,size_push',QCx]
 have kS0:(hT.push (ah "list" #[] 0)).get? hT.1.size=jr (ah "list" #[] 0):=QO _ rfl;have a0:(hT.push (ah "list" #[] 0)).get? a=jr (ah "list" #[] G):=QH _ (by rw[<- hH];exact QH _ ho1);have kp0:∀b o,b≠a->s.1.get? b=jr o->(hT.push (ah "list" #[] 0)).get? b=jr o:=λb o hb e=>QH _ (by rw[<- hH];exact QH _ ((s1.2 b hb).trans e));have naK:a≠hT.1.size:=by rw[S];exact Qj (WM ha)
 unfold ksk_tree;refine QA (QCm ho rfl (QA (Wk ho rfl ?_ (by rw[QM];omega) (Qn _))));refine QA (QB3 ho1 rfl (QA (QBs ?_ (by show vs.9<=_;omega))));refine QA (QBD (qg ?_) (Qn _));rw[hH];generalize hK:hT.1.size=kS at *;have fin:∀(y:LW) (e:Nat) (h:vu) (g:Nat) (st:SortSt) (p:Array Nat),y.9=vs.9->h.get? kS=jr (ah "list" (qK y) e)->h.get? a=jr (ah "list" #[] G)->(∀b o,b≠a->s.1.get? b=jr o->h.get? b=jr o)->Pm vs.9 p->p=jT kz vs.9 ->
   (arrOf st).map (·.2)=qK (p.toList.map λi=>vs.getD i j2)->o9 st=kv->ku (k0 prog w) A (ksk_tail a kd G (.ref kS) st) P E { s with heap:=h,toks:=g }:=by
  intro y e h g st p Y hk l I pm H hout N;have t1:=qA h kS (Q5 λ_=>(#[]:Array kn));have R:=(t1.2 a naK).trans l;have t2:=qA (h.update kS (Q5 λ_=>(#[]:Array kn))) a (Q5 λ_=>qK (p.toList.map λi=>vs.getD i j2));have hps:(p.toList.map λi=>vs.getD i j2).9=vs.length:=by rw[QF,(qX.mp pm).length_eq];simp
  unfold ksk_tail;dsimp only;rw[hout];refine QA (Wk hk rfl ?_ (by rw[QM,qB];omega) (Qn _));refine QA (QC7 (QA (QB3 R rfl (QA (Wk R rfl ?_ (Qn _) (by simp only[Qw,if_false];rw[QM,qB];omega))))));rw[N];simp only[bne_self_eq_false,Qw,if_false];refine QK (k p _ g _ pm H (λb o hb e=>?_) (QAW R λ_=>qK (p.toList.map λi=>vs.getD i j2)));have O:b≠kS:=λz=>by have:=QS e;rw[z,S]at this;exact Qe this (Nat.not_lt.mpr (wU _))
  exact(t2.2 b hb).trans ((t1.2 b O).trans (I b o hb e))
 have L:∀(y:LW) (e:Nat) (h:vu) (g:Nat),xm (OD h) y kz->h.get? kS=jr (ah "list" (qK y) e)->h.get? a=jr (ah "list" #[] G)->(∀b o,b≠a->s.1.get? b=jr o->h.get? b=jr o) ->
   ku (k0 prog w) A (ksk_end a kd vs.toArray G (.ref kS) (qK y)) P E { s with heap:=h,toks:=g }:=by
  intro y e h g B hk l I;have Y:y.9=vs.length:=(qP B).trans hl;unfold ksk_end;dsimp only;simp only[Qw,if_false];by_cases h2:vs.9<2;have F:vs.toArray.size<2:=by rw[QM];exact h2
  rw[Qc F,Qc F];refine QA (QK ?_);rw[QDA];refine QA (QK ?_);refine fin y e h g _ (qK (Qq vs.9)) Y hk l I (QC9 _) (Qc h2).symm ?_ rfl;show((qK y).zip vs.toArray).map (·.2)=_;rw[pP];apply WU.mp;simp[WV,Y];have F:¬ vs.toArray.size<2:=by rw[QM];exact h2
  rw[QB F,QB F];refine QA (i8 (s:={ s with heap:=h,toks:=g }) B () ?_);have tree:(kas_sort vs.9).kasWp (kas_ask prog w A (tuples' kf) y) (λp W=>W={ s with heap:=h,toks:=g }/\Pm vs.9 p/\p=jT kz vs.9) { s with heap:=h,toks:=g } :=
   zC.wpE (lt:=gz kz) (λi j hi hj C hC=>Ol (s:={ s with heap:=h,toks:=g }) (EH B i ()) (EH B j ()) hC) (IN ()) #[rfl,(IN ()).ev _,(QB h2).symm]
  refine QA (wK (kat_run (Q:=λK W=>∃p:Array Nat,arrOf K=p.map (kas_item ((qK y).zip vs.toArray))/\o9 K=kv/\W={ s with heap:=h,toks:=g }/\Pm vs.9 p/\p=jT kz vs.9) Y () h64 (λp K W _ a2 a3 a4=>#[p,a2,a3,a4]) tree) ?_ λ_ _ x=>x);rintro⟨⟨⟩,K⟩ W ⟨p,har,N,rfl,pm,H⟩;exact fin y e h g K p Y hk l I pm H (kat_snds Y har) N
 unfold ksk_rest;refine QA (QCY ?_);rw[List.forIn_toArray];refine QA (ksk_fold (λj W=>∃(y:LW) (e:Nat) (h:vu) (g:Nat),W={ s with heap:=h,toks:=g }/\xm (OD h) y (kz.take j)/\h.get? kS=jr (ah "list" (qK y) e)/\h.get? a=jr (ah "list" #[] G)/\(∀b o,b≠a->s.1.get? b=jr o->h.get? b=jr o)/\j<=vs.9) vs 0 _ #[[],0,_,s.toks,rfl,.nil,kS0,a0,kp0,Qn _] (λj x W hx hI=>?_) λW hI=>?_);let#[y,e,h,g,rfl,B,hk,l,I,jl]:=hI;rw[W7]at B jl ⊢;have jv:j<vs.length:=(Qh.mp hx).1;have hkl:y.9=j:=by rw[qP B,Q8];omega
 have hzj:kz[j]?=jr (kz[j]'()):=Qk _;refine QA (QAR (wK (hf h g I j x _ hx hzj (λJ W=>∃Z m,W={ s with heap:=Z,toks:=m }/\(∀b o,h.get? b=jr o->Z.get? b=jr o)/\OD Z J (kz[j]'())) λZ m J X ka=>#[Z,m,rfl,X,ka]) (λJ W hc=>?_) λ_ _ z=>z.elim));let#[Z,m,rfl,X,ka]:=hc;have ea:(qK y).push J=qK (y++[J]):=by simp
 have s5:=qA Z kS (Q5 (·.push J));have M:=X _ _ hk;dsimp only;refine QA (Wk M rfl ?_ (by rw[QM,qB];omega) (QU (WH (Array.size_push ..)) (by rw[QM,qB];omega)));refine QK #[rfl,y++[J],_,_,m,rfl,?_,by rw[<- ea];exact QAW M (·.push J),(s5.2 a naK).trans (X _ _ l),λb o hb q=>?_,jv];have H:∀{v:kn}{x:Int×Int},OD Z v x->OD (Z.update kS (Q5 (·.push J))) v x:=λt=>t.keep M (by show Value.type "list"≠Value.type "tuple";decide) λb o hb q=>(s5.2 b hb).trans q;rw[List.take_succ,hzj];exact kL (L2.Paired.mapP B λ_ _ #[a1,o1,n1,t1,r1,G,g1,c1,d1]=>H #[a1,o1,n1,t1,r1,G,X _ _ g1,c1,d1]) (.cons (H ka) .nil);have O:b≠kS:=λz=>by have:=QS q;rw[z,S]at this;exact Qe this (Nat.not_lt.mpr (wU _))
 exact(s5.2 b O).trans (X _ _ (I b o hb q));let#[y,e,h,g,rfl,B,hk,l,I,_]:=hI;rw[W7,<- hl,QBK]at B;exact QA (QCm hk rfl (L y e h g B hk l I))
theorem Kb{Q:mC}(S:A.handled=kv)(N:ti s.1 r a b c t u v)(y:QB6 a b c=kf)
  (R:Wg a b c=n) (h64:n<64) (hl:kz.9=n)
  (H:∀(Y:vu) (z:Nat),(∀b o,s.1.get? b=jr o->Y.get? b=jr o)->∀(i:Nat) (Z:Tok) (p:Int×Int),kz[i]?=jr p->∀C:kn->kt->Prop,
   (∀I W k,(∀b o,Y.get? b=jr o->I.get? b=jr o)->OD I k p->C k { s with heap:=I,toks:=W })->ku (k0 prog w) A.in1.in1 (b8 (.ref f) [Value.int (a+i * c) Z]) C (λ_ _=>False) { s with heap:=Y,toks:=z })
  (k:∀(p:Array Nat) (vs:LW) (D:ko) (h':vu) (z e:Nat),Pm n p->p=jT kz n->(∀b o,s.1.get? b=jr o->h'.get? b=jr o)->s.1.1.size<=D->vs.9=n->(∀(i:Nat) x,vs[i]?=jr x->∃t,x=Value.int (a+i * c) t) ->
   h'.get? D=jr (ah "list" (p.toList.map λi=>vs.getD i j2).toArray e)->Q (.ref D) { s with heap:=h',toks:=z }) :
  ku (k0 prog w) A (b8 (.builtin "sorted") [.ref r] [(QY "key",.ref f)]) Q E s:=by
 refine call_function_entry_kw kind_sorted plain_sorted entry_sorted (ksk_s1 _ _) ?_;unfold Builtin.«sorted»;refine QA (m:=checkCount "sorted" 1 1 _) (QK ?_);refine QA (FO S N y R () λg K h l G it=>?_);have M:h.toList.9=n:=by rw[Q0];exact it.1
 refine QA (QBD ?_ (by rw[qB];omega));have X:(g.push (ah "list" h.toList.toArray 0)).get? g.1.size=jr (ah "list" h.toList.toArray 0):=QO _ rfl;have j:∀b o,s.1.get? b=jr o->(g.push (ah "list" h.toList.toArray 0)).get? b=jr o:=λb o q=>QH _ (l b o q);refine QA (qg (wpAny_call_entry_kw o2 #[_,X,rfl] ot ?body (ksk_l1 _ _)))
 case body =>
  show ku (k0 prog w) A.in1.in1 (Builtin.«list.sort» #[[.ref g.1.size],[(QY "key",.ref f)]]) _ _ _;rw[ksk_t1];have nD:∀b o,s.1.get? b=jr o->b≠g.1.size:=λb o q=>Qj (QS (l b o q));refine Tl (s:={ s with heap:=g.push (ah "list" h.toList.toArray 0),toks:=K }) (kz:=kz) X () () (λY z B i x p F O C hC=>?_) λp h' z c L J B P=>#[_,rfl,QK #[_,rfl,?_]]
  let#[Z,rfl]:=it.2 i x (by rw[<- F,QAA]);exact H Y z (λb o q=>B b o (nD b o q) (j b o q)) i Z p O C hC;rw[M]at L J;exact k p h.toList _ h' z c L J (λb o q=>B b o (nD b o q) (j b o q)) (W8 G) M (λi x F=>it.2 i x (by rw[<- F,QAA])) P
end
end
section
variable{U Z p2 W V Y X K:Pos}
noncomputable abbrev r8(U Z p2 W V Y X:Pos):Expr:=.Tuple [.Subscript (.Subscript (.Name "events" U) (.Name "number" Z) p2) (.Constant (.int 1) 0 W) V,.Name "number" Y] 0 X
noncomputable abbrev Od(K:Pos):Arguments:={ posonlyargs:=[],args:=[{ arg:="number",annotation:=kv,pos:=K }],vararg:=kv,kwonlyargs:=[],kw_defaults:=[],kwarg:=kv,defaults:=[] }
noncomputable abbrev AW:Scope:={ kind:=.function,names:=[(QY "number",.local),(QY "events",.free)],isGenerator:=kd,isCoroutine:=kd,more:=[] }
variable{prog:k5}{w:xb}{A:x0}{E:mC}{s:kt}
section
variable{h h':vu}{y n:ko}{i:Nat}{g:Int}{l:Tok}
def zP(h:vu)(y:ko)(i:Nat)(g:Int):Prop:=∃(x z:Array kn) (t:ko) (u:Tok),(h.IsList y x∨i3 h y x)/\x[i]?=jr (.ref t)/\i<2 ^ 62/\x.size<2 ^ 62/\i3 h t z/\z[1]?=jr (.int g u)/\z.size<2 ^ 62
theorem zP.keepB{P:ko}{m:Array kn}(p:h.get? P=jr (tabObj m))(k:∀b o,b≠P->h.get? b=jr o->h'.get? b=jr o)(x:zP h y i g):zP h' y i g:=by
 let#[f,j,t,u,a,b,c,q,#[o,d],e]:=x;have v:∀{b:ko}{o:Obj}{T:String},h.get? b=jr o->o.cls=.type T->b≠P:=λe c z=>by rw[z,p]at e;cases e;cases c
 refine#[f,j,t,u,?_,b,c,q,#[o,k _ _ (v d.1 d.2.1) d.1,d.2],e];rcases a with⟨o,a⟩| ⟨o,a⟩
 exact .inl #[o,k _ _ (v a.1 a.2.1) a.1,a.2];exact .inr #[o,k _ _ (v a.1 a.2.1) a.1,a.2]
theorem zP.keep(z:∀b o,h.get? b=jr o->h'.get? b=jr o)(x:zP h y i g):zP h' y i g:=by
 let#[v,k,t,u,a,b,c,f,#[o,d],e]:=x;refine#[v,k,t,u,?_,b,c,f,#[o,z _ _ d.1,d.2],e];rcases a with⟨o,a⟩| ⟨o,a⟩
 exact .inl #[o,z _ _ a.1,a.2];exact .inr #[o,z _ _ a.1,a.2]
theorem m8{env:Env}{L:ko}{m:Str->Option kn}{Q:mC}(hk:env.scope=AW)(G:env.cells.lookup (QY "events")=jr n)(hc:s.1.IsCell n (jr (.ref y)))
  (S:env.locals=L) (P:s.1.Ns L m) (R:m "number"=jr (.int i l)) (F:zP s.1 y i g)
  (q:∀J u,Q (.ref s.1.1.size) { s with heap:=s.1.push { cls:=.type "tuple",data:=.seq (qK [Value.int g u,Value.int i l]) },toks:=J }) :
  ku (k0 prog w) A (gp (r8 U Z p2 W V Y X) env) Q E s:=by
 have N:env.kindOf "number"=jr .local:=by show env.scope.names.lookup _=_;rw[hk];rfl
 have O:env.kindOf "events"=jr .free:=by show env.scope.names.lookup _=_;rw[hk];rfl
 have k:env.scope.kind=.function:=by rw[hk]
 let#[C,B,t,u,a,b,c,c2,d,e,c3]:=F;subst S;have v:∀{p:Pos}{Q:mC}(z:kt),z.1=s.1->Q (.int i l) z->ku (k0 prog w) A (gp (.Name "number" p) env) Q E z:=λz I q=>QBh (QBi k N (by rw[I];exact P) R q) (by decide);refine QBy ?_;show ku _ _ (bb ((kd,gp (.Subscript (.Subscript (.Name "events" U) (.Name "number" Z) p2) (.Constant (.int 1) 0 W) V) env)::fk X (xk [.Name "number" Y] env))) _ _ s;refine qp (QCU (QCU (QBh (QBx k O G hc (v _ rfl ?_) (by decide)) (by decide))));have o:(0:Int)<=(i:Int):=QCP i;have f:(i:Int)<2 ^ 63:=by omega (config:={})
 have M:∀{Q:mC},Q (.ref t) s->ku (k0 prog w) A (ir (.Name "events" U) (.Name "number" Z) (.ref y) (.int i l)) Q E s:=λ{Q} q=>by rcases a with a|a;exact item_listR a o f (by simpa using b) q;have I:i<C.size:=(QAg.mp b).1;exact q0 (x:=.ref t) a.typeIs QAh.lookup (QCI (j:=i) (Q:=λr z=>r=.ref t/\Q r z) a (by omega (config:={})) f (by rw[QBB o (by omega (config:={}))];simp) b #[rfl,q])
 refine M (QCE ?_);have H:1<B.size:=(QAg.mp e).1;refine q0 (x:=.int g u) (s:={ s with toks:=s.toks+1 }) (show i3 s.1 t B from d).typeIs QAh.lookup (QCI (j:=1) (show i3 s.1 t B from d) (by decide) (by decide) (by rw[QBB (by decide) (by omega (config:={}))];rfl) e #[rfl,?_]);show ku _ _ (bb ((kd,gp (.Name "number" Y) env)::fk X (xk [] env))) _ _ _;exact qp (v _ rfl (wP #[by rw[qB];show 2<=_;decide,q _ _]))
theorem n8{f L:ko}{z:Str}{N I:kn}{C:mC}(j:A.depth<d3)(P:s.1.get? f=jr (kla_obj "<lambda>" z (Od K) (r8 U Z p2 W V Y X) AW [(QY "events",n)] N L I))
  (F:s.1.CodeRec (.ref L) z) (r:s.1.NoLimit) (hc:s.1.IsCell n (jr (.ref y))) (B:zP s.1 y i g)
  (k:∀G p v,(∀b o,s.1.get? b=jr o->G.get? b=jr o)->OD G v (g,(i:Int))->C v { s with heap:=G,toks:=p }) :
  ku (k0 prog w) A (b8 (.ref f) [.int i l]) C E s:=by
 refine wpAny_call (kla_callFunE j P rfl rfl rfl rfl F ?_);show ku _ _ (ak [(QY "number",Value.int i l)]) _ _ _;refine QK (QBj (show ∀x∈AW.names,x.2≠NameKind.cell by decide) (by intro x O;rcases QJ.mp O with rfl;rfl) (λJ q m=>#[r.fresh _ m,kla_codeExpr ?_]) rfl);have a:∀b o,s.1.get? b=jr o->J.get? b=jr o:=λb o e=>m.extBut b o (Qj (QS e)) (QH _ e);refine m8 (s:={ s with heap:=J,toks:=s.toks+1 }) rfl rfl (hc.keeps a) rfl q rfl (B.keep a) λM u=>?_;exact k _ M _ (λb o e=>QH _ (a b o e)) #[_,_,_,_,_,rfl,QO _ rfl,rfl,rfl]
end
end
theorem TX{pos:Pos}{a b:Int}{c y:kn}(l:LW)(h:mm l)(g:fm pos (l++[hQ a,hQ b,c])=jr y):fm pos l=jr y∨y=c:=by
 fun_induction mm l with
 |case1=>right;have g:fm pos [hQ a,hQ b,c]=jr y:=g;unfold hQ fm at g;split at g;exact(Qp g).symm;cases g|case2 i t f u x v w=>simp only[QBG,fm]at g ⊢;split at g;rename_i z;rw[Qc z];exact .inl g;rename_i z;rw[QB z];exact w h g|case3 l e k=>exact h.elim
section
variable{X:Cx}{h:AB}{σ:St}{H:Hp}{s:kt}
theorem _root_.L2.Inv.tabbed{P x:ko}{q:Str}{y:Array kn}{K W:Int}{h':vu}{t':Nat}(I:Inv X h σ H s)(m:H P=jr (.tbl q))(N:s.1.get? P=jr (tabObj y))(A:mm y.toList)(p:∀pos l,fm pos y.toList=jr l->∃c,l=.ref c/\H c=jr (.own P)/\s.1.CodeRec l q)
  (a:QAV P s.1 h') (i:s.1.1.size<=x) (B:h'.CodeRec (.ref x) q) (f:h'.get? P=jr (tabObj (y++(qK [hQ K,hQ W,.ref x])))):H x=kv/\Inv X h σ (DA H x (.own P)) { s with heap:=h',toks:=t' }:=by
 have C:H x=none:=I.hok.fresh i;have w:∀b o,H b=jr o->b≠x:=λb o e z=>by rw[z,C]at e;cases e
 have Z:∀b,H b=kv->b≠P:=λb e z=>by rw[z,m]at e;cases e
 refine#[C,I.un #[λb o e n _ _=>a b o (Z b n) e,λb o e n _ _=>#[o.slots,a b o (Z b n) e],λb o e n _=>?_,λb o e _=>?_,λb F e=>?_,λb o u e=>?_,λb q e=>?_] λb u e=>?_];rw[xA (Qj (Qt (QS e) i))];exact n;by_cases hb:b=P
 ·exact#[_,hb▸f]
 exact#[o,a b o hb e];rw[xA (w b _ e)];exact e;rw[xA (w b _ e)];exact e;rw[xA (w b _ e)];exact e;by_cases hb:b=x
 ·subst hb
  rw[YA]at e;cases e;let#[c,o,Y,t,M,L,_]:=B;cases M;exact#[o,L]
 rw[xA hb]at e;by_cases j:b=P;subst j;rw[m]at e;cases e;refine#[_,f,?_,λpos l g=>?_];simpa using TriplesOk_snoc K W _ y.toList A;rcases TX y.toList A (by simpa using g) with g|rfl
 ·let#[c,rfl,o,O,ob,Y,G,E,J,r]:=p pos l g
  cases E;refine#[c,rfl,by rw[xA (w c _ o)];exact o,c,ob,Y,G,rfl,a _ _ (λz=>?_) J,r];rw[z,m]at o;cases o
 exact#[x,rfl,YA,B];refine(I.hok b u e).stay (λd v k g=>a d v (λz=>?_) g) (λd g=>by rw[xA (w d _ g)];exact g) λd F g=>by rw[xA (w d _ g)];exact g
 rcases k with k|k;exact j (k.symm.trans z);rw[z,m]at k;cases k
end
def bz(K:QC)(H:Hp)(xs:LV)(kz:List (Int×Int)):Prop:=kz.9=xs.9/\∀(j:Nat) p,kz[j]?=jr p->p.2=j/\∃t h,xs[j]?=jr (.ref t)/\rD K H t h/\h[1]?=jr (.int p.1)
def zz(K:QC)(P:ko)(i:Nat):TE:=λz H Q=>∃ev h y,z[i]?=jr (jr (.ref ev))/\(uC K H ev h∨rD K H ev h)/\bz K H h y/\h.9<64 /\
 ∀(p:Array Nat) x l,Pm h.9 p->p=jT y h.9->(x=H∨∃c,H c=kv/\x=DA H c (.own P))->x l=kv->Q (.ref l) (DA x l (.lst (p.toList.map λ(i:Nat)=>V.int i)))
section
variable{X:Cx}{J G p2 F E B W U Z S M Y g d a O L:Pos}
section
variable{x:AB}{σ:St}{H:Hp}{s:kt}{y:ko}{kz:List (Int×Int)}{i:Nat}{q:Str}
theorem ft{xs:LV}(I:Inv X x σ H s)(k:uC X.K H y xs∨rD X.K H y xs)(C:bz X.K H xs kz):∀(j:Nat) p,kz[j]?=jr p->zP s.1 y j p.1:=λj p N=>by let#[_,t,ys,f,Q,P]:=C.2 j p N;have hz:=qB;let#[h,n,w,R]:=I.tuple Q;let#[u2,o,A]:=n.get P;let#[m,rfl]:=A;have l2:=n.9;have jl:j<xs.length:=(Qh.mp f).1;rcases k with k|k;let#[v,r,b,z]:=I.list k;let#[u,e,q]:=r.get f;cases q;have l:=r.9;exact#[v.toArray,h.toArray,t,m,.inl b.isList,by simpa using e,(),by rw[QM];omega,w,by simpa using o,by rw[QM];omega];let#[v,r,b,z]:=I.tuple k;let#[u,e,q]:=r.get f;cases q;have l:=r.9;exact#[v.toArray,h.toArray,t,m,.inr b,by simpa using e,(),by rw[QM];omega,w,by simpa using o,by rw[QM];omega]
theorem De(I:Inv X x σ H s)(w:X.N[i]?=jr (QY "events"))(h:X.env.scope.names.lookup (QY "events")=jr .cell)(hv:σ[i]?=jr (jr (.ref y))):∃v,X.env.cells.lookup (QY "events")=jr v/\s.1.IsCell v (jr (.ref y)):=by
 let#[m,_,hl]:=I.loc;let#[u,r,l]:=hl i "events" _ w hv (.inr (.inl h));cases r;rcases l with⟨k,_⟩| ⟨_,c,e,z⟩
 have k:X.env.scope.names.lookup (QY "events")=jr .local:=k;rw[h]at k;cases k;exact#[c,e,z]
theorem LK{n:Nat}{vs:LW}(hv:∀i,i<n->∃t,vs.getD i j2=.int (i:Int) t):∀l:LN,(∀i∈l,i<n)->nA (l.map λ(i:Nat)=>V.int i) (l.map λi=>vs.getD i j2)
 |[],_=>.nil|i::l,h=>.cons (hv i (h i QD)) (LK hv l λj z=>h j (QE _ z))
theorem aU{R f ce c':ko}{b ctv:kn}{t u v:Tok}{Q:VK}{n:Nat}(I:Inv X x σ H s)(hh:X.A.handled=kv)(z:X.A.in1.in1.depth<d3)
  (ho:s.1.get? f=jr (kla_obj "<lambda>" q (Od U) (r8 J G p2 F E B W) AW [(QY "events",ce)] b c' ctv)) (m:s.1.CodeRec (.ref c') q) (hc:s.1.IsCell ce (jr (.ref y))) (hev:∀(j:Nat) p,kz[j]?=jr p->p.2=j/\zP s.1 y j p.1)
  (hl:kz.9=n) (h64:n<64) (hr:ti s.1 R 0 n 1 t u v) (k:∀(p:Array Nat) l,Pm n p->p=jT kz n->H l=kv->Q (.ref l) (DA H l (.lst (p.toList.map λ(i:Nat)=>V.int i)))) :
  ku (k0 X.prog X.w) X.A (b8 (.builtin "sorted") [.ref R] [(QY "key",.ref f)]) (EP X x σ Q) X.xe s:=by
 refine Kb (n:=n) hh hr (small_one (by decide) (by decide) () ()) (by rw[p0];split<;>omega) h64 hl (λh3 P h j tx p hj C hC=>?_) λp K D h' P e b up h r vl hvs ho'=>?_;let#[e2,ev']:=hev j p hj;have e3:(0:Int)+(j:Int) * 1=(j:Int):=()
 rw[e3];refine n8 (s:={ s with heap:=h3,toks:=P }) z (h _ _ ho) (m.keeps h) (I.nolimit.keeps h) (hc.keeps h) (ev'.keep h) λh4 N v kp4 ka=>hC h4 N v kp4 ?_;rw[<- e2]at ka;exact ka;have pl:∀i∈p.toList,i<n:=λi hi=>by simpa using(qX.mp b).mem_iff.mp hi
 have ps:p.toList.9=n:=by rw[(qX.mp b).length_eq];simp
 refine#[.ref D,DA H D (.lst (p.toList.map λ(i:Nat)=>V.int i)),I.laid (t':=P) h r #[by rw[QF,ps,qB];omega,_,e,LK (λi hi=>?_) p.toList pl,ho'],rfl,k p D b up (I.hok.fresh r)];have o:i<K.length:=()
 let#[t,e]:=hvs i (K[i]) (Qk o);refine#[t,?_];have:K.getD i j2=K[i]:=by simp[o]
 rw[this,e,show(0:Int)+(i:Int) * 1=(i:Int) by omega]
theorem xc{c P:ko}(hN:X.N[i]?=jr (QY "events"))(hs:X.env.scope.names.lookup (QY "events")=jr .cell)(n:X.env.code=.ref c)(hC:CodeHd X.base c P)(hT:vQ X.mg X.base P q)(hq:q=X.env.qual++"<lambda>")(hb:X.base.BuiltinsAt X.mg P)(hgP:k4≠P)
  (g1:Gl X "sorted") (m1:X.mg "sorted"=kv) (g2:Gl X "range") (m2:X.mg "range"=kv) (g3:Gl X "len") (m3:X.mg "len"=kv) (hh:X.A.handled=kv) (f:X.A.in1.in1.depth<d3) :
  PE X (.Call (.Name "sorted" S) [.Call (.Name "range" M) [.Call (.Name "len" Y) [.Name "events" g] [] d] [] a] [#[jr "key",.Lambda (Od U) (r8 J G p2 F E B W) AW Z,O]] L) (zz X.K P i):=by
 rintro x s σ H Q I ⟨y,xs,kz,hv,hsq,m,h64,k⟩;refine qb (ZC I g1 m1 boot_sorted ?_);refine callWith_kw ?_;show ku _ _ (bb ((kd,gp (.Call (.Name "range" M) [.Call (.Name "len" Y) [.Name "events" g] [] d] [] a) X.env)::fk L (xk [] X.env))) _ _ s;have paL:PA X [.Call (.Name "len" Y) [.Name "events" g] [] d] _:=vJ (PM iJ g3 m3 boot_len (vJ (F6 hN (.inr (.inl hs))) SQ)) SQ;refine qp (Call_ (ZC I g2 m2 boot_range (callWith_type1 (FB (paL a x s σ H (λvs H1=>vs=[.int xs.9]/\H1=H) I ?_) λus h #[vs,H1,I1,r1,q1]=>?_) rfl rfl)));exact#[_,hv,y,xs,rfl,hsq,rfl,rfl];let#[rfl,rfl]:=q1;cases r1 with
 |cons r rr =>
 cases rr;let#[t,rfl]:=r;refine call_range_1 (wP (kws_cons (kla_eval rfl ?_)));have w:Inv X x σ H1 { h with heap:=h.1.push { cls:=.type "range",data:=.fields (qK [.int 0 h.toks,.int xs.9 t,.int 1 (h.toks+1)]) },toks:=h.toks+1+1 }:=I1.kept λb o e=>QH _ e;have hr2:ti (h.1.push { cls:=.type "range",data:=.fields (qK [.int 0 h.toks,.int xs.9 t,.int 1 (h.toks+1)]) }) h.1.1.size 0 xs.9 1 h.toks t (h.toks+1):=QO _ rfl;have hP:=w.tb P q hT;let#[ps,hp,ht,hps]:=w.hok P _ hP;let#[ce,hce,hcl]:=De w hN hs hv;have R:l0 AW X.env=ak [(QY "events",ce)]:=by unfold l0 cellOf;simp[hce]
 let#[bm,ob,b1,b2,b3,b4,b5,b6]:=hb;have hb2:=And.intro b1 (And.intro b2 (And.intro b3 (And.intro b4 (And.intro (w.bk _ _ b5) b6))));have evs:=ft w hsq m;subst hq;cases e:fm Z ps.toList with|none=>refine kla_makeFunction (mg:=X.mg) R I.ok.glob (w.mod.glob.keeps w.bk) n (hC.keeps w.bk) hp ht e hgP #[bm,ob,hb2] λc' ctv h' tk hx hge hlt v htb=>evalAll_nil ?_;let#[hn,I3]:=w.tabbed (t':=tk) hP hp ht hps hx hge v htb;have C:∀{oN:Obj}(b:ko) (o:Obj),h'.get? b=jr o->(h'.push oN).get? b=jr o:=λb o e=>QH _ e;let#[oc,c1,c2]:=hcl;show ku _ _ (b8 (.builtin "sorted") [.ref h.1.1.size] [(QY "key",.ref h'.1.size)]) _ _ _;refine aU (I3.kept C) hh f (QO _ rfl) (v.push _) #[oc,C _ _ (hx _ _ (λz=>?_) c1),c2] (λj p hj=>#[(m.2 j p hj).1,((evs j p hj).keepB hp hx).keep C]) m.1 h64 (C _ _ (hx _ _ (λz=>?_) hr2)) λp l pm u hl=>k p _ l pm u (.inr #[c',hn,rfl]) hl;rw[z,hp]at c1;cases c1;cases c2;have z2:=hp.symm.trans (z▸hr2);cases z2|some cv=>let#[c',rfl,_,v]:=hps _ _ e;refine kla_makeFunctionHit (mg:=X.mg) R I.ok.glob (w.mod.glob.keeps w.bk) n (hC.keeps w.bk) hp ht e #[bm,ob,hb2] λctv h' tk kp hge=>evalAll_nil ?_;have C:∀{oN:Obj}(b:ko) (o:Obj),(h.1.push { cls:=.type "range",data:=.fields (qK [.int 0 h.toks,.int xs.9 t,.int 1 (h.toks+1)]) }).get? b=jr o->(h'.push oN).get? b=jr o:=λb o e=>QH _ (kp b o e);show ku _ _ (b8 (.builtin "sorted") [.ref h.1.1.size] [(QY "key",.ref h'.1.size)]) _ _ _;exact aU (w.kept C) hh f (QO _ rfl) (v.keeps C) (hcl.keeps C) (λj p hj=>#[(m.2 j p hj).1,(evs j p hj).keep C]) m.1 h64 (C _ _ hr2) λp l pm u hl=>k p _ l pm u (.inl rfl) hl
end
end
noncomputable def XN:D->Option Int
 | .tuple h=>(match h[1]? with|some (j1 t)=>jr t|_=>kv)
 |_=>kv
def mK(evs:List D):List (Int×Int):=(Qq evs.9).map λ(i:Nat)=>(((evs[i]?).bind XN).getD 0,(i:Int))
theorem T3{evs:List D}{j:Nat}{p:Int×Int}(h:(mK evs)[j]?=jr p):j<evs.9/\p=(((evs[j]?).bind XN).getD 0,(j:Int)):=by unfold mK at h;rw[Qd]at h;by_cases c:j<evs.9;rw[WZ c]at h;exact#[c,(Qp h).symm];rw[qF (by simpa using c)]at h;cases h
def Du(evs:List D)(ns:LN):Prop:=ns.Perm (Qq evs.9)/\ns=(jT (mK evs) evs.9).toList
def vr:PSp where
 run:=λy Q _=>∃h:List D,y=[.d (.list h)]/\h.9<64/\(∀e∈h,∃t,XN e=jr t)/\∀x,Du h x->Q (.lst (x.map λ(i:Nat)=>.d (.int i))) []
theorem z6{K:QC}{H x:Hp}{a:ko}{xs:LV}(e:Same H x)(h:rD K H a xs):rD K x a xs:=by rcases h with(h|⟨o,h⟩)|h;exact .inl (.inl (e _ _ h));exact .inl (.inr #[o,e _ _ h]);exact .inr h
section
variable{P:k5}{w:xb}{K:QC}{mg:Str->Option kn}{base:vu}{Ψ:PEv}{D C p2 B W U n m g a0 a1 R O N L J I y:Pos}
noncomputable abbrev Kx:Scope:={ kind:=.function,names:=[(QY "events",.cell),(QY "sorted",.globalImplicit),(QY "range",.globalImplicit),(QY "len",.globalImplicit)],isGenerator:=kd,isCoroutine:=kd,more:=[] }
noncomputable abbrev mz(D C p2 B W U n m g a0 a1 R O N L J I y:Pos):List Stmt:=[.Return (jr (.Call (.Name "sorted" a0) [.Call (.Name "range" a1) [.Call (.Name "len" R) [.Name "events" O] [] N] [] L] [#[jr "key",.Lambda (Od m) (r8 D C p2 B W U n) AW g,J]] I)) y]
theorem gZ{H F:Hp}{vs:LV}{Q:VK}{E:XK}{T:ko}(h:lift K vr vs H Q E):vs.9=1/\zz K T 0 (sD [QY "events"] vs) H λv H'=>Q v H':=by
 let#[F,ts,M,Y,h1,h2,h3,h4,x,rfl,h64,he,q]:=h;cases h2 with
 |chg hm=>cases hm|@rd _ v vs' _ _ Z _ hr _ r =>
 cases r;refine#[rfl,?_];cases hr with
 |d rp hz =>
 cases rp with
 |@lst a xs _ hq rs =>
 have A:xs.9=x.length:=rs.9;have kl:(mK x).9=xs.length:=by unfold mK;rw[QF,Qz,A]
 refine#[a,xs,mK x,rfl,.inl (h1.seq hq),#[kl,λj p hj=>?_],by rw[A];exact h64,λp H1 l pm up hH hl=>?_];let#[jl,rfl]:=T3 hj;have G:x[j]?=jr (x[j]'jl):=Qk jl;let#[t,k]:=he _ (wY jl);let#[v,v1,v2]:=rs.get G;refine#[rfl,?_];rw[G];show ∃t ys,_/\_/\ys[1]?=jr (V.int ((XN x[j]).getD 0));rw[k];generalize x[j]=e at *;cases v2 with
 |@tup b ys ds sq rs2 =>
  have k:(match ds[1]? with|some (j1 t)=>jr t|_=>kv)=jr t:=k;cases hd:ds[1]? with
  |none=>rw[hd]at k;cases k|some d =>
   rw[hd]at k;let#[u,u1,u2]:=rs2.get hd;cases u2 with|int i=>cases k;exact#[b,ys,v1,z6 h1 sq,u1]|_=>cases k
 |_=>cases k
 have pn:p.size=x.length:=by have:=pm.size_eq;simpa[A]using this
 have f:H l=none:=by
  rcases hH with rfl|⟨c,hc,rfl⟩
  exact hl;by_cases z:l=c
  ·rw[z];exact hc
  rw[xA z]at hl;exact hl
 have hs:Same H H1:=by
  rcases hH with rfl|⟨c,hc,rfl⟩
  exact λ_ _ e=>e;exact λb o e=>by rw[xA (iA e hc)];exact e
 have s:Same H (DA H1 l (.lst (p.toList.map λ(i:Nat)=>V.int i))):=λb o e=>by rw[xA (iA e f)];exact hs b o e
 have fl:F l=none:=by
  cases z:F l with|none=>rfl|some o=>rw[h1 l o z]at f;cases f
 have X:∀S:LN,Trs K F (DA H1 l (.lst (p.toList.map λ(i:Nat)=>V.int i))) kf (S.map λ(i:Nat)=>V.int i) (S.map λ(i:Nat)=>.d (.int i)) λ_=>False:=λS=>by
  induction S with|nil=>exact .nil λ_ z=>z|cons i r ih=>exact .cons (.d (.int _) λ_ (z:False)=>z) ih (λ_ z=>z.elim) λb=>#[Qg,λz=>z.elim id id]
 refine q p.toList #[?_,?_] (.ref l) F (DA H1 l (.lst (p.toList.map λ(i:Nat)=>V.int i))) (λb=>b=l) (λ_=>False) #[λ_ _ e=>e,λb o e=>s b o (h1 b o e),λb u e _=>s b u e,λb e=>?_,λb e z=>Qe e z] (.lst YA fl (X _) (λz=>z) λb=>#[.inl,λz=>z.elim id Qg]) (.nil λ_ z=>z) (λ_ _ z=>z) λb z=>.inr (z.elim (λz=>z▸f) Qg);rw[A]at pm;exact qX.mp pm;rw[up,A];cases z:H b with|none=>rfl|some o=>rw[s b o z]at e;cases e
theorem ve{f c T:ko}{oc kV v l ct:kn}{M Y:Option ko}{b:Array (Option kn)}{z:rn}{k:Nat}(X:K.In base)(G:base.Ns k4 mg)(p:mg "going_order"=jr (.ref f))
  (lk:K.lookup f=jr #[oc,M,.func (fnOf "going_order" "going_order" z (mz D C p2 B W U n m g a0 a1 R O N L J I y) Kx .none kV v l Y (.ref c) ct),b])
  (j:codeIn K (.ref c) "going_order"=kf) (e:keepIn K (.ref f)=kf) (r:CodeHd base c T) (hb:base.BuiltinsAt mg T) (i:k4≠T) (m1:mg "sorted"=kv) (m2:mg "range"=kv) (m3:mg "len"=kv)
  (u:∀us:LW,us.9=1->ew (fnOf "going_order" "going_order" z (mz D C p2 B W U n m g a0 a1 R O N L J I y) Kx .none kV v l Y (.ref c) ct) #[us,[]]=ak ([QY "events"].zip us)) (hR:Ψ.sp "going_order"=vr):LG P w K mg base Ψ (k+1) "going_order":=by
 have S:FnScope [QY "events"] [QY "events"] Kx:=#[rfl,rfl,rfl,by decide,rfl,by intro x hx;rcases QJ.mp hx with rfl;exact .inr rfl,by decide]
 refine#[f,_,[QY "events"],?_,p,e,.all u];rw[hR];refine Dg lk j S (λZ H Q E h=>(gZ (T:=T) (F:=H) h).1) λA a s H Z Q E o h=>#[_,BY (K6 (xc (q:=(QY "going_order")++(QY ".<locals>.<lambda>")) rfl rfl rfl r ?_ ?_ hb i rfl m1 rfl m2 rfl m3 o.hd ?_)),(gZ (F:=H) h).2]
 exact#[f,_,_,c,p,X _ _ lk,rfl,rfl,r,rfl];show QY "going_order"++QY ".<locals>.<lambda>"=(QY "going_order"++QY ".<locals>.")++QY "<lambda>";decide;exact We (QU (qw _ (3 * k)) (qw _ 5)) o.dp
end
end L2.L3
namespace L2.L3.K45
open PySem PySem.Spec PyProof.Rows L2 L2.L3
def UO(a b:Nat):Bool:=decide (a<=b)
def srt(l:LN):LN:=l.mergeSort UO
theorem Xs(a b c:Nat)(x:UO a b=kf)(y:UO b c=kf):UO a c=true:=dT (QU (qq x) (qq y))
theorem Us(a b:Nat):(UO a b||UO b a)=true:=by rcases Nat.le_total a b with z|z;rw[show UO a b=kf from dT z];rfl;rw[show UO b a=kf from dT z,QCg]
theorem xj(l:LN):(srt l).Pairwise λa b=>a<=b:=(List.pairwise_mergeSort Xs Us l).imp λz=>qq z
theorem bj{z l:LN}(h:z.Perm l)(u:z.Pairwise (·<=·)):z=srt l:=QDB.eq_of_pairwise (λa b _ _ x y=>Nat.le_antisymm x y) u (xj l) (h.trans (QB7 l UO).symm)
theorem IS(l:LN):(srt l).Perm l:=QB7 l UO
noncomputable abbrev Stp:=Nat×Bool×LN×List Pt
structure Gs where
 past:LN
 taken:LN
 held:List Pt
 steps:List Stp
def Lo(w:Wd)(g:Gs)(n:Nat):Bool:=jw w (sO w g.past) g.held (KA w.es n)
def NV(w:Wd)(g:Gs)(n:Nat):LN:=if(Lo w g n&&decide (YV (KA w.es n)="tell"))=kf then g.taken++[n] else g.taken
def Vs(w:Wd)(g:Gs)(n:Nat):LN:=srt (mH w.es (NV w g n) (sO w (g.past++[n])))
def nv(w:Wd)(g:Gs)(n:Nat):List Pt:=iN w (g.past++[n]) (Vs w g n)
def DD(w:Wd)(g:Gs)(n:Nat):Gs:=#[g.past++[n],NV w g n,nv w g n,g.steps++[(n,Lo w g n,Vs w g n,nv w g n)]]
def iB(w:Wd)(ns:LN):Gs:=ns.foldl (DD w) #[[],[],[],[]]
noncomputable def tH(s:Stp):D:=.tuple [nD s.1,.bool s.2.1,.list (s.2.2.1.map nD),.list (s.2.2.2.map pr)]
def Da(l:LN):T:=.lst ((l.map nD).map T.d)
def ge(w:Wd)(past taken:LN)(wr held:List Pt)(x:Kn)(st:List Stp)(o8 h o10:Option Sl):vA:=[bD (wD w),bD (.list (w.es.map PD)),oW (Da past),oW (Da taken),oW (NJ wr),bD (.list (held.map pr)),oW (U4 x),oW (.lst ((st.map tH).map T.d)),o8,h,o10]
theorem P7(l:LN)(n:Nat):Da (l++[n])=.lst ((l.map nD).map T.d++[T.d (nD n)]):=by unfold Da;rw[QR,QR];rfl
theorem vj(l:List Stp)(n:Stp):((l++[n]).map tH).map T.d=(l.map tH).map T.d++[T.d (tH n)]:=by rw[QR,QR];rfl
theorem k6{evs:List Evt}{h:LN}{ks:List Pt}{K:T->LT->Prop}{E:XE}(l:h.9<64)(a:∀n∈h,n<evs.9/\jD (KA evs n))(q:K (.lst (((srt (mH evs h ks)).map nD).map T.d)) []):mL OG [.d (.list (evs.map PD)),.lst ((h.map nD).map T.d),NJ ks] K E:=#[evs,h,ks,rfl,l,a,λz y x=>by rw[bj y x];exact q]
section
variable{Ψ:PEv}{E:XE}{K:TK}{y x:D}{u:List D}{k:T}{g f e c b w v:Option Sl}
theorem fe(h:Ψ.sp "held_among"=ID)(q:mL ID [.d y,.lst (u.map T.d),.d x,k] (λr j=>∃n,j=[n]/\K r kf [bD y,g,oW (.lst (u.map T.d)),f,e,c,oW n,b,w,v,bD x]) E):zB Ψ (.call "held_among" %[.var 0,.var 2,.var 10,.var 6|1]) E [bD y,g,oW (.lst (u.map T.d)),f,e,c,oW k,b,w,v,bD x] K:=by show ∃j,MA (bA (Ψ.sp "held_among").md %[.var 0,.var 2,.var 10,.var 6|1]) [bD y,g,oW (.lst (u.map T.d)),f,e,c,oW k,b,w,v,bD x]=jr j/\(bA (Ψ.sp "held_among").md %[.var 0,.var 2,.var 10,.var 6|1]).Nodup/\(pe Ψ %[.var 0,.var 2,.var 10,.var 6|1] E).a (Ψ.sp "held_among").md (clear (bA (Ψ.sp "held_among").md %[.var 0,.var 2,.var 10,.var 6|1]) [bD y,g,oW (.lst (u.map T.d)),f,e,c,oW k,b,w,v,bD x]) λp l=>∃o,XA (Ψ.sp "held_among").md p j=jr o/\(Ψ.sp "held_among").run o (λr m=>∃i,vC (bA (Ψ.sp "held_among").md %[.var 0,.var 2,.var 10,.var 6|1]) m l=jr i/\K r kf i) E;rw[h];refine#[[k],rfl,Ql.mpr #[qh,Q7],?_];refine#[rfl,?_];refine#[[.d y,.lst (u.map T.d),.d x,k],?_,?_];show(match FF (T.lst (u.map T.d)) with|some t=>(jr [T.d x,k]).map (t::·)|none=>kv).map (T.d y::·)=_;rw[T5];rfl;refine ID.mono (λr j z=>?_) (λ_ z=>z) q;let#[n,rfl,z]:=z;exact#[_,rfl,z]
end
section
variable{Ψ:PEv}{Z:PEnds}{w:Wd}{y:Kn}{n:Nat}{o10:Option Sl}{g:Gs}{ns:LN}
theorem zt(m:Ψ.sp "wrong_among"=jG)(k:Ψ.sp "live_among"=OG)(l:Ψ.sp "held_among"=ID){past taken:LN}{wr held:List Pt}{st:List Stp}{b:Bool}(z:WOk w)(r:past.9<=60)(v:∀n∈past,n<w.es.9)(o:taken.9<=60)(u:∀n∈taken,n<w.es.9/\jD (KA w.es n))(hk:oO w y)(e:y.9<=10000)(p:st.9<=60)
  (q:∀h,oO w h->h.9<=y.9+10->Z.nx (ge w past taken (sO w past) (iN w past (srt (mH w.es taken (sO w past)))) h (st++[(n,b,srt (mH w.es taken (sO w past)),iN w past (srt (mH w.es taken (sO w past))))]) (bD (nD n)) (bD (.bool b)) (bD (.list ((srt (mH w.es taken (sO w past))).map nD))))) :
  pF Ψ BK Z (ge w past taken wr held y st (bD (nD n)) (bD (.bool b)) o10):=by
 have x:=IS (mH w.es taken (sO w past));have fl:=qI (λn=>!decide (((AD (KA w.es n)).1,(AD (KA w.es n)).2)∈sO w past)) taken;have a:aS w (srt (mH w.es taken (sO w past))):=#[by rw[x.length_eq];unfold mH;omega,λn j=>u n (Qb.mp (x.mem_iff.mp j)).1]
 delta ge Da;delta BK;simp![↓kA (md:=[.fro,.shal]) m rfl rfl,↓kA (md:=[.fro,.shal,.bor]) k rfl rfl,↓OB,↓da,↓Cu];refine#[_,_,rfl,z,(),v,?_];simp![↓kA (md:=[.fro,.shal,.bor]) k rfl rfl,↓OB,↓da,↓Cu];refine k6 () u ?_;simp![↓zA];refine fe l (#[_,_,_,_,rfl,#[z,(),v],a,#[hk,e],λh i f=>#[_,rfl,?_]]);simp![↓zA];rw[QF,QF];refine#[(),(),?_];have q:=q h i f;unfold ge Da at q;rw[vj]at q;exact q
structure GsOk(w:Wd)(g:Gs):Prop where
 p:∀n∈g.past,n<w.es.9
 tl:g.taken.9<=g.past.9
 t:∀n∈g.taken,n<w.es.9/\jD (KA w.es n)
 h:uf g.held
 s:g.steps.9=g.past.9
theorem cZ(z:WOk w)(l u:LN):uf (iN w l u):=by intro p h;let#[x,v,h]:=QAJ.mp h;let#[m,k,rfl]:=QW.mp h;exact#[z.po x v,z.mo m (Qb.mp k).1]
theorem ub{e:Evt}(h:YV e="tell"):jD e:=by
 cases e with|see t p m x=>exact Qe (show QY "see"=QY "tell" from h) (by decide)|tell t a b m x q=>exact#[t,a,b,m,x,q,rfl]
theorem tf(h:GsOk w g)(x:n<w.es.9):(NV w g n).9<=g.past.9+1/\∀k∈NV w g n,k<w.es.9/\jD (KA w.es k):=by have:=h.tl;unfold NV;split;rename_i c;rw[QZ,q7]at c;refine#[by rw[QI];exact QAG this,λk hk=>?_];rcases Qf.mp hk with hk|hk;exact h.t k hk;rw[QJ.mp hk];exact#[x,ub c.2];exact#[(),h.t]
theorem MR(v:WOk w)(h:GsOk w g)(x:n<w.es.9):GsOk w (DD w g n):=by
 let#[u,z]:=tf h x;refine#[λk hk=>?_,?_,z,cZ v _ _,?_];rcases Qf.mp hk with hk|hk
 ·exact h.p k hk
 rw[QJ.mp hk];exact x;show(NV w g n).9<=(g.past++[n]).9;rw[QI];exact u;show(g.steps++_).9=(g.past++[n]).9;rw[QI,QI,h.s];rfl
theorem Vx(C:Ψ.sp "is_taken"=nY)(B:Ψ.sp "wrong_among"=jG)(A:Ψ.sp "live_among"=OG)(K:Ψ.sp "held_among"=ID){j:Option Sl}(i:WOk w)(a:GsOk w g)(E:g.past.9<60)(v:n<w.es.9)(hk:oO w y)(X:y.9<=10000)
  (q:∀x j o10,oO w x->x.9<=y.9+10->Z.nx (ge w (g.past++[n]) (NV w g n) (sO w (g.past++[n])) (nv w g n) x (DD w g n).steps (bD (nD n)) j o10)) :
  pF Ψ EN Z (ge w g.past g.taken (sO w g.past) g.held y g.steps (bD (nD n)) j o10):=by
 have F:=a.tl;have I:=a.s;let#[G,m]:=tf a v;have o:∀k∈g.past++[n],k<w.es.length:=(MR i a v).p;have r:=λ{o10}=>zt (Z:=Z) (wr:=sO w g.past) (held:=g.held) (st:=g.steps) (n:=n) (b:=Lo w g n) (o10:=o10) B A K i (past:=g.past++[n]) (by rw[QI];exact E) o (taken:=NV w g n) () m hk X () λx W Y=>q x _ _ W Y;delta ge Da;delta EN;simp![↓NH v,↓kA (md:=[.fro,.fro,.bor,.fro]) C rfl rfl,↓OB,↓da,↓Cu];refine#[_,_,_,_,rfl,i,(i.ev v),a.h,?_];simp![↓NH v,↓PJ];rw[QF,QF,<- P7];refine#[(),?_];have e:jw w (sO w g.past) g.held (KA w.es n)=Lo w g n:=rfl;rw[e];cases u:Lo w g n with
 |false=>have f:NV w g n=g.taken:=QB (by rw[u];exact λz=>by cases z);rw[f,u]at r;exact r|true =>
  cases l:decide (YV (KA w.es n)="tell") with|false=>have f:NV w g n=g.taken:=QB (by rw[u,l];exact λz=>by cases z);rw[f,u]at r;exact r|true=>have f:NV w g n=g.taken++[n]:=Qc (by rw[u,l];rfl);rw[f,u]at r;simp![↓zA];rw[QF,QF,<- P7];exact#[(),r]
theorem Je(e:Evt):∃t,XN (PD e)=jr t:=by
 cases e with|see t p m h=>exact#[t,rfl]|tell t a b m h q=>exact#[t,rfl]
def xO(w:Wd)(ns:LN):Prop:=Du (w.es.map PD) ns
theorem xg(h:xO w ns):∀n∈ns,n<w.es.length:=λn x=>by
 have:=Q6.mp (h.1.mem_iff.mp x)
 rwa [QF]at this
theorem B7(h:xO w ns):ns.9=w.es.length:=by rw[h.1.length_eq,Qz,QF]
theorem Uj{K:T->LT->Prop}{E:XE}(x:WOk w)(q:∀ns,xO w ns->K (Da ns) []):mL vr [.d (.list (w.es.map PD))] K E:=#[_,rfl,by rw[QF];exact We x.el (by decide),λe z=>by
 let#[v,_,rfl]:=QW.mp z;exact Je v,λns h=>by
 have:=q ns h;unfold Da at this;rw[Qa]at this;exact this]
def FL:PSp where
 run:=λh Q _=>∃w:Wd,h=[.d (wD w)]/\WOk w/\∀ns,xO w ns->Q (.lst (((iB w ns).steps.map tH).map T.d)) []
theorem Oy{E:XE}{r:PT}{i:Nat}{ρ:vA}:MI Ψ E r Z i (.lst []) kf ρ=pB Ψ E r Z (ρ.set i (bD (.list []))):=xp (ds:=[])
theorem Ac(l:Ψ.sp "going_order"=vr)(C:Ψ.sp "is_taken"=nY)(B:Ψ.sp "wrong_among"=jG)(A:Ψ.sp "live_among"=OG)(K:Ψ.sp "held_among"=ID):aE Ψ NX FL ga CY:=by rintro _ Q _ ⟨w,rfl,k,q⟩;have I:=k.el;refine uA [bD (wD w),kv,kv,kv,kv,kv,kv,kv,kv,kv,kv] ?_;delta NX;simp![↓OJ,↓kA (md:=[]) l rfl rfl];refine#[(),(),(),?_];simp![↓Oy,↓kA (md:=[]) l rfl rfl];refine#[(),Uj k λns u=>?_];delta Da;simp![↓zA];rw[<- pA nD];have E:=B7 u;refine HA (λn=>T.d (nD n)) (λr a=>∃g y i f o10,r.foldl (DD w) g=iB w ns/\(GsOk w g/\g.past.9+r.9<=60/\∀n∈r,n<w.es.9)/\(oO w y/\y.9<=10 * g.past.9)/\a=ge w g.past g.taken (sO w g.past) g.held y g.steps i f o10) ?_ ?_ ns _ #[#[[],[],[],[]],[],kv,kv,kv,rfl,#[#[λ_ z=>(by cases z),QV _,λ_ z=>(by cases z),λ_ z=>(by cases z),rfl],by show 0+ns.9<=60;omega,xg u],#[λ_ z=>(by cases z),QV _],rfl];rintro a ⟨g,y,i,f,o10,e,_,_,rfl⟩;have e:g=iB w ns:=e;subst e;delta ge;simp![↓zA];exact q ns u;rintro n r a N W ⟨g,y,i,f,o10,e,⟨p,o,m⟩,⟨s,F⟩,rfl⟩;have o:g.past.9+(r.9+1)<=60:=o;have j:=m n QD;refine Vx C B A K k p () j s () λh b v X G=>W _ #[DD w g n,h,_,b,v,e,#[MR k p j,?_,λx Y=>m x (QE _ Y)],#[X,?_],rfl];show(g.past++[n]).9+r.9<=60;rw[QI];show g.past.9+1+r.9<=60;omega;show h.9<=10 * (g.past++[n]).9;rw[QI];show h.9<=10 * (g.past.9+1);omega
def gq(w:Wd):Gs->LN->List Stp
 |_,[]=>[]|g,n::r=>(n,Lo w g n,Vs w g n,nv w g n)::gq w (DD w g n) r
theorem ES(w:Wd):∀(ns:LN) (g:Gs),(ns.foldl (DD w) g).steps=g.steps++gq w g ns
 |[],g=>(qL _).symm|n::r,g=>by show(r.foldl (DD w) (DD w g n)).steps=_;rw[ES w r];show(g.steps++[_])++_=g.steps++(_::_);rw[Q4];rfl
def g0:Gs:=#[[],[],[],[]]
theorem be(w:Wd)(ns:LN):(iB w ns).steps=gq w g0 ns:=ES w ns g0
theorem jAf(w:Wd):GsOk w g0:=#[λ_ z=>(by cases z),QV _,λ_ z=>(by cases z),λ_ z=>(by cases z),rfl]
end
section
variable{w:Wd}{es:List Evt}{f:Nat->Nat}(h:∀n,KA es n=KA w.es (f n))
include h
end
section
variable{n:Nat}{l:List D}{x:D}
theorem y8{ks:List Pt}{p q:Pt}:q∈jO ks p↔q∈ks∨q=p:=by unfold jO;split;rename_i c;exact#[.inl,λh=>h.elim id λe=>e▸c];rw[Qf,QJ]
def kO(evs:List Evt)(x m:Str)(n:Nat):Prop:=∃t h,KA evs n=.see t x m h
theorem iP{evs:List Evt}{x m:Str}:∀(l:LN) (ks:List Pt),(x,m)∈l.foldl (yC evs) ks↔(x,m)∈ks∨∃n∈l,kO evs x m n
 |[],ks=>#[.inl,λh=>h.elim id λ#[_,h,_]=>by cases h]|n::l,ks=>by
  show(x,m)∈l.foldl (yC evs) (yC evs ks n)↔_;rw[iP l];have e:(x,m)∈yC evs ks n↔(x,m)∈ks∨kO evs x m n:=by
   unfold yC kO;cases KA evs n with|see t p y z=>show _∈jO ks (p,y)↔_;rw[y8];exact or_congr WP #[λe=>by cases e;exact#[_,_,rfl],λ#[_,_,e]=>by cases e;rfl]|tell t a b y z q=>exact#[.inl,λh=>h.elim id λ#[_,_,e]=>by cases e]
  rw[e,or_assoc];refine or_congr WP #[λh=>?_,λ#[k,hk,h]=>?_];rcases h with h|⟨k,hk,h⟩
  ·exact#[n,QD,h]
  exact#[k,QE _ hk,h];rcases QL.mp hk with rfl|hk
  ·exact .inl h
  exact .inr #[k,hk,h]
theorem bT{evs:List Evt}{l:LN}{x m:Str}:(x,m)∈fB evs l↔∃n∈l,kO evs x m n:=(iP l []).trans #[λh=>h.elim (λh=>by cases h) id,.inr]
def VP(n:Nat)(x:D):Prop:=x.canLay0=kf/\x.depth<=n
theorem gN{n:Nat}:∀{l:List D},(∀x∈l,VP n x)->wC l=kf/\ww l<=n
 |[],_=>#[rfl,Qn _]|x::l,h=>by let#[k,w]:=h x QD;let#[u,z]:=gN (l:=l) λy v=>h y (QE _ v);exact#[by show(x.canLay0&&wC l)=kf;rw[k,u];rfl,Nat.max_le.mpr #[w,z]]
theorem OW(h:∀x∈l,VP n x):VP (n+1) (.list l):=#[(gN h).1,QAG (gN h).2]
theorem NW(h:∀x∈l,VP n x):VP (n+1) (.tuple l):=#[(gN h).1,QAG (gN h).2]
theorem fG{s:Str}(h:OkS s):VP n (.str s):=#[h,Qn _]
theorem E2{i:Int}:VP n (.int i):=#[rfl,Qn _]
theorem ET(h:VP n x)(y:n<=64):BE x:=#[h.1,QU h.2 y]
theorem k8{m:Nat}(h:VP n x)(y:n<=m):VP m x:=#[h.1,QU h.2 y]
theorem EC(h:VP n x)(u:∀y∈l,VP n y):∀y∈x::l,VP n y:=λy z=>by rcases QL.mp z with rfl|z;exact h;exact u y z
theorem A2:∀y∈([]:List D),VP n y:=λy h=>by cases h
theorem IT{α:Type}{f:α->D}{l:List α}(h:∀a∈l,VP n (f a)):∀y∈l.map f,VP n y:=λy z=>by let#[a,u,rfl]:=QW.mp z;exact h a u
theorem Lk(l:LN):BE (.list (l.map nD)):=ET (OW (n:=0) (IT λa _=>E2)) (by decide)
theorem Yg{p:Pt}(h:OkS p.1/\OkS p.2):VP 1 (pr p):=NW (EC (fG h.1) (EC (fG h.2) A2))
theorem Zs{p:Str×Int×Int×Int}(h:OkS p.1):VP 1 (yH p):=NW (EC (fG h) (EC E2 (EC E2 (EC E2 A2))))
theorem mj:OkS "see":=(by decide +kernel:qd "see"=kf)
theorem Xb:OkS "tell":=(by decide +kernel:qd "tell"=kf)
theorem Ks{w:Wd}(y:WOk w){e:Evt}(h:jY w e):VP 2 (PD e):=by
 cases e with|see t p m z=>exact NW (EC (fG mj) (EC E2 (EC (fG (y.nm h.1)) (EC (fG (y.mo _ h.2.1)) (EC (fG h.2.2) A2)))))|tell t a b m z q=>exact NW (EC (fG Xb) (EC E2 (EC (fG (y.nm h.1)) (EC (fG (y.nm h.2.1)) (EC (fG (y.mo _ h.2.2.1)) (EC (fG h.2.2.2.2.1) (EC (NW (IT λx u=>fG (y.nm (h.2.2.2.2.2 x u)))) A2)))))))
theorem Yr{w:Wd}(h:WOk w):BE (wD w):=ET (n:=4) (NW (EC (k8 (OW (IT λp y=>Zs (h.po p y))) (by decide)) (EC (k8 (OW (n:=0) (IT λm z=>fG (h.mo m z))) (by decide)) (EC (k8 (OW (IT λp y=>Yg (h.ag p y))) (by decide)) (EC (OW (IT λe u=>Ks h (h.eo e u))) A2))))) (by decide)
end
section
variable{ds es:List D}{L:Bool->Prop}{x:D}{y:fv}
theorem u9(h:BE (.tuple ds))(q:L kf):tX .Eq (.tuple ds) (.tuple ds) L:=#[h,h,by rw[PySem.SeqAt.eqv_refl _ h.1];exact q]
end
theorem Vl{w:Wd}{ns x:LN}(h:xO w ns)(h':xO w x):ns=x:=h.2.trans h'.2.symm
structure StK(w:Wd)(s:Stp):Prop where
 n:s.1<w.es.9
 l:aS w s.2.2.1
 h:uf s.2.2.2
theorem Xf{w:Wd}(z:WOk w):∀(ns:LN) (g:Gs),GsOk w g->g.past.9+ns.9<=60->(∀n∈ns,n<w.es.9)->∀s∈gq w g ns,StK w s
 |[],_,_,_,_,s,h=>by cases h|n::r,g,hg,hl,hn,s,h=>by have v:=hn n QD;have u:=MR z hg v;have hl:g.past.9+(r.9+1)<=60:=hl;have b:(DD w g n).past.9=g.past.9+1:=QI;rcases QL.mp h with rfl|h;have k:=IS (mH w.es (NV w g n) (sO w (g.past++[n])));have fl:(mH w.es (NV w g n) (sO w (g.past++[n]))).9<=(NV w g n).length:=qI _ _;have a:(NV w g n).9<=(DD w g n).past.length:=u.tl;refine#[v,#[?_,λx y=>u.t x (Qb.mp (k.mem_iff.mp y)).1],cZ z _ _];show(Vs w g n).9<=100;unfold Vs;rw[k.length_eq];omega;exact Xf z r _ u () (λx y=>hn x (QE _ y)) s h
theorem M5{w:Wd}:∀(ns:LN) (g:Gs),(gq w g ns).map (λs=>s.1)=ns
 |[],_=>rfl|n::r,g=>wy (n::·) (M5 r _)
theorem vX{w:Wd}{ns:LN}(h:WOk w)(x:xO w ns):(iB w ns).steps.map (λs=>s.1)=ns/\(iB w ns).steps.9<=60/\∀s∈(iB w ns).steps,StK w s:=by have z:=h.el;have y:=B7 x;have e:=M5 (w:=w) ns g0;have l:=wy qT e;rw[QF]at l;rw[be];exact#[e,(),Xf h ns g0 (jAf _) (by show 0+_<=_;omega) (xg x)]
noncomputable def lN(st:List Stp):LN:=match st.getLast? with
 |some s=>s.2.2.1|none=>[]
theorem JR(l:List Stp)(s:Stp):lN (l++[s])=s.2.2.1:=by unfold lN;rw[List.getLast?_concat]
theorem SV(st:List Stp):st=[]∨∃l s,st=l++[s]:=by
 rcases List.eq_nil_or_concat st with h|⟨l,s,h⟩
 exact .inl h;exact .inr #[l,s,by rw[h,List.concat_eq_append]]
theorem RW{w:Wd}{st:List Stp}(h:∀s∈st,StK w s):aS w (lN st):=by
 rcases SV st with rfl|⟨l,s,rfl⟩
 exact#[Qn _,λ_ z=>by cases z];rw[JR];exact(h s (QT _ QD)).l
theorem CZ{α:Type}(l:List α)(x:α):AC (l++[x]) (-1)=jr x:=by unfold AC XS;rw[QB (by decide),QI,Qc (by show -(((l.9+1:Nat)):Int)<=-1;omega)];show(l++[x])[((-1:Int)+((l.9+1:Nat):Int)).toNat]?=_;rw[show((-1:Int)+((l.9+1:Nat):Int)).toNat=l.9 by omega,Qu (QV _),QAn];rfl
def HW(w:Wd)(st:List Stp):D:=.tuple [wD w,.list (st.map tH)]
def Ml(w:Wd)(st:List Stp):T:=.tup [.d (wD w),.lst ((st.map tH).map T.d)]
theorem Mg(w:Wd)(st:List Stp):(Ml w st).er=HW w st:=by show PyData.tuple [wD w,.list (ersT ((st.map tH).map T.d))]=_;rw[xB];rfl
def yW:PSp where
 run:=λx Q _=>∃w:Wd,x=[.d (wD w)]/\WOk w/\∀h,xO w h->Q (Ml w (iB w h).steps) []
theorem Ir{a:D}{l:LT}:ZD [.d a,.lst l]=.tup [.d a,.lst l]:=rfl
theorem Nk{Ψ:PEv}(z:Ψ.sp "gone"=FL):aE Ψ pE yW GH uG:=by rintro _ Q _ ⟨w,rfl,x,q⟩;refine uA [bD (wD w)] ?_;delta pE;simp![↓kA (md:=[]) z rfl rfl];refine#[_,rfl,x,λh y=>?_];simp![↓Ir];exact#[(),q h y]
section
variable{w:Wd}{st:List Stp}{n m:Bool}{R:T->Prop}{xs:List (T×Bool)}{C:LT->Prop}{s:Stp}
theorem kY:CA (.d (HW w st)) n (.d (.int 0)) m R=R (.d (wD w)):=OA (i:=0) rfl
theorem j5:CA (.d (HW w st)) n (.d (.int 1)) m R=R (.d (.list (st.map tH))):=OA (i:=1) rfl
theorem By:KB [] ((Ml w st,kf)::xs) C=KB [] xs λts=>C (.d (HW w st)::ts):=by have e:XA [] ((Ml w st,kf)::xs) []=(XA [] xs []).map (.d (Ml w st).er::·):=rfl;unfold KB;rw[e,Mg,vF]
theorem TZ:CA (.d (tH s)) n (.d (.int 0)) m R=R (.d (nD s.1)):=OA (i:=0) rfl
theorem Jp:CA (.d (tH s)) n (.d (.int 2)) m R=R (.d (.list (s.2.2.1.map nD))):=OA (i:=2) rfl
end
def gI{α:Type}(l:List α)(i:Int)(d:α):α:=(AC l i).getD d
theorem nF{α:Type}{l:List α}{i:Int}{d:α}(z:0<=i)(y:i<l.9):AC l i=jr (gI l i d)/\gI l i d∈l:=by let#[v,x,h]:=TL z y;unfold gI;rw[x];exact#[rfl,qZ h]
theorem oC{α:Type}{f:α->D}{l:List α}{i:Int}(d:α){K:D->Prop}(x:0<=i)(h:i<l.9)(q:K (f (gI l i d))):xF (AC (l.map f) i) K:=by rw[BF,(nF (d:=d) x h).1];exact#[_,rfl,q]
theorem FA(a:Int){m:Int}(h:0<m):0<=a % m/\a % m<m:=#[Int.emod_nonneg _ (),Int.emod_lt_of_pos _ h]
noncomputable def Im{α:Type}(f:α->D)(p:α×Nat):T:=.d (.tuple [.int (p.2:Int),f p.1])
theorem nX{α:Type}(f:α->D)(l:List α):((l.map f).zipIdx.map λp=>T.d (.tuple [.int (p.2:Int),p.1]))=l.zipIdx.map (Im f):=by rw[List.zipIdx_map,Qa];rfl
theorem ya{Ψ:PEv}{E:XE}{c:PX}{s y r:PT}{Z:PEnds}{o:Option Sl}{σ:vA}:pB Ψ E (.seq (.ife c s y) r) Z (o::σ)=pO Ψ c E (o::σ) λk x=>if k=kf then pB Ψ E s { Z with nx:=λh=>pB Ψ E r Z h } x else pB Ψ E y { Z with nx:=λh=>pB Ψ E r Z h } x:=rfl
section
variable{Ψ:PEv}{E:XE}{ρ:vA}{K:TK}{a h y g b c d:PX}{x:D}{n:Bool}{f:Str}{w:g6}{i:Int}{j:Nat}
def vW(x:T)(n:Bool)(Ψ:PEv)(h y:PX)(E:XE)(p:vA)(K:TK):Prop:=sq (α:=Option Int) (fA x n) p (if isNop h=kf then λρ (R:Option Int->vA->Prop)=>R kv ρ else λρ R=>(pe Ψ h E).e ρ λl _ m=>cG l.er λo=>R o m) λl m =>
   sq (α:=Option Int) (fA x n) m (if isNop y=kf then λρ (R:Option Int->vA->Prop)=>R kv ρ else λρ R=>(pe Ψ y E).e ρ λu _ v=>cG u.er λo=>R o v) λu v=>kG (fA x n).vw l u λz k=>K z k v
theorem GK:zB Ψ (.slc a h y) E ρ K=zB Ψ a E ρ λx n z=>vW x n Ψ h y E z K:=rfl
theorem vt:vW (.d x) n Ψ .nop (.bin w a b) E ρ K=zB Ψ (.bin w a b) E ρ λu _ v=>SM u λo=>zF (.d x) n kv o λz k=>K z k v:=by cases n<;>rfl
theorem Gx:vW (.d x) n Ψ .nop (.var j) E ρ K=zB Ψ (.var j) E ρ λu _ v=>SM u λo=>zF (.d x) n kv o λz k=>K z k v:=by cases n<;>rfl
theorem Lx:vW (.d x) n Ψ .nop (.ng i) E ρ K=zF (.d x) n kv (jr (-i)) λz k=>K z k ρ:=by cases n<;>rfl
theorem Nx:vW (.d x) n Ψ (.bin w a b) (.var j) E ρ K=zB Ψ (.bin w a b) E ρ λu _ l=>SM u λo=>zB Ψ (.var j) E l λv _ e=>SM v λp=>zF (.d x) n o p λz k=>K z k e:=by cases n<;>rfl
end
section
variable{k c m j:Int}{K:T->LT->Prop}{E:XE}{Ψ:PEv}{a b l:LN}{n:Bool}{Z:PEnds}{ws:LS}{o10:Option Sl}
def JA(h:LJ)(k:Int):Int:=if k<h.9 then gI h k 0 else 0
def DI:PSp where
 md:=[.shal]
 run:=λx Q _=>∃(h:LJ) (k:Int),x=[.lst ((h.map j1).map T.d),.d (.int k)]/\0<=k/\Q (.d (.int (JA h k))) []
theorem F8{a b:LJ}(h:(a.map j1).map T.d=(b.map j1).map T.d):a=b:=(Wp λx y e=>by injection e).mp ((Wp λx y e=>by injection e).mp h)
theorem OI{h:LJ}:mL DI [.lst ((h.map j1).map T.d),.d (.int k)] K E=(0<=k/\K (.d (.int (JA h k))) []):=qs #[λ#[x,_,e,a,q]=>by injection e with e1 e2;injection e1 with e1;cases F8 e1;cases e2;exact#[a,q],λq=>#[h,k,rfl,q]]
theorem Ic:aE Ψ VG DI gL yJ:=by rintro _ Q _ ⟨h,k,rfl,x,q⟩;refine uA [jr (.bor (.lst ((h.map j1).map T.d))),bD (.int k)] ?_;delta VG;simp![QF];unfold JA at q;by_cases c:k<h.9;rw[Qc c]at q;rw[Qc (dT c)];exact oC 0 x c q;rw[QB c]at q;rw[QB (λz=>c (qq z))];exact q
noncomputable def nI(c k:Int):Int:=c % 2147483647 * (69621+1511 * k * k) % 2147483629
def cA(c k:Int):Int:=(nI c k+k) * (nI c k+5 * k+1) % 2147483587
theorem Nl(c k:Int):0<=cA c k/\cA c k<2147483587:=FA _ (by decide)
def yF:PSp where
 run:=λh Q _=>∃c k:Int,h=[.d (.int c),.d (.int k)]/\(0<=k/\k<=1000)/\Q (.d (.int (cA c k))) []
theorem IG:mL yF [.d (.int c),.d (.int k)] K E=((0<=k/\k<=1000)/\K (.d (.int (cA c k))) []):=qs #[λ#[_,_,e,a,q]=>by cases e;exact#[a,q],λq=>#[c,k,rfl,q]]
theorem Pk:aE Ψ YK yF mQ LM:=by rintro _ Q _ ⟨c,k,rfl,⟨x,h⟩,q⟩;refine uA [bD (.int c),bD (.int k),kv] ?_;delta YK;simp![↓zA];have a:=FA c (show(0:Int)<2147483647 by decide);have b:0<=nI c k/\nI c k<2147483629:=FA _ (by decide);unfold nI at b;exact#[JS.ok (.inl #[by decide,by decide]),JS.ok (.inr #[(),()]),JS.ok (.inl #[(),()]),JS.ok (.inl #[by decide,by decide]),JS.ok (.inl #[(),()]),q]
def sS(l:LN):Str:=#[l.toArray]
theorem tM(a b:LN):sS a++sS b=sS (a++b):=by show(#[a.toArray++b.toArray]:Str)=#[(a++b).toArray];rw[List.append_toArray]
theorem cE(l:LN):(sS l).9=l.length:=QM
theorem xW(l:LN):(sS l).cps.toList=l:=rfl
theorem Kj(h:sS a=sS b):a=b:=wy (λs:Str=>s.cps.toList) h
def ZV(l:LN):Prop:=∀c∈l,c<128
theorem kg(h:ZV l):OkS (sS l):=by show(l.toArray).all _=kf;rw[<- Array.all_toList,Q1];intro c hc;exact dT (QAi (h c hc) (by decide))
noncomputable abbrev nH:Str:="abcdefghijklmnopqrstuvwxyz"
def SB(n:Int):Nat:=97+(n % 26).toNat
theorem nN:nH.cps.toList=(Qq 26).map (·+97):=by decide +kernel
theorem TW(n:Int):SB n<128:=by have:=FA n (show(0:Int)<26 by decide);unfold SB;omega
theorem Ld(n:Int):AC nH.cps.toList (n % 26)=jr (SB n):=by
 have m:=FA n (show(0:Int)<26 by decide);have hl:nH.cps.toList.9=26:=by rw[nN];rfl
 let#[v,x,h]:=TL (xs:=nH.cps.toList) m.1 (by rw[hl];exact m.2);rw[x];rw[nN,Qd,WZ ()]at h;have h:(n % 26).toNat+97=v:=Qp h;unfold SB;rw[<- h,Nat.add_comm]
theorem x8{P:Nat->Prop}(q:P (SB m)):nH.length<=kb/\xF (AC nH.cps.toList (m % 26)) P:=by rw[Ld,GA];exact#[by rw[show nH.length=26 from rfl];omega,q]
theorem IU{P:Str->Prop}(h:a.9+b.9<=1000)(q:P (sS (a++b))):(sS a).9+(sS b).9<=kb/\P (sS a++sS b):=by rw[cE,cE,tM];exact#[(),q]
def oH:Int->Nat->LN
 |_,0=>[]|n,k+1=>SB n::oH (n / 26) k
theorem pC:∀(n:Int) (k:Nat),(oH n k).9=k
 |_,0=>rfl|n,k+1=>wy (·+1) (pC _ k)
theorem bH:∀(n:Int) (k:Nat),ZV (oH n k)
 |_,0,c,h=>by cases h|n,k+1,c,h=>by rcases QL.mp h with rfl|h;exact TW n;exact bH _ k c h
noncomputable def SJ:PSp where
 run:=λh Q _=>∃n k:Int,h=[.d (.int n),.d (.int k)]/\(0<=k/\k<=100)/\Q (.d (.str (sS (oH n k.toNat)))) []
theorem GQ{n:Int}:mL SJ [.d (.int n),.d (.int k)] K E=((0<=k/\k<=100)/\K (.d (.str (sS (oH n k.toNat)))) []):=qs #[λ#[_,_,e,a,q]=>by cases e;exact#[a,q],λq=>#[n,k,rfl,q]]
theorem Tk:aE Ψ KG SJ fL jJ:=by
 rintro _ Q _ ⟨n,k,rfl,⟨u,z⟩,q⟩;refine uA [bD (.int n),bD (.int k),kv,kv,kv] ?_;delta KG;simp![↓zA];refine#[(),(),?_];refine HA (λ(i:Nat)=>T.d (.int (i:Int))) (λr h=>∃m l x,l++oH m r.9=oH n k.toNat/\h=[bD (.int m),bD (.int k),bD (.str nH),bD (.str (sS l)),x]) ?_ ?_ _ _ #[n,[],kv,by rw[Qz];rfl,rfl];rintro h ⟨m,l,x,e,rfl⟩;have e:l=oH n k.toNat:=by rw[<- e];exact(qL _).symm
 subst e;simp![↓zA];exact q;rintro i r h N y ⟨m,l,x,e,rfl⟩;have hl:=wy qT e;rw[QI,pC,pC]at hl;delta CH;simp![↓zA];refine x8 (IU (a:=l) (b:=[SB m]) (P:=λs=>N [bD (.int (m / 26)),bD (.int k),bD (.str nH),bD (.str s),bD (.int (i:Int))]) (by show _+1<=_;omega) (y _ #[m / 26,l++[SB m],_,?_,rfl]));rw[Q4];exact e
noncomputable def Ds:LS:=["person","matter","against","see","tell","by","at","who","what","since","tellers"]
noncomputable def Cs:LS:=["wordings","apart","leans","hidden","strike","quote","ground","cut"]
def lst(z:Str):Nat:=z.cps.toList.getLast?.getD 0
def bx(z:Str):Bool:=decide (1<=z.9)&&decide (z.9<=10)&&decide (97<=lst z)&&decide (lst z<=122)&&(qH nH (sS [lst z]) 0 nH.length 1).head?==jr (lst z - 97)
theorem e8:((Ds++Cs).all bx)=true:=by decide +kernel
def eO(l:LN):LN:=if sS l∈Ds++Cs then l.dropLast++[SB ((lst (sS l) - 97:Nat)+13)] else l
theorem zj(h:ZV l):ZV (eO l):=by unfold eO;split;intro c hc;rcases Qf.mp hc with hc|hc;exact h c (List.dropLast_subset l hc);rw[QJ.mp hc];exact TW _;exact h
theorem mY(l:LN):(eO l).9=l.length:=by unfold eO;split;rename_i c;have k:=Q1.mp e8 _ c;unfold bx at k;rw[QZ,QZ,QZ,QZ,q7,cE]at k;have:=k.1.1.1.1;rw[QI,wn];show l.9 - 1+1=_;omega;rfl
theorem F5{p:Nat}(h:l[p]?=jr (SB m)):∃u:Int,(eO l)[p]?=jr (SB (m+13 * u)):=by
 unfold eO;split;have y:p<l.length:=(Qh.mp h).1;by_cases c:p<l.9 - 1;refine#[0,?_];rw[show m+13 * 0=m from Int.add_zero m,qS (by rw[wn];exact c),List.getElem?_dropLast,Qc c];exact h;refine#[1,?_];have e:p=l.9 - 1:=()
 rw[Qu (by rw[wn];omega),wn,e,QAn];have x:lst (sS l)=SB m:=by unfold lst;rw[xW,QAy,<- e,h];rfl
 rw[x];show jr (SB (((97+(m % 26).toNat - 97:Nat):Int)+13))=jr (SB (m+13));rw[Nat.add_sub_cancel_left,Int.toNat_of_nonneg (FA m (by decide)).1];unfold SB;rw[Int.emod_add_emod];exact#[0,(show m+13 * 0=m from Int.add_zero m).symm▸h]
def yG:PSp where
 run:=λh Q _=>∃l:LN,h=[.d (.str (sS l))]/\l.9<=100/\Q (.d (.str (sS (eO l)))) []
theorem jZ(ks:LS):(ks.map j0).all VB=true:=by rw[Q1];intro y h;let#[x,_,rfl]:=QW.mp h;rfl
theorem t8(ks:LS)(z:Str):((ks.map j0).any λy=>Qo y (.str z))=decide (z∈ks):=by rw[Q2,wZ,q7];constructor;rintro⟨y,u,h⟩;let#[x,v,rfl]:=QW.mp u;rw[oF,q7]at h;exact h▸v;exact λh=>#[_,QW.mpr #[z,h,rfl],by rw[oF];exact dT rfl]
theorem R5(h:1<=l.9):WI (sS l) kv (jr (-1))=sS l.dropLast:=by show QA7 (sS l) kv (jr (-1))=_;rw[StrLaws.sliceText_to_neg (by decide) (by rw[cE];omega),QBv,cE,xW,List.dropLast_eq_take];unfold sS;congr 3;omega
theorem Gv{m:Bool}{R:T->Prop}(h:1<=l.9)(y:l.9<=10):CA (.d (.str (sS l))) n (.d (.int (-1))) m R=R (.d (.str (sS [lst (sS l)]))):=by
 have x:AC (sS l).cps.toList (-1)=jr (lst (sS l)):=by unfold lst AC XS;rw[xW,QB (by decide),Qc ()];show l[_]?=_;rw[show((-1:Int)+l.9).toNat=l.9 - 1 by omega,QAy,Qk ()];rfl
 rw[Bv,x,GA,cE];exact qs #[λh=>h.2,λh=>#[(),h]]
theorem N5{Q:T->LT->Prop}{z:Str}{w:Option Sl}(hk:z∈Ds++Cs)(q:Q (.d (.str (sS (eO z.cps.toList)))) []):aD Ψ (λ_=>False) (eZ Q).rt (.bin .Add (.slc (.var 0) .nop (.ng 1)) (.idx (.var 1) (.bin .Mod (.bin .Add (.mt .index (.var 1) %[.idx (.var 0) (.ng 1)|1]) (.int 13)) (.int 26)))) [bD (.str z),bD (.str nH),w]:=by
 have k:=Q1.mp e8 z hk;unfold bx at k;rw[QZ,QZ,QZ,QZ,q7,q7,q7,q7,beq_iff_eq]at k;let#[#[#[#[x,v],g],f],h]:=k;have e:z=sS z.cps.toList:=rfl;generalize hl:z.cps.toList=l at *;subst e;rw[cE]at x v;cases y:qH nH (sS [lst (sS l)]) 0 nH.length 1 with|nil=>rw[y]at h;cases h|cons i u=>rw[y]at h;have h:i=lst (sS l) - 97:=Qp h;unfold eO at q;rw[Qc hk,<- h]at q;rw[ca,Va,GK];simp![↓Lx];refine#[by rw[cE];omega,?_];rw[R5 x];refine Ry y (λK=>rfl) (λK=>?_) ?_;exact Gv x v;simp![↓zA];exact x8 (IU (a:=l.dropLast) (b:=[SB ((i:Int)+13)]) (P:=λs=>Q (.d (.str s)) []) (by rw[wn];show _+1<=_;omega) q)
theorem t7:aE Ψ iK yG gQ GM:=by rintro _ Q _ ⟨l,rfl,hl,q⟩;refine uA [bD (.str (sS l)),kv,kv] ?_;delta iK;simp_arith![↓zA];refine#[(),?_];show MI Ψ (λ_=>False) _ (eZ Q) 2 (.lst ((Ds.map j0).map T.d)) kf [bD (.str (sS l)),bD (.str nH),kv];rw[xp];simp![↓yf];rw[t8];refine#[.inl #[rfl,jZ _],?_];by_cases x:sS l∈Ds;rw[dT x];exact N5 (Qm _ x) q;rw[dF x];refine#[(),?_];show UB .In (.d (.str (sS l))) (.d (.list (Cs.map j0))) _;rw[U9,t8];refine#[.inl #[rfl,jZ _],?_];by_cases h:sS l∈Cs;rw[dT h];exact N5 (QT _ h) q;rw[dF h];unfold eO at q;rw[QB λz=>(Qf.mp z).elim x h]at q;exact q
def DF(n:Int):LN:=oH (n * n+n) 8
def sH(n:Int):Int:=1+n / 3 % 8
def n5(n:Int):Int:=n / 24 % sH n
def GB(c:Int)(k:Nat):LN :=
 if cA c 1 % 3=0 then(DF (cA c 1)).take (n5 (cA c 1)).toNat++[SB (cA c 1 / 192+k)]++((DF (cA c 1)).drop (n5 (cA c 1)+1).toNat).take (sH (cA c 1) - (n5 (cA c 1)+1)).toNat
 else if cA c 1 % 3=1 then(DF (cA c 1)).take (1+(cA c 1 / 24+k) % 8).toNat
 else([SB (cA c 1 / 192+k)]++oH (cA c (k+2)) 7).take (1+cA c (k+40) % 8).toNat
theorem z5(n:Int):(1<=sH n/\sH n<=8)/\0<=n5 n/\n5 n<sH n:=by
 have a:=FA (n / 3) (show(0:Int)<8 by decide);have b:1<=sH n/\sH n<=8:=by unfold sH;omega
 exact#[b,FA _ ()]
theorem ZV.take(h:ZV l)(n:Nat):ZV (l.take n):=λc hc=>h c (QBo hc)
theorem ZV.drop(h:ZV l)(n:Nat):ZV (l.drop n):=λc hc=>h c (List.mem_of_mem_drop hc)
theorem ZV.app(h:ZV a)(g:ZV b):ZV (a++b):=λc hc=>(Qf.mp hc).elim (h c) (g c)
theorem v8(n:Int):ZV [SB n]:=λc hc=>by rw[QJ.mp hc];exact TW n
theorem Ra(c:Int)(k:Nat):ZV (GB c k):=by
 unfold GB;split;exact(((bH _ _).take _).app (v8 _)).app (((bH _ _).drop _).take _);split
 ·exact(bH _ _).take _
 exact((v8 _).app (bH _ _)).take _
theorem lz(a b c:Nat):min a 8+1+min b (8 - c)<=17:=Nat.add_le_add (Nat.add_le_add_right (WE _ _) 1) (QU (WE _ _) (Nat.sub_le _ _))
theorem u5(c:Int)(k:Nat):(GB c k).9<=20:=by
 have b:(DF (cA c 1)).9=8:=pC _ _;unfold GB;split;rw[QI,QI,Q8,Q8,QAF,b];exact QU (lz _ _ _) (by decide);split
 ·rw[Q8,b];exact QU (WE _ _) (by decide)
 rw[Q8,QI,pC];exact QU (WE _ (1+7)) (by decide)
theorem Pa{i j:Nat}(r:i<6)(q:j<6)(h:eO (GB c i)=eO (GB c j)):i=j:=by
 have key:∀(p:Nat) (a:Int),(∀k,(GB c k)[p]?=jr (SB (a+k)))->i=j:=λp a e=>by
  let#[u,f]:=F5 (e i);let#[v,o]:=F5 (e j);rw[h]at f;have l:∀{x y:Int},SB x=SB y->x % 26=y % 26:=λ{x y} e=>by have:=FA x (show(0:Int)<26 by decide);have:=FA y (show(0:Int)<26 by decide);unfold SB at e;omega
  have:=l (Qp (f.symm.trans o));omega
 have b:(DF (cA c 1)).9=8:=pC _ _;have ws:=z5 (cA c 1);by_cases z:cA c 1 % 3=0;refine key (n5 (cA c 1)).toNat (cA c 1 / 192) λk=>?_;unfold GB;have g:((DF (cA c 1)).take (n5 (cA c 1)).toNat).9=(n5 (cA c 1)).toNat:=by rw[Q8,b];omega
 rw[Qc z,Q4,Qu (),g,QAn];rfl;by_cases w:cA c 1 % 3=1
 ·have e:=wy qT h
  rw[mY,mY]at e;have a:∀k,(GB c k).9=(1+(cA c 1 / 24+k) % 8).toNat:=λk=>by have:=FA (cA c 1 / 24+k) (show(0:Int)<8 by decide);unfold GB;rw[QB z,Qc w,Q8,b];omega
  rw[a,a]at e;have:=FA (cA c 1 / 24+i) (show(0:Int)<8 by decide);have:=FA (cA c 1 / 24+j) (show(0:Int)<8 by decide);omega
 refine key 0 (cA c 1 / 192) λk=>?_;have m:=FA (cA c (k+40)) (show(0:Int)<8 by decide);unfold GB;rw[QB z,QB w];obtain⟨t,e⟩:∃t,(1+cA c (k+40) % 8).toNat=t+1:=#[(cA c (k+40) % 8).toNat,()]
 rw[e];rfl
def uE(c:Int)(m:Nat):LS:=if cA c 1 / 5000 % 2=1 then((Qq m).map λk=>sS (eO (GB c k))).reverse else(Qq m).map λk=>sS (eO (GB c k))
theorem FS(c:Int){m:Nat}(h:m<=6):(uE c m).Nodup/\(uE c m).9=m/\∀x∈uE c m,OkS x:=by
 have nd:((Qq m).map λk=>sS (eO (GB c k))).Nodup:=by refine QCf.mpr (w6 (λ{i j} v u z e=>z ?_) QCy);have:=Q6.mp v;have:=Q6.mp u;exact Pa () () (Kj e)
 have ok:∀x∈(Qq m).map λk=>sS (eO (GB c k)),OkS x:=λx y=>by let#[k,_,rfl]:=QW.mp y;exact kg (zj (Ra c k))
 unfold uE;split;exact#[(List.reverse_perm _).nodup_iff.mpr nd,by rw[qj,QF,Qz],λx y=>ok x (QBL.mp y)];exact#[nd,by rw[QF,Qz],ok]
def VI:PSp where
 run:=λh Q _=>∃(c:Int) (m:Nat),h=[.d (.int c),.d (.int (m:Int)),.d (.int 8)]/\m<=10/\Q (.lst (((uE c m).map j0).map T.d)) []
theorem pM(x:0<=j)(h:j<=l.9):WI (sS l) kv (jr j)=sS (l.take j.toNat):=by show QA7 (sS l) kv (jr j)=_;rw[StrLaws.sliceText_to #[x,h],QBv,Int.sub_zero];rfl
theorem K0{i:Int}(y:0<=i)(x:i<=j)(h:j<=l.9):WI (sS l) (jr i) (jr j)=sS ((l.drop i.toNat).take (j - i).toNat):=by show QA7 (sS l) (jr i) (jr j)=_;rw[StrLaws.sliceText_plain #[y,x,h]];rfl
def c5(c:Int)(m:Int)(ws:LS)(x o10 h:Option Sl):vA:=[bD (.int c),bD (.int m),bD (.int 8),bD (.str nH),bD (.int (cA c 1)),bD (.str (sS (DF (cA c 1)))),bD (.int (sH (cA c 1))),bD (.int (n5 (cA c 1))),oW (.lst ((ws.map j0).map T.d)),x,o10,h]
theorem Cp(x:Ψ.sp "_law_spelt"=yG){h:Option Sl}(hl:l.9<=20)(y:ws.length<=100)(q:Z.nx (c5 c m (ws++[sS (eO l)]) h o10 (bD (.str (sS l))))):pF Ψ gD Z (c5 c m ws h o10 (bD (.str (sS l)))):=by unfold c5 at q;rw[QR,QR]at q;delta c5;delta gD;simp![↓kA (md:=[]) x rfl rfl];refine#[_,rfl,(),?_];simp![QF];exact#[(),q]
theorem Tv(X:Ψ.sp "_law_spelt"=yG)(s:Ψ.sp "_law_mixed"=yF)(p:Ψ.sp "_law_letters"=SJ){k:Nat}{h:Option Sl}(hk:k<=100)(f:ws.length<=100)(q:∀o10 h,Z.nx (c5 c m (ws++[sS (eO (GB c k))]) (bD (.int (k:Int))) o10 h)):pF Ψ ZG Z (c5 c m ws (bD (.int (k:Int))) o10 h):=by
 have v:(DF (cA c 1)).9=8:=pC _ _;have g:=z5 (cA c 1);have r:∀(l:LN) (o10:Option Sl),l=GB c k->pF Ψ gD Z (c5 c m ws (bD (.int (k:Int))) o10 (bD (.str (sS l)))):=by rintro l o10 rfl;exact Cp X (u5 c k) f (q _ _)
 delta c5;delta ZG;simp![↓ya];refine x8 ?_;have w:(sS (DF (cA c 1))).9<=sizeLine:=by rw[cE,v];omega
 by_cases y:cA c 1 % 3=0;have x:WI (sS (DF (cA c 1))) kv (jr (n5 (cA c 1)))=_:=pM g.2.1 ();have i:WI (sS (DF (cA c 1))) (jr (n5 (cA c 1)+1)) (jr (sH (cA c 1)))=_:=K0 () () ();have r:=r _ (bD (.str (sS [SB (cA c 1 / 192+k)]))) (show _=GB c k from(Qc y).symm);rw[<- tM,<- tM]at r;rw[Qc (dT y)];simp![↓GK,↓Gx,↓Nx,↓R0,x,i];refine#[w,(IU (P:=λ_=>True) (b:=[SB (cA c 1 / 192+k)]) (by rw[Q8,v];show _+1<=_;omega) trivial).1,w,?_,r];rw[show(#[(qK [SB (cA c 1 / 192+k)])]:Str)=sS [SB (cA c 1 / 192+k)] from rfl,tM];refine(IU (P:=λ_=>True) ?_ trivial).1;rw[QI,Q8,Q8,QAF,v];exact QU (lz _ _ _) (by decide);rw[QB λz=>y (qq z)];by_cases u:cA c 1 % 3=1;have m:=FA (cA c 1 / 24+k) (show(0:Int)<8 by decide);have x:WI (sS (DF (cA c 1))) kv (jr (1+(cA c 1 / 24+k) % 8))=_:=pM () ();have r:=r _ (bD (.str (sS [SB (cA c 1 / 192+k)]))) (show _=GB c k from((QB y).trans (Qc u)).symm);rw[Qc (dT u)];simp![↓GK,↓vt,↓R0,x];exact#[w,r];have m:=FA (cA c (k+40)) (show(0:Int)<8 by decide);have o:([SB (cA c 1 / 192+k)]++oH (cA c (k+2)) 7).9=8:=by rw[QI,pC];rfl
 have x:WI (sS ([SB (cA c 1 / 192+k)]++oH (cA c (k+2)) 7)) kv (jr (1+cA c (k+40) % 8))=_:=pM () ();have r:=r _ (bD (.str (sS [SB (cA c 1 / 192+k)]))) (show _=GB c k from((QB y).trans (QB u)).symm);rw[QB λz=>u (qq z)];simp_arith![↓GK,↓vt,↓R0,↓kA (md:=[]) s rfl rfl,↓kA (md:=[]) p rfl rfl,↓IG,↓GQ];have e:(#[(qK [SB (cA c 1 / 192+k)])]:Str)++sS (oH (cA c (k+2)) (QDD 7))=sS ([SB (cA c 1 / 192+k)]++oH (cA c (k+2)) 7):=tM _ _;rw[e,x];refine#[(),(),(IU (a:=[SB (cA c 1 / 192+k)]) (b:=oH (cA c (k+2)) 7) (P:=λ_=>True) (by rw[pC];show 1+7<=_;omega) trivial).1,(),(),by rw[cE,o];omega,r]
theorem Cw{ds:List D}{Q:T->Bool->Prop}(q:Q (.lst (ds.reverse.map T.d)) kf):Gb (fA (.lst (ds.map T.d)) n).vw Q:=by rw[IB];exact#[_,ds,rfl,gA ds,q]
theorem l7(s:Ψ.sp "_law_spelt"=yG)(f:Ψ.sp "_law_mixed"=yF)(w:Ψ.sp "_law_letters"=SJ):aE Ψ eK VI fQ FM:=by rintro _ Q _ ⟨c,m,rfl,W,q⟩;have X:=z5 (cA c 1);have Y:=Nl c 1;refine uA [bD (.int c),bD (.int (m:Int)),bD (.int 8),kv,kv,kv,kv,kv,kv,kv,kv,kv] ?_;delta eK;simp![↓kA (md:=[]) f rfl rfl,↓kA (md:=[]) w rfl rfl,↓IG,↓GQ];refine#[JS.ok (.inl #[(),()]),(),(),(),(),?_];rw[qN];refine HA (λ(i:Nat)=>T.d (.int (i:Int))) (λr u=>∃ws v o10 h,ws++r.map (λk=>sS (eO (GB c k)))=(Qq m).map (λk=>sS (eO (GB c k)))/\(∀k∈r,k<=100)/\u=c5 c m ws v o10 h) ?_ ?_ _ _ #[[],kv,kv,kv,rfl,λk hk=>by have:=Q6.mp hk;omega,rfl];rintro u ⟨ws,v,o10,h,e,_,rfl⟩;rw[wa,qL]at e;subst e;delta c5;unfold uE at q;simp![↓zA];by_cases y:cA c 1 / 5000 % 2=1;rw[Qc y]at q;rw[Qc (dT y)];show Gb (fA (T.lst ((((Qq m).map λk=>sS (eO (GB c k))).map j0).map T.d)) kd).vw λz k=>BH z k=kf/\Q z [];refine Cw ?_;rw[<- WW];exact#[rfl,q];rw[QB y]at q;rw[QB λz=>y (qq z)];exact q;rintro k r u N p ⟨ws,v,o10,h,e,g,rfl⟩;have hl:=wy qT e;rw[QI,QF,QF,Qz]at hl;delta c5;refine Tv s f w (g k QD) () λo10 h=>p _ #[_,_,o10,h,?_,λx o=>g x (QE _ o),rfl];rw[Q4];exact e
def D6(x:Str)(m:Int):Str×Int×Int×Int:=(x,gI [99,50,20,99,0,50,99,21] (m / 6 % 8) 0,gI [0,0,0,20,50,99] (m % 6) 0,gI [1,1,1,2,2,3] (m / 48 % 6) 0)
def IV:PSp where
 run:=λh Q _=>∃(x:Str) (m:Int),h=[.d (.str x),.d (.int m)]/\Q (.d (yH (D6 x m))) []
end
section
variable{a b c d e f g h:D}{n m:Bool}{t:T}{R:T->Prop}
theorem Lv:CA (.lst [.d a,.d b,.d c,.d d,.d e,.d f]) n t m R=CA (.lst ([a,b,c,d,e,f].map T.d)) n t m R:=rfl
theorem Hv:CA (.lst [.d a,.d b,.d c,.d d,.d e,.d f,.d g,.d h]) n t m R=CA (.lst ([a,b,c,d,e,f,g,h].map T.d)) n t m R:=rfl
end
section
variable{Ψ:PEv}{k j:Nat}{ms ns:LS}{m X i x f:Int}{Z:PEnds}{s:Int×List Pt}{Y:Str}{ds:List D}{n:Bool}{Q:T->Bool->Prop}{evs:List Evt}{is:LJ}{U:List (Str×Int×Int×Int)}{o8:Option Sl}
theorem Hk:aE Ψ fI IV dO SK:=by rintro _ Q _ ⟨x,m,rfl,q⟩;have z:=FA m (show(0:Int)<6 by decide);have y:=FA (m / 6) (show(0:Int)<8 by decide);have h:=FA (m / 48) (show(0:Int)<6 by decide);refine uA [bD (.str x),bD (.int m),kv,kv] ?_;delta fI;simp_arith![↓Lv,↓Hv];refine#[(),oC (f:=j1) (l:=[0,0,0,20,50,99]) 0 z.1 z.2 ?_];refine#[(),oC (f:=j1) (l:=[99,50,20,99,0,50,99,21]) 0 y.1 y.2 ?_];refine#[(),oC (f:=j1) (l:=[1,1,1,2,2,3]) 0 h.1 h.2 ?_];exact#[(),q]
def Jo(ms:LS)(m:Int)(j k:Nat):List Pt:=if m % 3=0 then[(gI ms (j:Int) "",gI ms (k:Int) "")] else if m % 3=1 then[(gI ms (k:Int) "",gI ms (j:Int) "")] else[]
def Ee(ms:LS)(j:Nat)(s:Int×List Pt)(k:Nat):Int×List Pt:=(s.1 / 3,s.2++Jo ms (s.1 / 3) j k)
def Ie(ms:LS)(s:Int×List Pt)(j:Nat):Int×List Pt:=(Qq j).foldl (Ee ms j) s
def yp(ms:LS)(m:Int):List Pt:=((Qq ms.9).foldl (Ie ms) (m,[])).2
theorem OR{α:Type}{l:List α}{d:α}(h:k<l.9):AC l (k:Int)=jr (gI l (k:Int) d)/\gI l (k:Int) d∈l:=nF (QCP k) ()
def aV(ms:LS)(l:List Pt):Prop:=∀p∈l,p.1∈ms/\p.2∈ms
theorem S9(y:j<ms.9)(hk:k<ms.9):aV ms (Jo ms m j k)/\(Jo ms m j k).9<=1:=by
 have a:=(OR (d:=("":Str)) y).2;have b:=(OR (d:=("":Str)) hk).2;unfold Jo;split;exact#[λp h=>by rw[QJ.mp h];exact#[a,b],QV _];split
 ·exact#[λp h=>by rw[QJ.mp h];exact#[b,a],QV _]
 exact#[λp h=>(by cases h),Qn _]
theorem AX{ms:LS}{j:Nat}(y:j<ms.9):∀(l:LN) (s:Int×List Pt),(∀k∈l,k<ms.9)->aV ms s.2->aV ms (l.foldl (Ee ms j) s).2/\(l.foldl (Ee ms j) s).2.length<=s.2.9+l.9
 |[],s,_,h=>#[h,QV _]|k::l,s,hl,h=>by let#[a,b]:=S9 (m:=s.1 / 3) y (hl k QD);let#[c,d]:=AX y l (Ee ms j s k) (λx z=>hl x (QE _ z)) λp u=>(Qf.mp u).elim (h p) (a p);refine#[c,QU d ?_];show(s.2++Jo ms (s.1 / 3) j k).9+l.9<=s.2.9+(l.9+1);rw[QI];omega
theorem T9{ms:LS}(u:ms.9<=10):∀(l:LN) (s:Int×List Pt),(∀k∈l,k<ms.9)->aV ms s.2->aV ms (l.foldl (Ie ms) s).2/\(l.foldl (Ie ms) s).2.length<=s.2.9+10 * l.9
 |[],s,_,h=>#[h,QV _]|j::l,s,hl,h=>by have y:=hl j QD;let#[a,b]:=AX y (Qq j) s (λk hk=>QAi (Q6.mp hk) y) h;let#[c,d]:=T9 u l (Ie ms s j) (λx z=>hl x (QE _ z)) a;rw[Qz]at b;refine#[c,QU d ?_];show((Qq j).foldl (Ee ms j) s).2.length+_<=s.2.9+10 * (l.9+1);omega
theorem Yo(y:ms.9<=10)(m:Int):aV ms (yp ms m)/\(yp ms m).9<=100:=by
 let#[a,b]:=T9 y (Qq ms.9) (m,[]) (λk hk=>Q6.mp hk) λp h=>by cases h
 rw[Qz]at b;exact#[a,QU b (by show 0+_<=_;omega)]
def GL:PSp where
 run:=λds Q _=>∃(ms:LS) (m:Int),ds=[.d (.list (ms.map j0)),.d (.int m)]/\ms.9<=10/\Q (.lst (((yp ms m).map pr).map T.d)) []
noncomputable def R9(ms:LS)(s:Int×List Pt)(o3 o4:Option Sl):vA:=[bD (.list (ms.map j0)),bD (.int s.1),oW (.lst ((s.2.map pr).map T.d)),o3,o4]
theorem Jy(w:j<ms.9)(hk:k<ms.9)(a:s.2.9<=1000)(q:Z.nx (R9 ms (Ee ms j s k) (bD (.int (j:Int))) (bD (.int (k:Int))))):pF Ψ sE Z (R9 ms s (bD (.int (j:Int))) (bD (.int (k:Int)))):=by
 have u:AC (ms.map j0) (k:Int)=jr (.str (gI ms (k:Int) "")):=by rw[BF,(OR (d:=("":Str)) hk).1];rfl
 have v:AC (ms.map j0) (j:Int)=jr (.str (gI ms (j:Int) "")):=by rw[BF,(OR (d:=("":Str)) w).1];rfl
 unfold R9 Ee Jo at q;delta R9;delta sE;simp![↓ya];by_cases y:s.1 / 3 % 3=0;rw[Qc y,QR,QR]at q;rw[Qc (dT y)];simp![u,v,QF];exact#[(),(),q];rw[QB y]at q;rw[QB λz=>y (qq z)];by_cases h:s.1 / 3 % 3=1;rw[Qc h,QR,QR]at q;rw[Qc (dT h)];simp![u,v,QF];exact#[(),(),q];rw[QB h,qL]at q;rw[QB λz=>h (qq z)];exact q
theorem iy{o4:Option Sl}(z:j<ms.9)(l:ms.9<=10)(g:aV ms s.2)(b:s.2.9<=100)(q:∀o4,Z.nx (R9 ms (Ie ms s j) (bD (.int (j:Int))) o4)):pF Ψ rE Z (R9 ms s (bD (.int (j:Int))) o4):=by delta R9;delta rE;simp![qN];refine#[(),(),?_];refine HA (λ(i:Nat)=>T.d (.int (i:Int))) (λr y=>∃h o4,r.foldl (Ee ms j) h=Ie ms s j/\(h.2.9+r.9<=200/\∀k∈r,k<ms.9)/\y=R9 ms h (bD (.int (j:Int))) o4) ?_ ?_ _ _ #[s,o4,rfl,#[by rw[Qz];omega,λk hk=>QAi (Q6.mp hk) z],rfl];rintro y ⟨h,o4,e,_,rfl⟩;have e:h=Ie ms s j:=e;subst e;delta R9;simp![↓zA];exact q _;rintro k r y N a ⟨h,o4,e,⟨v,u⟩,rfl⟩;have v:h.2.9+(r.9+1)<=200:=v;have hk:=u k QD;refine Jy z hk () (a _ #[_,_,e,#[?_,λx w=>u x (QE _ w)],rfl]);have:=(S9 (ms:=ms) (m:=h.1 / 3) z hk).2;show(h.2++Jo ms (h.1 / 3) j k).9+r.9<=200;rw[QI];omega
theorem jd:aE Ψ XG GL lL zJ:=by rintro _ Q _ ⟨ms,m,rfl,K,q⟩;refine uA [bD (.list (ms.map j0)),bD (.int m),kv,kv,kv] ?_;delta XG;simp![QF,qN];refine#[(),(),(),?_];refine HA (λ(i:Nat)=>T.d (.int (i:Int))) (λr z=>∃h u y,r.foldl (Ie ms) h=(Qq ms.9).foldl (Ie ms) (m,[])/\(h.2.9+10 * r.9<=100/\aV ms h.2/\∀k∈r,k<ms.9)/\z=R9 ms h u y) ?_ ?_ _ _ #[(m,[]),kv,kv,rfl,#[by rw[Qz];show 0+_<=_;omega,(λp W=>by cases W),λk hk=>Q6.mp hk],rfl];rintro z ⟨h,u,y,e,_,rfl⟩;have e:h.2=yp ms m:=wy QCO e;delta R9;simp![↓zA];rw[e];exact q;rintro j r z N A ⟨h,u,y,e,⟨l,g,w⟩,rfl⟩;have l:h.2.9+10 * (r.9+1)<=100:=l;have v:=w j QD;let#[a,b]:=AX v (Qq j) h (λk hk=>QAi (Q6.mp hk) v) g;rw[Qz]at b;refine iy v K g () λy=>A _ #[_,_,y,e,#[?_,a,λx o=>w x (QE _ o)],rfl];show((Qq j).foldl (Ee ms j) h).2.length+10 * r.9<=100;omega
noncomputable def X4(Y:Str)(X:Int)(s:Str×LS):Evt->Str×LS
 | .see _ _ _ _=>s|.tell _ a b m _ _=>if b=s.1/\m=Y/\(s.2.9:Int)<X then(a,s.2++[a]) else s
theorem e6{s:Str×LS}{t:Int}{a b m w:Str}{q:LS}:X4 Y X s (.tell t a b m w q)=if b=s.1/\m=Y/\(s.2.9:Int)<X then(a,s.2++[a]) else s:=rfl
def Nw(evs:List Evt)(x Y:Str)(X:Int):LS:=(evs.reverse.foldl (X4 Y X) (x,[])).2
def ME(evs:List Evt):T:=.lst ((evs.map PD).map T.d)
def lM:PSp where
 md:=[.shal]
 run:=λds Q _=>∃(evs:List Evt) (x Y:Str) (X:Int),ds=[ME evs,.d (.str x),.d (.str Y),.d (.int X)]/\evs.9<=1000/\Q (.d (.tuple ((Nw evs x Y X).map j0))) []
def No(evs:List Evt)(x Y:Str)(X:Int)(s:Str×LS)(o6:Option Sl):vA:=[jr (.bor (ME evs)),bD (.str x),bD (.str Y),bD (.int X),oW (.lst ((s.2.map j0).map T.d)),bD (.str s.1),o6]
theorem lg:RL .tuple [(.lst (ds.map T.d),n)] Q=Q (.d (.tuple ds)) false:=by unfold RL ZB;rw[IB];show BZ .tuple [.ls (ds.map T.d)] Q=_;rw[vh];exact qs #[λ#[_,e,q]=>by rw[gA]at e;cases e;exact q,λq=>#[_,gA _,q]]
theorem Ow{x:Str}{s:Str×LS}{e:Evt}(hl:s.2.9<=10000)(q:Z.nx (No evs x Y X (X4 Y X s e) (bD (PD e)))):pF Ψ xE Z (No evs x Y X s (bD (PD e))):=by
 delta No;cases e with|see t p m v=>delta xE;simp![↓PJ,YV];exact BD (show decide ((QY "see")=(QY "tell"))≠kf by decide) q|tell t a b m v w=>rw[e6]at q;delta xE;simp![↓PJ,YV,↓BS,↓R4,↓kP,QF];by_cases u:b=s.1;rw[Qc (dT u)];by_cases y:m=Y;rw[Qc (dT y)];by_cases h:(s.2.9:Int)<X;rw[Qc #[u,y,h]]at q;unfold No at q;rw[QR,QR]at q;rw[Qc (dT h)];exact#[(),q];rw[QB λz=>h z.2.2]at q;rw[QB λz=>h (qq z)];exact q;rw[QB λz=>y z.2.1]at q;rw[QB λz=>y (qq z)];exact q;rw[QB λz=>u z.1]at q;rw[QB λz=>u (qq z)];exact q
theorem VY(Y:Str)(X:Int)(s:Str×LS)(e:Evt):(X4 Y X s e).2.length<=s.2.9+1:=by
 cases e with|see t p m h=>exact wU _|tell t a b m h q=>rw[e6];split;show(s.2++[a]).9<=_;rw[QI];exact QV _;exact wU _
theorem i7:aE Ψ JK lM lQ HM:=by rintro _ Q _ ⟨evs,x,Y,X,rfl,hl,q⟩;refine uA [jr (.bor (ME evs)),bD (.str x),bD (.str Y),bD (.int X),kv,kv,kv] ?_;delta ME;delta JK;simp![↓zA];refine#[(),?_];rw[<- WW,<- pA PD];refine HA (λe=>T.d (PD e)) (λr h=>∃s y,r.foldl (X4 Y X) s=evs.reverse.foldl (X4 Y X) (x,[])/\s.2.9+r.9<=1000/\h=No evs x Y X s y) ?_ ?_ _ _ #[(x,[]),kv,rfl,by rw[qj];show 0+_<=_;omega,rfl];rintro h ⟨s,y,e,_,rfl⟩;have e:s.2=Nw evs x Y X:=wy QCO e;delta No;simp![↓lg];rw[e];exact q;rintro ev r h N z ⟨s,y,e,g,rfl⟩;have g:s.2.9+(r.9+1)<=1000:=g;have:=VY Y X s ev;exact Ow () (z _ #[_,_,e,(),rfl])
def bp(ns ms:LS):Evt->Prop
 | .see _ p m h=>p∈ns/\m∈ms/\OkS h|.tell _ a b m h q=>a∈ns/\b∈ns/\m∈ms/\a≠b/\OkS h/\∀x∈q,x∈ns
theorem i6{ns ms:LS}{Y:Str}{X:Int}:∀(l:List Evt) (s:Str×LS),(∀e∈l,bp ns ms e)->(∀x∈s.2,x∈ns)->∀x∈(l.foldl (X4 Y X) s).2,x∈ns
 |[],s,_,h=>h|e::l,s,hl,h=>by
  refine i6 l (X4 Y X s e) (λx y=>hl x (QE _ y)) λx y=>?_;have u:=hl e QD;cases e with
  |see t p m z=>exact h x y|tell t a b m z q =>
   rw[e6]at y;split at y;rcases Qf.mp y with y|y
   ·exact h x y
   rw[QJ.mp y];exact u.1;exact h x y
def kK(ns:LS)(r:Int):Int:=r % (ns.9:Int)
noncomputable def Zc(ns:LS)(r:Int):Int:=(kK ns r+1+r / 360 % ((ns.9:Int) - 1)) % (ns.9:Int)
def kN(ns:LS)(i:Int):Str:=gI ns i ""
def Ll(ms:LS)(r:Int):Str:=gI ms (r / 7 % (ms.9:Int)) ""
def Eu(m:Int):Int:=gI [m / 3 % 5,m / 3 % 30,999999999 - m / 3 % 4] (m % 3) 0
def Dp(r:Int):Str:=sS (oH r (1+r / 11 % 8).toNat)
def Oq(evs:List Evt)(ns ms:LS)(r:Int):LS:=if r / 10000 % 5=0 then(Qq (1+r / 2500 % 6).toNat).map λ(k:Nat)=>kN ns ((r / 50000+2 * (k:Int)) % (ns.9:Int)) else Nw evs (kN ns (kK ns r)) (Ll ms r) (r / 2500 % 7)
def Nm(evs:List Evt)(ns ms:LS)(m:Int):Evt:=if m / 40 / 90 % 4=0 then .see (Eu m) (kN ns (kK ns (m / 40))) (Ll ms (m / 40)) (Dp (m / 40)) else .tell (Eu m) (kN ns (kK ns (m / 40))) (kN ns (Zc ns (m / 40))) (Ll ms (m / 40)) (Dp (m / 40)) (Oq evs ns ms (m / 40))
structure NsB(ns ms:LS):Prop where
 n2:2<=ns.9
 nl:ns.9<=11
 nd:ns.Nodup
 m1:1<=ms.9
 ml:ms.9<=10
theorem xL(y:0<=i)(h:i<ns.9):kN ns i∈ns:=(nF y h).2
theorem ug(nd:ns.Nodup){j:Int}(w:0<=i)(z:i<ns.9)(y:0<=j)(h:j<ns.9)(o:i≠j):kN ns i≠kN ns j:=λe=>by let#[v,l,g]:=TL w z;let#[u,b,a]:=TL y h;unfold kN gI at e;rw[l,b]at e;have e:v=u:=e;subst e;have:=(List.getElem?_inj (i:=i.toNat) () nd).mp (g.trans a.symm);omega
theorem A6(h:2<=ns.9)(r:Int):(0<=kK ns r/\kK ns r<ns.9)/\(0<=Zc ns r/\Zc ns r<ns.9)/\kK ns r≠Zc ns r:=by
 have a:0<=kK ns r/\kK ns r<ns.length:=FA r ();have b:=FA (r / 360) (show(0:Int)<(ns.9:Int) - 1 by omega);have c:0<=Zc ns r/\Zc ns r<ns.length:=FA _ ();refine#[a,c,λe=>?_];unfold Zc at e;generalize r / 360 % ((ns.9:Int) - 1)=y at *;generalize kK ns r=o at *;have d:(o+1+y) % (ns.9:Int)=o+1+y∨(o+1+y) % (ns.9:Int)=o+1+y - ns.length:=by by_cases z:o+1+y<ns.9;left;exact W0 () z;right;rw[<- Int.sub_emod_right];exact W0 () ()
 omega
theorem bt(hb:NsB ns ms)(w:∀e∈evs,bp ns ms e)(m:Int):bp ns ms (Nm evs ns ms m):=by
 have v:=hb.n2;have g:=hb.m1;let#[a,b,c]:=A6 v (m / 40);have u:Ll ms (m / 40)∈ms:=by have:=FA (m / 40 / 7) (show(0:Int)<(ms.9:Int) by omega);exact(nF this.1 this.2).2
 have z:OkS (Dp (m / 40)):=kg (bH _ _);unfold Nm;split;exact#[xL a.1 a.2,u,z];refine#[xL a.1 a.2,xL b.1 b.2,u,ug hb.nd a.1 a.2 b.1 b.2 c,z,?_];unfold Oq;split;intro x y;let#[k,_,rfl]:=QW.mp y;have:=FA (m / 40 / 50000+2 * (k:Int)) (show(0:Int)<(ns.9:Int) by omega);exact xL this.1 this.2;exact i6 evs.reverse _ (λe h=>w e (QBL.mp h)) λx y=>by cases y
def oM:PSp where
 md:=[.shal]
 run:=λds Q _=>∃(evs:List Evt) (ns ms:LS) (m:Int),ds=[ME evs,.d (.list (ns.map j0)),.d (.list (ms.map j0)),.d (.int m)]/\(evs.9<=1000/\NsB ns ms)/\Q (.d (PD (Nm evs ns ms m))) []
theorem Js{a b c d e f g:D}:ZD [.d a,.d b,.d c,.d d,.d e,.d f,.d g]=.d (.tuple [a,b,c,d,e,f,g]):=rfl
def nz(evs:List Evt)(ns ms:LS)(m:Int)(h o10:Option Sl):vA:=[jr (.bor (ME evs)),bD (.list (ns.map j0)),bD (.list (ms.map j0)),bD (.int m),bD (.int (Eu m)),bD (.int (m / 40)),bD (.int (kK ns (m / 40))),bD (.str (Ll ms (m / 40))),bD (.str (Dp (m / 40))),h,o10]
theorem AZ{m:Bool}{R:T->Prop}(y:0<=i)(h:i<ns.9):CA (.d (.list (ns.map j0))) n (.d (.int i)) m R=R (.d (.str (kN ns i))):=by rw[Oa,BF,(nF (d:=("":Str)) y h).1];exact GA
theorem Jt{Q:T->LT->Prop}{l:LS}(h:2<=ns.9)(q:Q (.d (PD (.tell (Eu m) (kN ns (kK ns (m / 40))) (kN ns (Zc ns (m / 40))) (Ll ms (m / 40)) (Dp (m / 40)) l))) []):pF Ψ YF (eZ Q) (nz evs ns ms m (bD (.int (Zc ns (m / 40)))) (bD (.tuple (l.map j0)))):=by let#[a,b,c]:=A6 h (m / 40);delta nz;delta YF;simp![↓AZ a.1 a.2,↓AZ b.1 b.2,↓Js];exact#[(),q]
theorem yl(r:Ψ.sp "_law_letters"=SJ)(p:Ψ.sp "_law_quote"=lM):aE Ψ ZK oM nQ MM:=by rintro _ Q _ ⟨evs,ns,ms,m,rfl,⟨hl,hb⟩,q⟩;have u:=hb.n2;have W:=hb.m1;let#[a,b,c]:=A6 u (m / 40);have e:=FA m (show(0:Int)<3 by decide);have B:=FA (m / 40 / 11) (show(0:Int)<8 by decide);have w:=FA (m / 40 / 7) (show(0:Int)<(ms.9:Int) by omega);refine uA [jr (.bor (ME evs)),bD (.list (ns.map j0)),bD (.list (ms.map j0)),bD (.int m),kv,kv,kv,kv,kv,kv,kv] ?_;delta ZK;simp_arith![QF,↓kA (md:=[]) r rfl rfl,↓GQ];refine#[(),oC (f:=j1) (l:=[m / 3 % 5,m / 3 % 30,999999999 - m / 3 % 4]) 0 e.1 e.2 ?_];refine#[(),(),oC (f:=j0) (l:=ms) "" w.1 w.2 #[(),(),?_]];unfold Nm at q;by_cases y:m / 40 / 90 % 4=0;rw[Qc y]at q;rw[Qc (dT y)];exact oC (f:=j0) (l:=ns) "" a.1 a.2 #[(),q];rw[QB y]at q;rw[QB λz=>y (qq z)];refine#[(),(),?_];have g:0<=m / 40 % (ns.9:Int)/\m / 40 % (ns.9:Int)<ns.length:=a;delta ME;simp_arith![↓kA (md:=[.shal]) p rfl rfl,↓AZ g.1 g.2];refine#[_,_,_,_,rfl,hl,?_];unfold Oq at q;simp_arith![↓zA];by_cases h:m / 40 / 10000 % 5=0;rw[Qc h]at q;rw[Qc (dT h)];have A:=FA (m / 40 / 2500) (show(0:Int)<6 by decide);refine#[(),(),?_];refine NA (λ(i:Nat)=>T.d (.int (i:Int))) (λi=>T.d (.str (kN ns ((m / 40 / 50000+2 * (i:Int)) % (ns.9:Int))))) _ [] _ (λi K R o=>?_) (by rw[Qz];show 0+_<=_;omega) ?_;have v:=FA (m / 40 / 50000+2 * (i:Int)) (show(0:Int)<(ns.9:Int) by omega);simp![QF];exact#[JS.ok (.inl #[by decide,by decide]),(),oC (f:=j0) (l:=ns) "" v.1 v.2 o];rw[Qi,pA λ(i:Nat)=>j0 (kN ns ((m / 40 / 50000+2 * (i:Int)) % (ns.9:Int)))];simp![↓lg];have q:=Jt (Ψ:=Ψ) (evs:=evs) u q;rw[Qa]at q;exact q;rw[QB h]at q;rw[QB λz=>h (qq z)];exact Jt u q
def Io(m:Int)(s:LJ)(p:Int×Nat):LJ:=s.set ((p.2:Int) % m).toNat (gI s ((p.2:Int) % m) 0+p.1)
noncomputable def Eo(m:Int)(cs:LJ):LJ:=(Qq (if(cs.9:Int)<m then(cs.9:Int) else m).toNat).map λ_=>0
def ae(m:Int)(cs:LJ):LJ:=cs.zipIdx.foldl (Io m) (Eo m cs)
theorem rZ(m:Int)(cs:LJ):(Eo m cs).9=(if(cs.9:Int)<m then(cs.9:Int) else m).toNat:=by unfold Eo;rw[QF,Qz]
theorem A8(m:Int):∀(l:List (Int×Nat)) (s:LJ),(l.foldl (Io m) s).9=s.9
 |[],s=>rfl|p::l,s=>(A8 m l (Io m s p)).trans wT
theorem SR(cs:LJ)(h:0<m):(ae m cs).9<=m.toNat:=by unfold ae;rw[A8,rZ];split<;>omega
def RG:PSp where
 md:=[.shal]
 run:=λds Q _=>∃(h:LJ) (m:Int),ds=[.lst ((h.map j1).map T.d),.d (.int m)]/\(0<m/\m<=100)/\Q (.lst (((ae m h).map j1).map T.d)) []
noncomputable def Mm(cs:LJ)(m:Int)(s:LJ)(o3 o4:Option Sl):vA:=[jr (.bor (.lst ((cs.map j1).map T.d))),bD (.int m),oW (.lst ((s.map j1).map T.d)),o3,o4]
theorem Tx{cs s:LJ}(h:0<m)(hk:(k:Int) % m<s.9)(q:Z.nx (Mm cs m (Io m s (x,k)) (bD (.int (k:Int))) (bD (.int x)))):pF Ψ JF Z (Mm cs m s (bD (.int (k:Int))) (bD (.int x))):=by have y:=(FA (k:Int) h).1;unfold Mm Io at q;rw[List.map_set]at q;delta Mm;delta JF;simp![↓zA];refine#[h,oC (f:=j1) (l:=s) 0 y hk ?_];simp![↓zA];exact#[h,aw y (by rw[QF];exact hk) q]
theorem G1:aE Ψ lI RG fO AK:=by
 rintro _ Q _ ⟨h,m,rfl,⟨a,E⟩,q⟩;refine uA [jr (.bor (.lst ((h.map j1).map T.d))),bD (.int m),kv,kv,kv] ?_;have l:=rZ m h;have w:0<=(if(h.9:Int)<m then(h.9:Int) else m)/\(if(h.9:Int)<m then(h.9:Int) else m)<=100:=by split<;>omega
 delta lI;simp![QF];refine#[QAm (by decide) w.1,Int.lt_of_le_of_lt w.2 (by decide),?_];refine NA (λ(i:Nat)=>T.d (.int (i:Int))) (λ_=>T.d (.int 0)) _ [] _ (λi B R o=>?_) (by rw[Qz];show 0+_<=_;omega) ?_;simp![↓zA];exact o;rw[Qi,pA λ(_:Nat)=>j1 0];have e:((Qq (if(h.9:Int)<m then(h.9:Int) else m).toNat).map λ_=>j1 0)=(Eo m h).map j1:=by unfold Eo;rw[Qa];rfl
 rw[e,nX];refine HA (Im j1) (λr y=>∃s u z,r.foldl (Io m) s=ae m h/\(s.9=(Eo m h).9/\∀p∈r,p.2<h.9)/\y=Mm h m s u z) ?_ ?_ _ _ #[_,kv,kv,rfl,#[rfl,λp v=>by let#[_,C,_]:=QBg v;omega],rfl];rintro y ⟨s,u,z,e,_,rfl⟩;have e:s=ae m h:=e;subst e;delta Mm;simp![↓zA];exact q;rintro⟨x,k⟩ r y N W ⟨s,u,z,e,⟨g,b⟩,rfl⟩;have A:k<h.length:=b (x,k) QD;have K:=FA (k:Int) a;delta Mm Im;rw[Re,SZ];refine Tx a ?_ (W _ #[_,_,_,e,#[wT.trans g,λp v=>b p (QE _ v)],rfl]);show(k:Int) % m<(s.9:Int);rw[g,l];by_cases c:(h.9:Int)<m;rw[Qc c,W0 () ()];omega;rw[QB c];omega
def UH(is:LJ):LS:=uE (JA is 0) (2+cA (JA is 0) 1 % 5).toNat
def dN(is:LJ):LS:=uE (JA is 1) (1+cA (JA is 1) 2 % 3).toNat
def Ab(c:Int)(ns:LS):List (Str×Int×Int×Int):=ns.zipIdx.map λp=>D6 p.1 (cA c (10+(p.2:Int)))
def Iu(ns ms:LS)(k:Nat):Evt:=.tell 1 (kN ns (k:Int)) (kN ns (((k:Int)+1) % (ns.9:Int))) (kN ms 0) "told" (ns.take k).reverse
def Ex(ns ms:LS):List Evt:=.see 0 (kN ns 0) (kN ms 0) "seen"::(Qq ns.9).map (Iu ns ms)
noncomputable def Oo(f:Int)(U:List (Str×Int×Int×Int)):List (Str×Int×Int×Int):=if f / 5 % 4=0 then U.map λp=>(p.1,p.2.1,0,1) else U
def Om(f:Int)(ns ms:LS):List Evt:=if f / 5 % 4=0 then Ex ns ms else[]
def v9(ns ms:LS)(evs:List Evt)(p:Int×Nat):List Evt:=evs++[Nm evs ns ms (cA p.1 ((p.2:Int)+3))]
def Ax(is:LJ)(f:Int)(ns ms:LS):List Evt:=(ae 14 (cD is (jr 2) kv)).zipIdx.foldl (v9 ns ms) (Om f ns ms)
def wF(is:LJ):Wd:=#[Oo (cA (JA is 0) 1) (Ab (JA is 0) (UH is)),dN is,yp (dN is) (cA (JA is 1) 2 / 3),Ax is (cA (JA is 0) 1) (UH is) (dN is)]
theorem Hg{ns ms:LS}(hb:NsB ns ms):∀(l:List (Int×Nat)) (evs:List Evt),(∀e∈evs,bp ns ms e)->(∀e∈l.foldl (v9 ns ms) evs,bp ns ms e)/\(l.foldl (v9 ns ms) evs).9=evs.9+l.9
 |[],evs,h=>#[h,rfl]|p::l,evs,h=>by
  let#[a,b]:=Hg hb l (v9 ns ms evs p) λe y=>by rcases Qf.mp y with y|y;exact h e y;rw[QJ.mp y];exact bt hb h _
  refine#[a,b.trans ?_];show(evs++[_]).9+l.9=evs.9+(l.9+1);rw[QI];show evs.9+1+l.9=_;omega
theorem rT(c:Int)(ns:LS):((Ab c ns).map λp=>p.1)=ns:=by unfold Ab;rw[Qa];exact List.zipIdx_map_fst 0 ns
theorem J1(f:Int)(U:List (Str×Int×Int×Int)):((Oo f U).map λp=>p.1)=U.map λp=>p.1:=by unfold Oo;split;rw[Qa];rfl;rfl
theorem Ew(is:LJ):NsB (UH is) (dN is)/\(∀x∈UH is,OkS x)/\(∀x∈dN is,OkS x)/\(dN is).Nodup:=by have a:=FA (cA (JA is 0) 1) (show(0:Int)<5 by decide);have b:=FA (cA (JA is 1) 2) (show(0:Int)<3 by decide);let#[u,h,z]:=FS (JA is 0) (m:=(2+cA (JA is 0) 1 % 5).toNat) ();let#[w,y,v]:=FS (JA is 1) (m:=(1+cA (JA is 1) 2 % 3).toNat) ();have h:(UH is).9=_:=h;have y:(dN is).9=_:=y;exact#[#[(),(),u,(),()],z,v,w]
theorem vg{n:Nat}(h:2<=n)(hk:k<n):(0<=((k:Int)+1) % (n:Int)/\((k:Int)+1) % (n:Int)<n)/\(k:Int)≠((k:Int)+1) % (n:Int):=by refine#[FA _ (),λe=>?_];by_cases c:(k:Int)+1<n;rw[W0 () c]at e;omega;rw[show(k:Int)+1=(n:Int) by omega,Int.emod_self]at e;omega
theorem Ub:OkS "seen":=(by decide +kernel:qd "seen"=kf)
theorem Vb:OkS "told":=(by decide +kernel:qd "told"=kf)
theorem k9(hb:NsB ns ms)(f:Int):(∀e∈Om f ns ms,bp ns ms e)/\(Om f ns ms).9<=12:=by
 have z:=hb.n2;have w:=hb.m1;have v:=hb.nl;have y:kN ms 0∈ms:=xL (Wa 0) ();unfold Om;split;refine#[λe h=>?_,?_]
 ·rcases QL.mp h with rfl|h
  ·exact#[xL (Wa 0) (),y,Ub]
  let#[k,hk,rfl]:=QW.mp h;have hk:=Q6.mp hk;let#[a,b]:=vg z hk;exact#[xL () (),xL a.1 a.2,y,ug hb.nd () () a.1 a.2 b,Vb,λx u=>QBo (QBL.mp u)]
 show((Qq ns.9).map _).9+1<=12;rw[QF,Qz];omega;exact#[λe h=>(by cases h),Qn _]
theorem x5(is:LJ):WOk (wF is):=by
 let#[hb,W,v,K]:=Ew is;let#[g,C]:=Yo hb.ml (cA (JA is 1) 2 / 3);let#[l,E]:=k9 hb (cA (JA is 0) 1);let#[B,w]:=Hg hb (ae 14 (cD is (jr 2) kv)).zipIdx (Om (cA (JA is 0) 1) (UH is) (dN is)) l;have z:=(J1 (cA (JA is 0) 1) _).trans (rT (JA is 0) (UH is));have r:=wy qT z;have h:∀x∈UH is,vi (wF is) x:=λx u=>by rw[<- z]at u;let#[p,y,e]:=QW.mp u;exact#[p,y,e]
 rw[QF]at r;rw[Wq]at w;have fl:=SR (cD is (jr 2) kv) (show(0:Int)<14 by decide);refine#[λp y=>#[v _ (g p y).1,v _ (g p y).2],C,by show(Oo _ _).9<=11;have:=hb.nl;omega,by show((Oo _ _).map _).Nodup;rw[z];exact hb.nd,λp y=>W _ ?_,hb.ml,v,K,?_,λe A=>?_];rw[<- z];exact QW.mpr #[p,y,rfl];show(Ax is _ (UH is) (dN is)).9<=60;exact QU (WH w) ();have:=B e A;cases e with|see t p m o=>exact#[h _ this.1,this.2]|tell t a b m o q=>exact#[h _ this.1,h _ this.2.1,this.2.2.1,this.2.2.2.1,this.2.2.2.2.1,λx u=>h x (this.2.2.2.2.2 x u)]
theorem eM{c:Int}{K:T->LT->Prop}{E:XE}(y:0<=m)(h:m<=10)(q:K (.lst (((uE c m.toNat).map j0).map T.d)) []):mL VI [.d (.int c),.d (.int m),.d (.int 8)] K E:=by let#[k,rfl]:=Int.eq_ofNat_of_zero_le y;exact#[_,_,rfl,(),q]
def Go(w:Wd):T:=.tup [.d (.list (w.ps.map yH)),.d (.list (w.ms.map j0)),.lst ((w.ag.map pr).map T.d),.d (.list (w.es.map PD))]
theorem Ng(ds:List D):(T.lst (ds.map T.d)).er=.list ds:=by show PyData.list (ersT (ds.map T.d))=_;rw[xB]
theorem Lg(w:Wd):(Go w).er=wD w:=by show PyData.tuple [.list (w.ps.map yH),.list (w.ms.map j0),(T.lst _).er,.list (w.es.map PD)]=_;rw[Ng];rfl
theorem Ly{E:XE}{r:PT}{i:Nat}{ρ:vA}{w:Wd}:MI Ψ E r Z i (Go w) kf ρ=pB Ψ E r Z (ρ.set i (bD (wD w))):=by unfold MI;rw[Lg];exact qs #[λh=>h.2,λh=>#[rfl,h]]
def KI:PSp where
 md:=[.shal]
 run:=λds Q _=>∃is:LJ,ds=[.lst ((is.map j1).map T.d)]/\Q (Go (wF is)) []
def XV(is:LJ)(f s:Int)(ns ms:LS)(U:List (Str×Int×Int×Int))(o6 o7 o8 h:Option Sl):vA:=[jr (.bor (.lst ((is.map j1).map T.d))),bD (.int f),bD (.int s),bD (.list (ns.map j0)),bD (.list (ms.map j0)),bD (.list (U.map yH)),o6,o7,o8,h]
theorem Sv(y:Ψ.sp "_law_mixed"=yF)(h:Ψ.sp "_law_event"=oM){s:Int}(hb:NsB ns ms)(hk:k<=100)(z:evs.9<=900)(q:Z.nx (XV is f s ns ms U (oW (ME (v9 ns ms evs (x,k)))) (bD (.int (k:Int))) o8 (bD (.int x)))):pF Ψ JG Z (XV is f s ns ms U (oW (ME evs)) (bD (.int (k:Int))) o8 (bD (.int x))):=by unfold XV ME v9 at q;rw[QR,QR]at q;delta XV ME;delta JG;simp![↓kA (md:=[]) y rfl rfl,↓kA (md:=[.shal]) h rfl rfl,↓IG];refine#[(),(),#[_,_,_,_,rfl,#[(),hb],?_]];simp![QF];exact#[(),q]
theorem Rr{a b c:D}{l:LT}:ZD [.d a,.d b,.lst l,.d c]=.tup [.d a,.d b,.lst l,.d c]:=rfl
theorem Up(K:Ψ.sp "_law_mixed"=yF)(o:Ψ.sp "_law_folded"=RG)(l:Ψ.sp "_law_event"=oM)(g:Ψ.sp "_law_against"=GL){o7:Option Sl}{Q:T->LT->Prop}(hb:NsB (UH is) (dN is))(A:evs.9<=100)
  (q:Q (Go #[U,dN is,yp (dN is) (cA (JA is 1) 2 / 3),(ae 14 (cD is (jr 2) kv)).zipIdx.foldl (v9 (UH is) (dN is)) evs]) []):pF Ψ dD (eZ Q) (XV is f (cA (JA is 1) 2) (UH is) (dN is) U (jr (.own (ME evs))) o7 o8 kv):=by
 have a:=hb.ml;delta XV;delta dD;simp![↓kA (md:=[.shal]) o rfl rfl,IR];refine#[_,_,rfl,by decide,?_];have fl:=SR (cD is (jr 2) kv) (show(0:Int)<14 by decide);simp![↓zA];rw[nX];refine HA (Im j1) (λr y=>∃h o7 z,r.foldl (v9 (UH is) (dN is)) h=(ae 14 (cD is (jr 2) kv)).zipIdx.foldl (v9 (UH is) (dN is)) evs/\(h.9+r.9<=200/\∀p∈r,p.2<=100)/\y=XV is f (cA (JA is 1) 2) (UH is) (dN is) U (jr (.own (ME h))) o7 o8 z) ?_ ?_ _ _ #[evs,o7,kv,rfl,#[by rw[Wq];omega,λp u=>by let#[_,W,_]:=QBg u;omega],rfl];rintro y ⟨h,o7,z,e,_,rfl⟩;have e:h=_:=e;subst e;delta XV ME;simp_arith![↓kA (md:=[]) g rfl rfl];rw[Ng];refine#[_,_,rfl,a,?_];simp![↓Rr];exact#[(),q];rintro⟨x,k⟩ r y N b ⟨h,o7,z,e,⟨w,v⟩,rfl⟩;have w:h.9+(r.9+1)<=200:=w;delta XV Im;rw[Re,SZ];refine Sv K l hb (v (x,k) QD) () (b _ #[_,_,_,e,#[?_,λp u=>v p (QE _ u)],rfl]);show(h++[_]).9+r.9<=200;rw[QI];show h.9+1+r.9<=200;omega
theorem CN{α:Type}(l:List α)(k:Nat):cD l kv (jr (k:Int))=l.take k:=by unfold cD;rw[HT.sIx_none,HT.sIx_nat,Nat.sub_zero,QBv];by_cases c:k<=l.9;rw[QDE c];rw[Nat.min_eq_right (),QBK,List.take_of_length_le ()]
theorem Jq{l u:Option Int}(h:¬ (HT.sIx ds.9 0 l=0/\HT.sIx ds.9 ds.9 u=ds.9)):zF (.d (.tuple ds)) n l u Q=Q (.d (.tuple (cD ds l u))) false:=by
 unfold zF;rw[rA];show kG (.tp (ds.map T.d)) l u Q=_;refine qs #[λh=>?_,λq=>.inr (.inr #[_,_,rfl,gA _,h,q])];rcases h with⟨_,e,_⟩| ⟨_,_,e,_⟩| ⟨_,ds,e,y,_,h⟩
 cases e;cases e;cases e;rw[gA]at y;cases y;exact h
theorem zw:zb (fA (.lst (ds.map T.d)) n).vw Q=Q (.d (.tuple ds.reverse)) false:=by rw[IB];exact qs #[λ#[_,_,e,h,q]=>by cases e;rw[gA]at h;cases h;exact q,λq=>#[_,_,rfl,gA _,q]]
theorem Rv{s:Int}{h:Option Sl}(hb:NsB ns ms)(hk:k<ns.9)(w:evs.9<=900)(q:∀o8,Z.nx (XV is f s ns ms U (oW (ME (evs++[Iu ns ms k]))) (bD (.int (k:Int))) o8 h)):pF Ψ YG Z (XV is f s ns ms U (oW (ME evs)) (bD (.int (k:Int))) o8 h):=by
 have y:=hb.n2;have v:=hb.m1;let#[a,b]:=vg y hk;have u:(0:Int)<=k:=()
 have z:(k:Int)<ns.length:=()
 delta XV ME;delta YG;simp_arith![↓zY,↓Bo,↓R0,IR,↓zw,↓AZ u z,↓AZ a.1 a.2,↓AZ (i:=0) (Wa 0) (show(0:Int)<ms.9 by omega),↓Js,QF];refine#[(),oC (f:=j0) (l:=ns) "" a.1 a.2 #[(),(),?_]];have q:=q (bD (.tuple (((ns.take k).reverse).map j0)));unfold XV ME Iu at q;rw[QR,QR]at q;rw[CN,<- WW];exact q
theorem Kw{p:Str×Int×Int×Int}:zF (.d (yH p)) n kv (jr 2) Q=Q (.d (.tuple [.str p.1,.int p.2.1])) false:=Jq (by show ¬ (0=0/\HT.sIx 4 4 (jr 2)=4);decide)
theorem f7(y:Ψ.sp "_law_mixed"=yF)(w:Ψ.sp "_law_cell_at"=DI)(B:Ψ.sp "_law_words"=VI)(M:Ψ.sp "_law_person"=IV)(A:Ψ.sp "_law_folded"=RG)(K:Ψ.sp "_law_event"=oM)(W:Ψ.sp "_law_against"=GL):aE Ψ aK KI dQ DM:=by
 rintro _ Q _ ⟨is,rfl,q⟩;have a:=FA (cA (JA is 0) 1) (show(0:Int)<5 by decide);have b:=FA (cA (JA is 1) 2) (show(0:Int)<3 by decide);let#[hb,_]:=Ew is;have I:=hb.nl;have P:=hb.ml;refine uA [jr (.bor (.lst ((is.map j1).map T.d))),kv,kv,kv,kv,kv,kv,kv,kv,kv] ?_;delta aK;simp![↓kA (md:=[]) y rfl rfl,↓kA (md:=[.shal]) w rfl rfl,↓kA (md:=[]) B rfl rfl,↓IG,↓OI];refine eM () () ?_;simp![↓kA (md:=[.shal]) w rfl rfl,↓kA (md:=[]) B rfl rfl,↓OI];refine eM () () ?_;simp![↓zA];show PC _ ((((UH is).map j0).zipIdx.map λp=>T.d (.tuple [.int (p.2:Int),p.1]))) [] _;rw[nX];have F:=wy qT (rT (JA is 0) (UH is));rw[QF]at F;refine NA (Im j0) (λp=>T.d (yH (D6 p.1 (cA (JA is 0) (10+(p.2:Int)))))) (UH is).zipIdx [] _ (λp o R v=>?_) (by rw[Wq];show 0+_<=_;omega) ?_;let#[x,k]:=p;let#[_,O,_]:=QBg o;delta Im;simp![↓kA (md:=[]) y rfl rfl,↓kA (md:=[.shal]) w rfl rfl,↓kA (md:=[]) M rfl rfl,↓IG,↓OI];refine#[(),(),#[_,_,rfl,?_]];simp![↓zA];exact v;rw[Qi,pA λp:Str×Nat=>yH (D6 p.1 (cA (JA is 0) (10+(p.2:Int))))];have e:((UH is).zipIdx.map λp=>yH (D6 p.1 (cA (JA is 0) (10+(p.2:Int)))))=(Ab (JA is 0) (UH is)).map yH:=by unfold Ab;rw[Qa];rfl
 rw[e];simp![↓xp];refine#[Qn _,?_];unfold wF Ax Oo Om at q;by_cases c:cA (JA is 0) 1 / 5 % 4=0;rw[Qc c,Qc c]at q;rw[Qc (dT c),<- pA yH];refine NA (λp=>T.d (yH p)) (λp=>T.d (yH (p.1,p.2.1,0,1))) (Ab (JA is 0) (UH is)) [] _ (λp o R v=>?_) (by show 0+_<=_;omega) ?_;simp![↓Kw];exact#[(),by show 4<=_;omega,v];rw[Qi,pA λp:Str×Int×Int×Int=>yH (p.1,p.2.1,0,1)];rw[show((Ab (JA is 0) (UH is)).map λp=>yH (p.1,p.2.1,0,1))=((Ab (JA is 0) (UH is)).map λp=>(p.1,p.2.1,0,1)).map yH by rw[Qa];rfl];simp![↓zA];refine oC (f:=j0) (l:=UH is) "" (Wa 0) (by have:=hb.n2;omega) (oC (f:=j0) (l:=dN is) "" (Wa 0) (by have:=hb.m1;omega) ?_);have G:(uE (JA is 0) (2+cA (JA is 0) 1 % 5).toNat).9<=11:=I;rw[QF];refine#[(),(),(),(),?_];rw[qN];refine HA (λ(i:Nat)=>T.d (.int (i:Int))) (λr u=>∃evs h o8,evs++r.map (Iu (UH is) (dN is))=Ex (UH is) (dN is)/\(evs.9+r.9<=20/\∀k∈r,k<(UH is).9)/\u=XV is (cA (JA is 0) 1) (cA (JA is 1) 2) (UH is) (dN is) ((Ab (JA is 0) (UH is)).map λp=>(p.1,p.2.1,0,1)) (jr (.own (ME evs))) h o8 kv) ?_ ?_ _ _ #[[.see 0 (kN (UH is) 0) (kN (dN is) 0) "seen"],kv,kv,rfl,#[by rw[Qz];show 1+_<=20;omega,λk hk=>Q6.mp hk],?_];rintro u ⟨evs,h,o8,e,⟨g,_⟩,rfl⟩;have e:evs=Ex (UH is) (dN is):=by rw[<- e];exact(qL _).symm
 subst e;show pB Ψ _ dD (eZ Q) (XV is _ _ _ _ _ _ (mG h) o8 kv);exact Up y A K W hb (QU (Nat.le_of_add_right_le g) (by decide)) q;rintro k r u N L ⟨evs,h,o8,e,⟨E,C⟩,rfl⟩;have E:evs.9+(r.9+1)<=20:=E;refine Rv hb (C k QD) () λo8=>L _ #[_,_,o8,?_,#[?_,λx J=>C x (QE _ J)],rfl];rw[Q4];exact e;rw[QI];show evs.9+1+r.9<=20;omega;rfl;rw[QB c,QB c]at q;rw[QB λz=>c (qq z)];exact Up y A K W hb (Qn _) q
def CL:PSp where
 run:=λds Q _=>∃(w:Wd) (st:List Stp),ds=[.d (HW w st)]/\st.9<=60/\Q (.lst (((st.map λs=>s.1).map nD).map T.d)) []
theorem Pc:aE Ψ sK CL bQ BM:=by rintro _ Q _ ⟨w,st,rfl,hl,q⟩;refine uA [bD (HW w st)] ?_;delta sK;simp![↓j5];rw[<- pA tH];refine NA (λs=>T.d (tH s)) (λs=>T.d (nD s.1)) st [] _ (λs y R h=>?_) (by show 0+_<=_;omega) ?_;simp![↓TZ];exact h;rw[Qi,pA λs:Stp=>nD s.1];rw[show(st.map λs=>nD s.1)=(st.map λs=>s.1).map nD by rw[Qa];rfl];exact q
def Uu(st:List Stp)(t:T):Prop:=(st=[]/\t=.lst [])∨t=.d (.list ((lN st).map nD))
def zW:PSp where
 run:=λds Q _=>∃(w:Wd) (st:List Stp),ds=[.d (HW w st)]/\∀t,Uu st t->Q t []
theorem Sk:aE Ψ tK zW cQ CM:=by
 rintro _ Q _ ⟨w,st,rfl,y⟩;refine uA [bD (HW w st)] ?_;delta tK;simp![↓au,↓j5,QF];rcases SV st with rfl|⟨l,s,rfl⟩
 refine BD (show decide (((qT ([]:List Stp):Nat):Int) > 0)≠kf by decide) ?_;exact#[(),y _ (.inl #[rfl,rfl])];have h:=y _ (.inr rfl);rw[JR]at h;refine ML (dT (by rw[QI];show(0:Int)<((l.9+1:Nat):Int);omega)) ?_;rw[QR,show AC (l.map tH++[s].map tH) (-1)=jr (tH s) from CZ _ _,GA];simp![↓Jp];exact h
end
section
variable{Ψ:PEv}{E:XE}{ρ:vA}{K:TK}{o b h:PX}{x:D}{n:Bool}{y:Mt}
theorem Hx:vW (.d x) n Ψ .nop (.mt y o h) E ρ K=zB Ψ (.mt y o h) E ρ λu _ v=>SM u λo=>zF (.d x) n kv o λz k=>K z k v:=by cases n<;>rfl
theorem Mu:zB Ψ (.mt .lix o h) E ρ K=zB Ψ o E ρ λx n v=>O2 .lix (fA x n).vw=kf/\sq (fA x n) v ((pe Ψ h E).a []) λxs u=>Pr .lix (fA x n).vw (ZB xs) λz k=>K z k u:=rfl
end
section
variable{Ψ:PEv}{a b m:Str}{w:Wd}{st:List Stp}
theorem Pv:∀n:Nat,n<60->QCQ (nD n)<=6:=by decide +kernel
theorem mf:∀{l:LN},(∀n∈l,n<60)->QCz (l.map nD)<=7 * l.9
 |[],_=>QV _|n::l,h=>by have a:=Pv n (h n QD);have b:=mf (l:=l) λx y=>h x (QE _ y);show QCQ (nD n)+1+QCz (l.map nD)<=7 * (l.9+1);omega
theorem zm{l:LN}(h:l.9<=60)(hl:∀n∈l,n<60):QAY (.list (l.map nD))=true:=by have a:=Lk l;have b:=mf hl;have c:QCQ (.list (l.map nD))<=2 ^ 20:=QU b ();unfold QAY;rw[a.1,dT a.2,dT c];rfl
theorem K8{s:Nat}{r:LN}:∀{l:LN},s∉l->((l++s::r).map λ(n:Nat)=>(n:Int)).idxOf (s:Int)=l.9
 |[],_=>List.idxOf_cons_self|a::l,h=>by have n:(a:Int)≠(s:Int):=λz=>h (by rw[show a=s by omega];exact QD);show(((a:Int)::((l++s::r).map λ(n:Nat)=>(n:Int))).idxOf (s:Int))=l.9+1;rw[List.idxOf_cons,beq_false_of_ne n,<- K8 (r:=r) λz=>h (QE _ z)];rfl
def kW:PSp where
 run:=λh Q _=>∃(w:Wd) (l r:List Stp) (s:Stp),h=[.d (HW w (l++s::r)),.d (nD s.1)]/\(((l++s::r).map λs=>s.1).Nodup/\(l++s::r).9<=60/\∀x∈l++s::r,x.1<60)/\Q (Ml w l) []
theorem il(v:Ψ.sp "past_in"=CL):aE Ψ HD kW DG HF:=by
 rintro _ Q _ ⟨w,l,r,s,rfl,⟨nd,hl,u⟩,q⟩;rw[QR]at nd;have ix:=K8 (r:=r.map λs=>s.1) (s:=s.1) (l:=l.map λs=>s.1) λz=>(qW.mp nd).2.2 _ z _ QD rfl;rw[QF]at ix;refine uA [bD (HW w (l++s::r)),bD (nD s.1)] ?_;delta HD;simp![↓kY,↓j5,↓GK,↓Hx,↓Mu,↓kA (md:=[]) v rfl rfl];refine#[_,_,rfl,hl,#[rfl,rfl,?_]];refine#[_,(l.map (λs=>s.1)++s.1::r.map λs=>s.1).map λ(n:Nat)=>(n:Int),(s.1:Int),rfl,?_,?_,rfl,QW.mpr #[s.1,QT _ QD,rfl],?_];rw[xB,gA,QR,Qa];rfl;rw[Qa];refine zm (l:=l.map (λs=>s.1)++s.1::r.map λs=>s.1) ?_ λn h=>?_;have:(l.map (λs=>s.1)++s.1::r.map λs=>s.1)=(l++s::r).map λs=>s.1:=by rw[QR];rfl
 rw[this,QF];exact hl;have:(l.map (λs=>s.1)++s.1::r.map λs=>s.1)=(l++s::r).map λs=>s.1:=by rw[QR];rfl
 rw[this]at h;let#[x,y,rfl]:=QW.mp h;exact u x y;rw[ix];show 2<=kb/\Q (ZD [.d (wD w),.lst ((cD ((l++s::r).map tH) kv (jr (l.9:Int))).map T.d)]) [];rw[CN,<- QCN,QDF rfl];exact#[(),q]
def EV:PSp where
 run:=λh Q _=>∃(w:Wd) (st:List Stp),h=[.d (HW w st)]/\(st.9<=60/\∀s∈st,s.1<w.es.9)/\Q (NJ (fB w.es (st.map λs=>s.1))) []
theorem Fk(u:Ψ.sp "past_in"=CL)(z:Ψ.sp "seen_among"=UI):aE Ψ pK EV xQ XM:=by rintro _ Q _ ⟨w,st,rfl,⟨hl,x⟩,q⟩;refine uA [bD (HW w st)] ?_;delta pK;simp![↓kY,↓OJ,↓kA (md:=[]) u rfl rfl,↓kA (md:=[.fro,.shal]) z rfl rfl,↓OB,↓da];refine#[_,_,rfl,hl,?_];simp![↓OB,↓da];refine#[_,_,rfl,(by rw[QF];omega),(λn y=>?_),#[rfl,q]];let#[s,h,rfl]:=QW.mp y;exact x s h
def edB(w:Wd)(h:LN)(m:Str)(p:Pt):Bool:=h.any λn=>decide (AD (KA w.es n)=p/\Fa (KA w.es n)=m)
def Il(w:Wd)(x:LN)(m:Str)(h:LS):Bool:=(h.zip h.tail).all λp=>edB w x m (p.2,p.1)
def XO(a:Str)(q:LS):Str:=(a::q).getLast (QC0 _ _)
def eY(w:Wd)(st:List Stp):Evt->Bool
 | .see _ _ _ _=>kd|.tell _ a _ m _ q=>decide ((XO a q,m)∈fB w.es (st.map λs=>s.1))&&Il w (lN st) m (a::q)
def t3(a b m:Str):D:=.tuple [.str a,.str b,.str m]
def vv(e:Evt):D:=t3 (AD e).1 (AD e).2 (Fa e)
theorem Am(a b m z y x:Str):Qo (t3 a b m) (t3 z y x)=decide ((a,b)=(z,y)/\m=x):=by
 have e:Qo (t3 a b m) (t3 z y x)=(Qo (.str a) (.str z)&&(Qo (.str b) (.str y)&&(Qo (.str m) (.str x)&&kf))):=by simp[t3,Qo,PyData.eqvAll]
 rw[e,oF,oF,oF,QAO,Q2,QZ,QZ,q7,q7,q7,q7];exact#[λh=>#[by rw[h.1,h.2.1],h.2.2],λh=>#[wy wE h.1,wy QCO h.1,h.2]]
theorem Jg(h:OkS a/\OkS b/\OkS m):VP 1 (t3 a b m):=NW (EC (fG h.1) (EC (fG h.2.1) (EC (fG h.2.2) A2)))
theorem uh(x:WOk w){e:Evt}(h:jY w e)(y:jD e):OkS (AD e).1/\OkS (AD e).2/\OkS (Fa e):=by let#[t,a,b,m,z,q,rfl]:=y;exact#[x.nm h.1,x.nm h.2.1,x.mo _ h.2.2.1]
theorem Dt(z:WOk w){x:LN}(hv:aS w x)(h:OkS a/\OkS b/\OkS m){L:Bool->Prop}:UB .In (.d (t3 a b m)) (.d (.list (x.map λn=>vv (KA w.es n)))) L=L (edB w x m (a,b)):=by
 have e:((x.map λn=>vv (KA w.es n)).any λy=>Qo y (t3 a b m))=edB w x m (a,b):=by rw[QAl];unfold edB;congr 1;funext n;exact Am _ _ _ _ _ _
 show(((VB (t3 a b m)=kf/\_)∨(BE (t3 a b m)/\BE (.list _)))/\L ((x.map λn=>vv (KA w.es n)).any λy=>Qo y (t3 a b m)))=_;rw[e];exact qs #[λh=>h.2,λq=>#[.inr #[ET (Jg h) (by decide),ET (OW (IT λn u=>Jg (uh z (z.ev (hv.2 n u).1) (hv.2 n u).2))) (by decide)],q]]
noncomputable def Ob:Evt->Nat
 | .see _ _ _ _=>0|.tell _ _ _ _ _ q=>q.9
structure SOk(w:Wd)(st:List Stp):Prop where
 wo:WOk w
 q:∀e∈w.es,Ob e<=100
 n:(st.map λs=>s.1).Nodup
 l:st.9<=60
 s:∀x∈st,StK w x
theorem SOk.qa(h:SOk w st){n:Nat}(x:n<w.es.9):Ob (KA w.es n)<=100:=by unfold KA;rw[Qk x];exact h.q _ (wY x)
def TV:PSp where
 run:=λh Q _=>∃(w:Wd) (l r:List Stp) (s:Stp),h=[.d (HW w (l++s::r)),.d (nD s.1)]/\SOk w (l++s::r)/\Q (.d (.bool (eY w l (KA w.es s.1)))) []
theorem My{E:XE}{r:PT}{Z:PEnds}{i:Nat}{ρ:vA}:MI Ψ E r Z i (Ml w st) kf ρ=pB Ψ E r Z (ρ.set i (bD (HW w st))):=by unfold MI;rw[Mg];exact qs #[λh=>h.2,λh=>#[rfl,h]]
end
section
variable{t:Int}{a b h x:Str}{q:LS}{n m:Bool}{R:T->Prop}{Q:T->Bool->Prop}
theorem df:CA (.d (PD (.tell t a b h x q))) n (.d (.int 6)) m R=R (.d (.tuple (q.map j0))):=OA (i:=6) rfl
theorem Bw:zF (.d (PD (.tell t a b h x q))) n (jr 2) (jr 5) Q=Q (.d (t3 a b h)) false:=Jq (by show ¬ (HT.sIx 7 0 (jr 2)=0/\HT.sIx 7 7 (jr 5)=7);decide)
end
section
variable{Ψ:PEv}{st l r:List Stp}{L:Bool->Prop}{w:Wd}{t:Int}{a b m Y:Str}{ns X:LN}{k U:Nat}{v u:LS}{o8:Option Sl}{Z:PEnds}{s:Stp}
theorem Mx{E:XE}{ρ:vA}{x:D}{n:Bool}{i j:Int}{K:TK}:vW (.d x) n Ψ (.int i) (.int j) E ρ K=zF (.d x) n (jr i) (jr j) λz k=>K z k ρ:=by cases n<;>rfl
theorem jm{t:T}(z:Uu st t)(hl:(lN st).9<=100){B:T->(Option T->Prop)->Prop}{C:LT->Prop}{f:Nat->D}(h:∀n∈lN st,∀R:Option T->Prop,R (jr (T.d (f n)))->B (T.d (nD n)) R)(q:C (((lN st).map f).map T.d)):eI .val [(t,kf)] λx=>PC B x [] C:=by rcases z with⟨e,rfl⟩| rfl;subst e;show eI .val [(.lst (([]:List D).map T.d),kf)] _;simp![↓zA];exact#[Qn _,q];simp![↓zA];rw[<- pA nD];refine NA (λn=>T.d (nD n)) (λn=>T.d (f n)) (lN st) [] _ h (by show 0+_<=_;omega) ?_;rw[Qi,pA f];exact q
theorem m9{α:Type}(a:α)(l:List α):cD (a::l) (jr 1) kv=l:=by unfold cD;rw[HT.sIx_none,show HT.sIx (a::l).9 0 (jr 1)=min 1 (l.9+1) from HT.sIx_nat _ _ 1,QDE ()];show l.take (l.9+1 - 1)=l;rw[Nat.add_sub_cancel,QBK]
theorem N9(a:Str)(q:LS):AC ((a::q).map j0) (-1)=jr (.str (XO a q)):=by have e:(a::q)=(a::q).dropLast++[XO a q]:=(List.dropLast_concat_getLast (QC0 a q)).symm;rw[e,QR];exact CZ _ _
theorem yx{a b c:D}:ZD [.d a,.d b,.d c]=.d (.tuple [a,b,c]):=rfl
theorem xy{h:fv}{x:T}{ks:List Pt}{m:Bool}:UB h x (R3 (NJ ks) m) L=UB h x (NJ ks) L:=rfl
theorem m7(z:WOk w){q:LS}(h:jY w (.tell t a b m Y q)):∀x∈a::q,OkS x:=λx y=>by rcases QL.mp y with rfl|y;exact z.nm h.1;exact z.nm (h.2.2.2.2.2 x y)
theorem Bk(N:Ψ.sp "moment_ahead"=kW)(M:Ψ.sp "live_in"=zW)(J:Ψ.sp "seen_in"=EV):aE Ψ xC TV RF JE:=by
 rintro _ Q _ ⟨w,l,r,s,rfl,h,q⟩;have i:=h.wo;have O:=i.el;have sm:s∈l++s::r:=QT _ QD;have o:=(h.s s sm).n;have G:l.9<=60:=QU (by rw[QI];exact qw _ _) h.l;have A:∀x∈l,StK w x:=λx g=>h.s x (Qm _ g);have hv:=RW A;have qa:=h.qa o;have W:=i.ev o;refine uA [bD (HW w (l++s::r)),bD (nD s.1),kv,kv,kv,kv,kv,kv,kv] ?_;cases e:KA w.es s.1 with
 |see t p m Y=>rw[e]at q;delta xC;simp![↓kY,↓OJ,↓NH o,e,↓PJ,YV];exact q|tell t a b m Y u =>
  rw[e]at q W qa;have qa:u.9<=100:=qa;delta xC;simp![↓kY,↓OJ,↓NH o,e,↓PJ,YV,↓kP,↓kA (md:=[]) N rfl rfl];refine BD (show decide ((QY "tell")=(QY "see"))≠kf by decide) ?_;refine#[_,_,_,_,rfl,#[h.n,h.l,λx g=>Qt (h.s x g).n O],?_];simp![↓My,↓kA (md:=[]) M rfl rfl];refine#[_,_,rfl,λH z=>#[rfl,jm z hv.1 (f:=λn=>vv (KA w.es n)) (λn I R y=>?_) ?_]];let#[F,t,a,b,m,Y,u,e]:=hv.2 n I;simp![↓NH F,e,↓GK,↓Mx,↓Bw];rw[e]at y;exact y;simp_arith![↓BS,↓df,QF];refine#[(),(),?_];rw[m9,show(j0 a::u.map j0)=(a::u).map j0 from rfl,List.zip_map,Qa];have K:=m7 i W;have S:((a::u).zip u).9<=101:=by rw[QBf,QN];omega
  have B:∀p∈(a::u).zip u,OkS p.1/\OkS p.2:=λp j=>#[K _ (Wh j).1,K _ (QE _ (Wh j).2)]
  refine NA _ (λp=>T.d (t3 p.2 p.1 m)) ((a::u).zip u) [] _ (λp j R y=>?_) (by show 0+_<=_;omega) ?_;show NF Ψ _ [] _ (.tp [0,1]) .nop _ _ (T.d (.tuple [.str p.1,.str p.2])) R;simp![↓yx];exact#[(),y];rw[Qi,pA λp:Str×Str=>t3 p.2 p.1 m];have P:=N9 a u;simp![P,GA,↓Fd,↓kA (md:=[]) J rfl rfl];refine#[(),#[_,_,rfl,#[G,(λx g=>(A x g).n)],#[rfl,?_]]];simp![↓xy,↓dS];have q:Q (.d (.bool (decide ((XO a u,m)∈fB w.es (l.map λs=>s.1))&&Il w (lN l) m (a::u)))) []:=q;by_cases c:(XO a u,m)∈fB w.es (l.map λs=>s.1);rw[dT c,WK]at q;rw[Qc (dT c),<- pA λp:Str×Str=>t3 p.2 p.1 m];refine NA (λp=>T.d (t3 p.2 p.1 m)) (λp=>T.d (.bool (edB w (lN l) m (p.2,p.1)))) ((a::u).zip u) [] _ (λp j R y=>?_) (by show 0+_<=_;omega) ?_;let#[E,C]:=B p j;simp![↓Dt i hv #[C,E,i.mo _ W.2.2.1]];exact y;rw[Qi,pA λp:Str×Str=>PyData.bool (edB w (lN l) m (p.2,p.1))];simp![↓zA];refine#[((a::u).zip u).map λp=>edB w (lN l) m (p.2,p.1),by rw[Qa];rfl,?_];rw[QCl];exact q;rw[dF c,W5]at q;rw[QB λz=>c (qq z)];exact q
def JQ:PSp where
 run:=λh Q _=>∃(w:Wd) (n:Nat),h=[.d (wD w),.d (nD n)]/\(WOk w/\∀e∈w.es,Ob e<=100)/\n<w.es.9/\∀ns l r s,xO w ns->(iB w ns).steps=l++s::r->s.1=n->Q (.d (.bool (eY w l (KA w.es n)))) []
theorem fZ(h:WOk w)(y:∀e∈w.es,Ob e<=100)(x:xO w ns):SOk w (iB w ns).steps:=by let#[g,f,z]:=vX h x;refine#[h,y,?_,f,z];rw[g];exact x.1.nodup_iff.mpr QCy
theorem Dk(j:Ψ.sp "said_truly_in"=TV)(i:Ψ.sp "last_moment"=yW):aE Ψ tF JQ XJ JH:=by
 rintro _ Q _ ⟨w,n,rfl,⟨x,f⟩,g,q⟩;refine uA [bD (wD w),bD (nD n)] ?_;delta tF;simp![↓kA (md:=[]) j rfl rfl,↓kA (md:=[]) i rfl rfl];refine#[_,rfl,x,λns h=>#[rfl,?_]];let#[o,_,_]:=vX x h;have z:=fZ x f h;have:n∈(iB w ns).steps.map λs=>s.1:=by rw[o];exact h.1.mem_iff.mpr (Q6.mpr (by rw[QF];exact g))
 let#[s,y,rfl]:=QW.mp this;let#[l,r,e]:=List.append_of_mem y;have q:=q ns l r s h e rfl;rw[e]at z ⊢;simp![↓By];exact#[_,_,_,_,rfl,z,#[rfl,q]]
def eL(w:Wd)(X:LN)(m:Str):List Pt:=(X.filter λn=>decide (Fa (KA w.es n)=m)).map λn=>AD (KA w.es n)
theorem yn{p:Pt}:decide (p∈eL w X m)=edB w X m p:=by unfold eL edB;rw[Q2,q7,QW,wZ];constructor;rintro⟨n,y,e⟩;let#[x,h]:=Qb.mp y;exact#[n,x,dT #[e,qq h]];rintro⟨n,x,h⟩;let#[e,h]:=qq h;exact#[n,Qb.mpr #[x,dT h],e]
theorem Cn(i:WOk w)(hv:aS w X)(h:OkS a/\OkS b):UB .NotIn (.d (.tuple [.str a,.str b])) (.d (.list ((eL w X m).map pr))) L=L (!edB w X m (a,b)):=by
 have e:(((eL w X m).map pr).any λy=>Qo y (pr (a,b)))=edB w X m (a,b):=by rw[<- yn,QAl,Q2,wZ,q7];constructor;rintro⟨x,g,z⟩;have z:Qo (pr x) (pr (a,b))=true:=z;rw[UN]at z;rw[<- qq z];exact g;intro g;refine#[_,g,?_];show Qo (pr (a,b)) (pr (a,b))=kf;rw[UN];exact dT rfl
 show(((VB (pr (a,b))=kf/\_)∨(BE (pr (a,b))/\BE (.list _)))/\L (!(((eL w X m).map pr).any λy=>Qo y (pr (a,b)))))=_;rw[e];refine qs #[λh=>h.2,λq=>#[.inr #[JD h.1 h.2,ET (OW (IT λp j=>Yg ?_)) (by decide)],q]];let#[n,f,e]:=QW.mp j;have f:=hv.2 n (Qb.mp f).1;have:=uh i (i.ev f.1) f.2;rw[e]at this;exact#[this.1,this.2.1]
def El(v:LS)(k:Nat):Pt:=(gI v ((k:Int)+1) "",gI v (k:Int) "")
theorem Cg{α:Type}{l:List α}{d x:α}(h:l[k]?=jr x):gI l (k:Int) d=x:=by unfold gI;rw[lD h];rfl
theorem u8:Il w X m v=kf↔∀k,k+1<v.9->edB w X m (El v k)=true:=by
 have g:∀k,k+1<v.9->∃x y,v[k]?=jr x/\v.tail[k]?=jr y/\El v k=(y,x):=λk hk=>by have f:v[k]?=jr v[k]:=Qk _;have z:v[k+1]?=jr v[k+1]:=Qk _;exact#[_,_,f,by rw[List.getElem?_tail];exact z,by unfold El;rw[Cg f];exact wy (·,_) (Cg (k:=k+1) z)]
 unfold Il;rw[Q1];constructor;intro h k hk;let#[x,y,f,z,e]:=g k hk;rw[e];exact h (x,y) (we.mpr #[k,WS.mpr #[f,z]]);intro h p n;let#[k,hk]:=we.mp n;let#[f,z]:=WS.mp hk;have hk:k+1<v.length:=by have:=(Qh.mp z).1;rw[List.length_tail]at this;omega
 let#[x,y,j,i,e]:=g k hk;rw[f]at j;rw[z]at i;cases j;cases i;rw[<- e];exact h k hk
theorem OX{α h:Type}(f:α->h)(l r:List α)(s:α):AC ((l++s::r).map f) (l.9:Int)=jr (f s):=lD (by rw[Qd,Qu (QV _),QAn];rfl)
def XQ:PSp where
 run:=λh Q _=>∃(w:Wd) (l r:List Stp) (s:Stp),h=[.d (wD w),.d (.list ((l++s::r).map tH)),.d (.int (l.9:Int))]/\SOk w (l++s::r)/\Q (.d (.bool (eY w l (KA w.es s.1)))) []
def iZ(w:Wd)(st:List Stp)(k:Nat)(e:Evt)(es:List Pt)(o5 o6 o7 o8:Option Sl):vA:=[bD (wD w),bD (.list (st.map tH)),bD (.int (k:Int)),bD (PD e),bD (.list (es.map pr)),o5,o6,o7,o8]
def aO(v:LS):Option Sl:=bD (.list (v.map j0))
theorem jy{e:Evt}{o7:Option Sl}(g:WOk w)(hv:aS w X)(h:∀x∈v,OkS x)(hk:k+1<v.9)
  (z:edB w X m (El v k)=kf->Z.nx (iZ w st U e (eL w X m) (aO v) (bD (.int (k:Int))) o7 o8)) (y:edB w X m (El v k)=kd->∀ρ,Z.rt (.d (.bool kd)) ρ) :
  pF Ψ UK Z (iZ w st U e (eL w X m) (aO v) (bD (.int (k:Int))) o7 o8):=by
 have a:=nF (l:=v) (i:=(k:Int)+1) (d:="") () ();have b:=nF (l:=v) (i:=(k:Int)) (d:="") () ();delta iZ aO;delta UK;simp![↓zA];refine oC (f:=j0) (l:=v) "" () () (oC (f:=j0) (l:=v) "" () () #[(),?_]);rw[Cn g hv #[h _ a.2,h _ b.2]];cases c:edB w X m (El v k) with|true=>rw[show edB w X m (gI v ((k:Int)+1) "",gI v (k:Int) "")=kf from c];exact BD (by decide) (z c)|false=>rw[show edB w X m (gI v ((k:Int)+1) "",gI v (k:Int) "")=kd from c];exact ML (by decide) (y c _)
theorem Ix{es:List Pt}{o6:Option Sl}(g:s.1<w.es.9)
  (h:¬ kO w.es (XO a u) m s.1->∀o8,Z.nx (iZ w st U (.tell t a b m Y u) es (aO (a::u)) o6 (bD (tH s)) o8)) (o:kO w.es (XO a u) m s.1->∀ρ,Z.rt (.d (.bool kf)) ρ) :
  pF Ψ fH Z (iZ w st U (.tell t a b m Y u) es (aO (a::u)) o6 (bD (tH s)) o8):=by
 delta iZ aO at h;delta iZ aO;cases e:KA w.es s.1 with|tell n j q i f p=>delta fH;simp![↓OJ,↓TZ,↓NH g,e,↓PJ,YV];exact BD (show decide ((QY "tell")=(QY "see"))≠kf by decide) (h (λ#[_,_,z]=>by rw[e]at z;cases z) _)|see n j i f=>delta fH;simp![↓OJ,↓TZ,↓NH g,e,↓PJ,YV,↓gf,↓A4,↓kP];rw[N9,GA,C9];by_cases y:j=XO a u;rw[Qc (dT y)];by_cases x:i=m;rw[Qc (dT x)];exact o #[_,_,by rw[e,y,x]] _;rw[QB λz=>x (qq z)];exact h (λ#[_,_,z]=>x (by rw[e]at z;cases z;rfl)) _;rw[QB λz=>y (qq z)];exact h (λ#[_,_,z]=>y (by rw[e]at z;cases z;rfl)) _
theorem Yt{Q:T->LT->Prop}(E:WOk w)(R:l.9<=60)(F:∀x∈l,StK w x)(P:jY w (.tell t a b m Y u))(qa:u.9<=100)(q:Q (.d (.bool (eY w l (.tell t a b m Y u)))) []) :
  pF Ψ mI (eZ Q) (iZ w (l++s::r) l.9 (.tell t a b m Y u) (eL w (lN l) m) kv kv kv kv):=by
 have hv:=RW F;have I:=m7 E P;delta iZ;delta mI;simp![↓BS,↓df,QF];refine#[(),(),?_];rw[show(((u.9+1:Nat):Int) - 1).toNat=u.9 by omega];have q:Q (.d (.bool (decide ((XO a u,m)∈fB w.es (l.map λs=>s.1))&&Il w (lN l) m (a::u)))) []:=q;refine#[(),(),HA (λ(i:Nat)=>T.d (.int (i:Int))) (λj f=>∃p,((∀k∈j,k<u.9)/\∀k,k<u.9->k∉j->edB w (lN l) m (El (a::u) k)=kf)/\f=iZ w (l++s::r) l.9 (.tell t a b m Y u) (eL w (lN l) m) (aO (a::u)) p kv kv) ?_ ?_ _ _ #[kv,#[λk hk=>Q6.mp hk,λk hk z=>Qe (Q6.mpr hk) z],rfl]];rintro f ⟨p,⟨_,g⟩,rfl⟩;have lk:Il w (lN l) m (a::u)=true:=u8.mpr λk hk=>g k (wX hk) λz=>by cases z
 rw[lk,QAO]at q;show pB Ψ _ _ (eZ Q) (iZ w (l++s::r) l.9 (.tell t a b m Y u) (eL w (lN l) m) (aO (a::u)) (mG p) kv kv);delta iZ;simp![↓zY,↓Bo,↓R0];rw[CN,<- QCN,QDF rfl,<- pA tH];refine HA (λs=>T.d (tH s)) (λj f=>∃o A o8,(o++j=l/\∀x∈o,¬ kO w.es (XO a u) m x.1)/\f=iZ w (l++s::r) l.9 (.tell t a b m Y u) (eL w (lN l) m) (aO (a::u)) (mG p) A o8) ?_ ?_ _ _ #[[],kv,kv,#[rfl,λ_ z=>by cases z],rfl];rintro f ⟨o,A,o8,⟨e,h⟩,rfl⟩;have e:o=l:=by rw[<- e];exact(qL _).symm
 subst e;rw[dF λz=>by let#[n,J,M]:=bT.mp z;let#[x,K,rfl]:=QW.mp J;exact h x K M]at q;exact#[rfl,q];rintro x j f N B ⟨o,A,o8,⟨e,h⟩,rfl⟩;have C:x∈l:=by rw[<- e];exact QT _ QD
 refine Ix (F x C).n (λc o8=>B _ #[o++[x],_,o8,#[by rw[Q4];exact e,λy W=>?_],rfl]) λc f=>?_;rcases Qf.mp W with W|W
 ·exact h y W
 rw[QJ.mp W];exact c;rw[dT (bT.mpr #[x.1,QW.mpr #[x,C,rfl],c])]at q;exact q;rintro k j f N B ⟨p,⟨G,O⟩,rfl⟩;have hk:=G k QD;refine jy E hv I (QC1 hk) (λc=>B _ #[_,#[λx K=>G x (QE _ K),λx K z=>?_],rfl]) λc f=>?_;by_cases e:x=k
 ·rw[e]
  exact c
 exact O x K λy=>(QL.mp y).elim e z;have lk:Il w (lN l) m (a::u)=false:=Bool.eq_false_iff.mpr λz=>by rw[u8.mp z k (QC1 hk)]at c;cases c
 rw[lk,QAo]at q;exact q
theorem ul:aE Ψ SL XQ NZ eT:=by
 rintro _ Q _ ⟨w,l,r,s,rfl,y,q⟩;have f:=y.wo;have sm:s∈l++s::r:=QT _ QD;have z:=(y.s s sm).n;have W:l.9<=60:=QU (by rw[QI];exact qw _ _) y.l;have i:∀x∈l,StK w x:=λx B=>y.s x (Qm _ B);have hv:=RW i;have qa:=y.qa z;have o:=f.ev z;have K:=OX tH l r s;refine uA [bD (wD w),bD (.list ((l++s::r).map tH)),bD (.int (l.9:Int)),kv,kv,kv,kv,kv,kv] ?_;cases e:KA w.es s.1 with
 |see t p m Y=>rw[e]at q;delta SL;simp![↓OJ,K,GA,↓TZ,↓NH z,e,↓PJ,YV];exact q|tell t a b m Y u =>
  rw[e]at q o qa;delta SL;simp![↓OJ,K,GA,↓TZ,↓NH z,e,↓PJ,YV];refine BD (show decide ((QY "tell")=(QY "see"))≠kf by decide) ?_;refine#[Qn _,?_];rw[show(T.lst []:T)=.lst (([]:List D).map T.d) from rfl,xp];simp![↓zA];rcases SV l with rfl|⟨h,p,rfl⟩
  refine BD (show decide (((qT ([]:List Stp):Nat):Int) > 0)≠kf by decide) ?_;exact Yt f W i o qa q;refine ML (dT (by rw[QI];show(0:Int)<((h.9+1:Nat):Int);omega)) ?_;have F:AC ((h++[p]++s::r).map tH) (((h++[p]).9:Int) - 1)=jr (tH p):=by have:=OX tH h (s::r) p;rw[Q4,QI];rw[show(((h.9+[p].9:Nat):Int) - 1)=(h.9:Int) by show((h.9+1:Nat):Int) - 1=_;omega];exact this
  rw[F,GA];simp![↓Jp];have E:p.2.2.1=lN (h++[p]):=(JR h p).symm;rw[E,<- pA nD];refine oA (λn=>T.d (nD n)) (λn=>T.d (pr (AD (KA w.es n)))) (λn=>decide (Fa (KA w.es n)=m)) (lN (h++[p])) [] _ (λn C R j=>?_) (by have:=hv.1;show 0+_<=_;omega) ?_;let#[A,g]:=hv.2 n C;simp![dC,↓bu,↓OJ,↓NH A,↓P4 g,↓O4 g,↓bf g,↓kP,↓Fd];split at j;rename_i c;rw[Qc c];exact#[(),j];rename_i c;rw[QB c];exact j;rw[Qi,pA λn=>pr (AD (KA w.es n))];simp![↓zA];have q:=Yt (Ψ:=Ψ) (r:=r) (s:=s) f W i o qa q;unfold iZ eL at q;rw[Qa]at q;exact q
theorem XY(x:Str)(h:Int):∀(l:List Evt) (s:Str×LS),(l.foldl (X4 x h) s).2.length<=s.2.9+l.9
 |[],_=>QV _|e::l,s=>by have a:=XY x h l (X4 x h s e);have b:=VY x h s e;show(l.foldl (X4 x h) (X4 x h s e)).2.length<=s.2.9+(l.9+1);omega
theorem Rq(evs:List Evt)(ns ms:LS)(m:Int)(h:evs.9<=100):Ob (Nm evs ns ms m)<=100:=by unfold Nm;split;exact Qn _;show(Oq evs ns ms (m / 40)).9<=100;unfold Oq;split;have:=FA (m / 40 / 2500) (show(0:Int)<6 by decide);rw[QF,Qz];omega;have:=XY (Ll ms (m / 40)) (m / 40 / 2500 % 7) evs.reverse (kN ns (kK ns (m / 40)),[]);rw[qj]at this;exact QU this (by show 0+_<=_;omega)
theorem Lf{ns ms:LS}:∀(l:List (Int×Nat)) (evs:List Evt),(∀e∈evs,Ob e<=100)->evs.9+l.9<=100->∀e∈l.foldl (v9 ns ms) evs,Ob e<=100
 |[],_,h,_=>h|p::l,evs,h,hl=>by
  have hl:evs.9+(l.9+1)<=100:=hl;refine Lf l (v9 ns ms evs p) (λe x=>?_) ?_;rcases Qf.mp x with x|x
  ·exact h e x
  rw[QJ.mp x];exact Rq _ _ _ _ ();show(evs++[_]).9+l.9<=100;rw[QI];show evs.9+1+l.9<=100;omega
theorem Pq(x:LJ):∀e∈(wF x).es,Ob e<=100:=by
 let#[hb,_]:=Ew x;have y:=hb.nl;have fl:=SR (cD x (jr 2) kv) (show(0:Int)<14 by decide);have z:=(k9 hb (cA (JA x 0) 1)).2;refine Lf _ _ (λe h=>?_) (by rw[Wq];omega);unfold Om at h;split at h;rcases QL.mp h with rfl|h
 ·exact Qn _
 let#[k,hk,rfl]:=QW.mp h;have hk:=Q6.mp hk;show((UH x).take k).reverse.9<=100;rw[qj,Q8];exact QU (WE _ _) ();cases h
theorem Z0{x y:List Stp}{s':Stp}(nd:((l++s::r).map λs=>s.1).Nodup)(e:l++s::r=x++s'::y)(h:s.1=s'.1):l=x:=by
 have key:∀{l r:List Stp}{s:Stp},((l++s::r).map λs=>s.1).Nodup->((((l++s::r).map λs=>s.1).map λ(n:Nat)=>(n:Int)).idxOf (s.1:Int))=l.length:=λ{l r s} nd=>by rw[QR]at nd ⊢;have:=K8 (r:=r.map λs=>s.1) (s:=s.1) (l:=l.map λs=>s.1) λz=>(qW.mp nd).2.2 _ z _ QD rfl;rw[QF]at this;exact this
 have a:=key nd;rw[e]at nd;have b:=key nd;rw[e,h,b]at a;exact(List.append_inj e a.symm).1
def lS(h:LJ)(w:Wd)(st:List Stp)(o:Int)(o4 o5:Option Sl):vA:=[jr (.bor (.lst ((h.map j1).map T.d))),bD (wD w),bD (.list (st.map tH)),bD (.int o),o4,o5]
theorem ux(C:Ψ.sp "said_truly"=JQ)(j:Ψ.sp "_law_due"=XQ){z:LJ}{o:Int}{o5:Option Sl}(f:WOk w)(g:∀e∈w.es,Ob e<=100)(i:xO w ns)(hk:k<(iB w ns).steps.9)(q:∀o5,Z.nx (lS z w (iB w ns).steps o (bD (.int (k:Int))) o5)):pF Ψ gS Z (lS z w (iB w ns).steps o (bD (.int (k:Int))) o5):=by
 have h:=fZ f g i;have e:(iB w ns).steps=(iB w ns).steps.take k++(iB w ns).steps[k]::(iB w ns).steps.drop (k+1):=by rw[List.getElem_cons_drop,List.take_append_drop]
 have x:((iB w ns).steps.take k).9=k:=by rw[Q8];omega
 generalize hl:(iB w ns).steps.take k=l at *;generalize (iB w ns).steps[k]=s at *;generalize (iB w ns).steps.drop (k+1)=r at *;clear hl;have K:=(h.s s (by rw[e];exact QT _ QD)).n;have E:AC ((iB w ns).steps.map tH) (k:Int)=jr (tH s):=by rw[e,<- x];exact OX tH l r s
 delta lS at q;delta lS;delta gS;simp![E,GA,↓TZ,↓kA (md:=[]) C rfl rfl,↓kA (md:=[]) j rfl rfl,↓yf,↓Vh,↓Es];split;refine#[_,_,rfl,#[f,g],K,λW A I G y p B=>#[rfl,?_]];cases Vl i y;have F:A=l:=Z0 (by rw[<- p];exact h.n) (p.symm.trans e) B;subst F;simp![↓kA (md:=[]) j rfl rfl,↓yf,↓Vh,↓Es];rw[e,<- x];rw[e]at h;refine#[_,_,_,_,rfl,h,#[rfl,?_]];simp![↓zA];rw[e,<- x]at q;exact q _;exact q _
theorem Ek(J:Ψ.sp "said_truly"=JQ)(I:Ψ.sp "_law_due"=XQ)(G:Ψ.sp "gone"=FL)(p:Ψ.sp "_law_world"=KI)(F:Ψ.sp "_law_mixed"=yF)(C:Ψ.sp "_law_cell_at"=DI)(ds Q E)(h:TQ.run ds Q E):Cz Ψ L9 TQ yi V6 ds Q:=by let#[y,hl,hb,rfl,q]:=h;refine uA [jr (.bor (.lst ((y.map j1).map T.d))),kv,kv,kv,kv,kv] ?_;have f:=x5 y;have A:=Pq y;delta L9;simp![↓kA (md:=[.shal]) p rfl rfl];refine#[_,rfl,?_];have n:∀{K:T->LT->Prop}{E:XE},K (Go (wF y)) []->mL KI [.lst ((y.map j1).map T.d)] K E:=λq=>#[_,rfl,q];generalize wF y=w at *;simp![↓Ly,↓kA (md:=[]) G rfl rfl];refine#[_,rfl,f,λns o=>?_];let#[_,M,_]:=vX f o;simp![↓kA (md:=[]) F rfl rfl,↓kA (md:=[.shal]) C rfl rfl,↓IG,↓OI,QF];refine#[(),(),?_];rw[qN];refine HA (λ(i:Nat)=>T.d (.int (i:Int))) (λr j=>∃e z,(∀k∈r,k<(iB w ns).steps.9)/\j=lS y w (iB w ns).steps (cA (JA y 1) 95) e z) ?_ ?_ _ _ #[kv,kv,λk hk=>Q6.mp hk,rfl];rintro j ⟨e,z,_,rfl⟩;show pB Ψ _ _ (eZ Q) (lS y w (iB w ns).steps (cA (JA y 1) 95) (mG e) z);delta lS;simp![↓kA (md:=[.shal]) p rfl rfl];refine n #[rfl,?_];show UB .Eq (.d (wD w)) (.d (Go w).er) λk=>Q (.d (.bool k)) [];rw[Lg];exact u9 (L:=λk=>Q (.d (.bool k)) []) (Yr f) q;rintro k r j N B ⟨e,z,g,rfl⟩;exact ux J I f A o (g k QD) λz=>B _ #[_,z,λx W=>g x (QE _ W),rfl]
end
end L2.L3.K45
namespace L2.L3
open PySem PySem.Spec PyProof.Rows L2.L3.Q
section
variable{K:QC}{x:Str}{st:gV}
theorem dX{h:vu}:∀(y:List ko),(sv y h).In h
 |[],a,o,e=>nomatch e
 |b::y,a,o,e=>by
  unfold sv at e;rw[WY]at e;cases c:h.get? b with
  |none=>rw[c]at e;exact dX y a o e|some z =>
   rw[c]at e;have e:QC4 a ((b,z)::sv y h)=jr o:=e;rw[WF]at e;cases d:a==b with|true=>rw[d]at e;cases e;rw[beq_iff_eq.mp d];exact c|false=>rw[d]at e;exact dX y a o e
theorem Hm{q:Str}{f:ko}{y:zo}{w:kn}{v:Option ko}{z:Array (Option kn)}(hl:K.lookup f=jr #[w,v,.func y,z])(h:jp y (W6 K y.code q&&wf K (.ref f))=jp (wH x q (uD st) (aC st) (SA st) .none .none .none .none kv .none .none) kf):∃y,Fun K x q st f y:=by let#[Y,X,s,r,p,o,n,m,l,j,i,g,e,b,a]:=y;unfold jp at h;injection h with h1 h2;injection h2 with h2 h3;injection h1 with b1 h1;injection h1 with b2 h1;injection h1 with b3 h1;injection h1 with b4 b5;injection h2 with c1 h2;injection h2 with c2 h2;injection h2 with c3 c4;let#[u,k]:=QAN.mp h3;simp only at b1 b2 b3 b4 b5 c1 c2 c3 c4 u;subst b1 b2 b3 b4 b5 c1 c2 c3 c4;exact#[_,Lm hl u k]
theorem y6(h:fX K x=YU x st)(y:(YU x st).isSome=kf):PZ K x st:=by
 have z:YU x st=jr (jp (wH x x (uD st) (aC st) (SA st) .none .none .none .none kv .none .none) kf):=by cases st<;>first|rfl|cases y
 rw[z]at h;unfold fX at h;split at h;rename_i f hf;split at h;rename_i hl;let#[u,F]:=Hm hl (Qp h);exact#[f,u,hf,F];cases h;cases h
theorem Db(h:YW K x=kf):wG K k4 x=jr none:=by unfold YW at h;split at h;assumption;cases h
theorem j6{i:Int}(h:Ai K x=jr i):zO K x (.int i):=by
 unfold Ai at h;split at h;rename_i u hu;cases u with|int j t=>cases h;exact#[_,_,hu,rfl,λ_=>.int i]|_=>cases h
 cases h
theorem SS:∀{us:LW}{xs:LS},us.map dq=xs.map jr->us.map yO=xs.map λy=>jr (.str y)
 |[],[],_=>rfl|[],_::_,h=>by cases h|_::_,[],h=>by cases h|u::us,x::xs,h=>by
  injection h with h1 h2;rw[QX,QX,SS h2];cases u with|str z t=>cases h1;rfl|_=>cases h1
theorem U0{xs:LS}(h:jj K x=jr (xs.map jr))(y:xs.9<=kb):zO K x (.tuple (xs.map j0)):=by unfold jj at h;split at h;rename_i f hf;split at h;rename_i t od its n osl hl;split at h;rename_i et;subst et;injection h with h;exact J5 (its:=its.toList) hf (by simpa using hl) (SS h) y;cases h;cases h;cases h
theorem go_of(e:seen K=due):oG K tA=true:=(QAb (QAb (QAb (QAb e).2).2).2).2
end
section
variable{K:QC}{h:vu}{mg:Str->Option kn}{T:ko}
theorem eU(e:oG K T=kf)(X:K.In h)(G:h.Ns k4 mg):(∃f k w v z c,mg "going_order"=jr (.ref f)/\K.lookup f=jr #[k,w,.func v,z]/\v.code=.ref c/\QBH K c T=kf)/\(∀y:vu,K.In y->y.BuiltinsAt mg T)/\K.lookup T=kv/\k4≠T:=by
 let#[u,e]:=jA e;let#[x,e]:=jA e;let#[g,a]:=jA e;refine#[?_,?_,QAx.mp g,bne_iff_ne.mp a];split at u
 ·rename_i f hf
  split at u;rename_i k w v z hl;split at u;rename_i c hc;exact#[f,k,w,v,z,c,Wn X G hf,hl,hc,u];cases u;cases u
 cases u;intro y Y;split at x;rename_i b hb;split at x;rename_i t d z hl;let#[n,x]:=jA x;let#[m,x]:=jA x;let#[l,x]:=jA x;let#[j,i]:=jA x;exact#[b,_,Wn X G hb,bne_iff_ne.mp l,bne_iff_ne.mp j,bne_iff_ne.mp i,Y _ _ hl,by rw[beq_iff_eq.mp n],by rw[beq_iff_eq.mp m],rfl];cases x;cases x
theorem Gm(e:oG K T=kf)(X:K.In h)(G:h.Ns k4 mg):∃v c,(∀x:vu,K.In x->∀P q,vQ mg x P q->P=T/\q=v)/\QBH K c T=kf/\K.lookup T=none:=by let#[#[f,I,F,C,w,c,p,n,m,y],_,l,_]:=eU e X G;refine#[C.qualname++".<locals>.<lambda>",c,λx Y P q t=>?_,y,l];let#[M,o,B,N,A,W,Z,s,#[L,E,_,_,_,_,_,_,_,j,_,i,g,_],r]:=t;cases p.symm.trans A;have z:=W.symm.trans (Y _ _ n);cases z;cases Z;cases m.symm.trans s;let#[J,u,_,_,_,_,_,_,_,b,_,a,k,_]:=QAc Y y;cases j.symm.trans b;cases i.symm.trans a;cases g.symm.trans k;exact#[rfl,r]
end
theorem walk_seen{l:PySem.W.OpenLaw}{k:Nat}{q:k5}{loose:LS}{XP:(Str->Option kn)->vu->Prop}{YP:xb->vu->Prop}{d:DefRec}{x:Str}{Fs:QC->Prop}{T:ko}
  (hn:l.most=jr 63) (C:d.params.defaults=[]) (S:Room k mx) (hY:∀(w:xb) (h:vu),YP w h->∃K:QC,K.In h/\Fs K/\h.get? T=jr (QBw #[])) (B:∀K,Fs K->oG K T=kf)
  (F:∀(w:xb) (mg:Str->Option kn) (p:ko) (h:vu) (K:QC),K.In h->Fs K->oG K T=kf->h.Ns k4 mg->mg d.name=jr (.ref p) ->
   ∃E:zo,(∀(s:kt) (u:kn),l5 s E #[[u],[]] [(x,u)]) /\
    ∀y:vu,K.In y->y.Ns k4 mg->FnOk l.prog w K mg y L4 k p E [x] (lift K TQ)) :
  PySem.W.WalkO q loose XP YP l.row.toRowW d [] (λf vs=>PySem.call f vs):=by
 intro w L J mg mb G Y p o pm cd doc dV kV ho hd hcd M A hg args I as j n R Z hlo;obtain rfl:dV=.none:=PySem.W.Dflts.none M C;obtain rfl:kV=.none:=PySem.W.Dflts.noKw M;let#[a,vs,P,rfl,rfl,m,i,v]:=Att.script_of hn j Z;let#[K,X,fs,Q]:=hY w _ Y;have N:=B K fs;let#[tq,c,g1,g2,g3]:=Gm N X G.T.g;let#[E,hb,hF]:=F w mg p _ K X fs N G.T.g A;refine PySem.W.enter_call (QCi (g8 g1 ((QAc X g2).tab Q) g3 X G.T.g G.T.b G.T.builtins G.T.nolimit hg m i (QU v (by decide)) S hF hb (λH hO hS=>km _ H a P v (Se n) hS) λH e O=>λz=>z) λr O hq=>?_);let#[rfl,h2,h3,h4]:=hq;exact#[.inl #[.bool kf,.bool kf,[],rfl,λ_=>rfl,.bool kf,Att.post_true l _,λ_=>#[List.Pairwise.nil,λ_ hm=>(nomatch hm)]],h2,h3,h4]
end L2.L3
namespace L2.L3.K45
open PySem PySem.Spec PyProof.Rows L2 L2.L3 L2.L3.Q
def Ky:Nat->(LW->Prop)->Prop
 |0,p=>p []|n+1,p=>∀u,Ky n λh=>p (u::h)
theorem jz:∀{n:Nat}{p:LW->Prop},Ky n p->∀us:LW,us.9=n->p us
 |0,_,h,us,e=>by rw[List.length_eq_zero_iff.mp e];exact h|_+1,_,_,[],e=>nomatch e
 |_+1,_,h,u::us,e=>jz (h u) us (Nat.succ.inj e)
def jAk(x q:Str)(st:gV)(u:LS):Prop:=∀(kV h v:kn) (k:Option ko) (y w:kn),Ky u.9 λz=>ew (wH x q (uD st) (aC st) (SA st) .none kV h v k y w) #[z,[]]=ak (u.zip z)
noncomputable def Ho:List (Str×D):=tT.map (λp=>(p.1,.tuple (p.2.map j0)))++sT.map λp=>(p.1,.int p.2)
structure Cx(K:QC)(h:vu)(mg:Str->Option kn):Prop where
 X:K.In h
 G:h.Ns k4 mg
 V:∀p∈Ho,zO K p.1 p.2
 N:∀y∈nT,wG K k4 y=jr kv
 D:∀p∈fT,PZ K p.1 (top p.2)
theorem HE{α:Type}{d:α}:∀{l:List α}{i:Nat},QDI i l.9=kf->l.getD i d∈l
 |[],_,h=>nomatch h
 |_::_,0,_=>.head _|_::_,_+1,h=>.tail _ (HE (Nat.blt_eq.mpr (wX (Nat.blt_eq.mp h))))
theorem Zg{α:Type}{l:List (Str×α)}{p:Str×α}(nd:(l.map wE).Nodup)(h:p∈l):l.lookup p.1=jr p.2:=by
 induction l with|nil=>cases h|cons a l y=>let#[x,s]:=a;rw[QX,Ql]at nd;rw[WF];rcases QL.mp h with rfl|h;rw[beq_self_eq_true];have v:p.1∈l.map wE:=QB5 h;have u:(p.1==x)=false:=beq_eq_false_iff_ne.mpr λz=>nd.1 (by rw[<- z];exact v);rw[u];exact y nd.2 h
def cg:LS:=fT.map wE
def fx(i:Nat):Str×Nat:=fT.getD i ("",0)
def tbl(r:List PSp):PEv:=Zf (cg.zip r) Ho
theorem OS{r:List PSp}(i:Nat)(h:QDI i Ho.length=true:=by rfl):(tbl r).va (Ho.getD i ("",.none)).1=jr (Ho.getD i ("",.none)).2:=Zg (DE (by kernel_rfl)) (HE h)
theorem oq{r:List PSp}(nd:vK ((cg.zip r).map wE)=kf)(i:Nat)(h:QDI i (cg.zip r).9=kf):(tbl r).sp ((cg.zip r).getD i ("",Po)).1=((cg.zip r).getD i ("",Po)).2:=by show(QC4 _ _).getD Po=_;rw[Zg (DE nd) (HE h)];rfl
noncomputable def nB(n:Need)(fs:LS):Bool:=n.fn.all (λx=>fs.contains x)&&((n.va.all λx=>(Ho.map wE).contains x)&&n.no.all (λx=>nT.contains x))
section
variable{P:k5}{w:xb}{K:QC}{h base:vu}{mg:Str->Option kn}{r v:List PSp}{R:PSp}{u:LS}{k:Nat}{b:PT}{n:Need}{N z:LS}
theorem hv(C:Cx K h mg)(A:∀g∈u,LG P w K mg base (tbl r) k g)(i:Nat)(TB:AA n b N z (top (fx i).2)=kf)
  (body:∀ts Q E,R.run ts Q E->ts.9=z.9/\pB (tbl r) (λ_=>False) b (yD R z.9 Q) (oB N R.md ts)) (o:(tbl v).sp (fx i).1=R) (hc:xK (CB 0 R.md z.9) b=true:=by kernel_rfl)
  (hb:jAk (fx i).1 (fx i).1 (top (fx i).2) z:=by(repeat intro _);rfl)
  (x:nB n u=true:=by kernel_rfl) (l:QDI i fT.length=true:=by rfl):LG P w K mg base (tbl v) (k+1) (fx i).1:=by
 let#[s,x]:=jA x;let#[q,p]:=jA x;exact R8 C.X C.G (C.D _ (HE l)) TB hc (λa b c d e f=>jz (hb a b c d e f)) (λg m=>A g (sQ s g m)) (bY C.X C.G C.V q) (λy j=>C.N y (sQ p y j)) body o
theorem hc(A:∀g∈u,LG P w K mg base (tbl r) k g){x:Str}(Z:LG P w K mg base (tbl r) (k+1) x):∀g∈x::u,LG P w K mg base (tbl r) (k+1) g:=by intro g y;rcases QL.mp y with rfl|y;exact Z;exact(A g y).mono (wU _)
theorem hl(C:Cx K h mg)(A:∀g∈u,LG P w K mg base (tbl r) k g){x q:Str}{st:gV}{f:ko}{e:zo}(F:Fun K x q st f e)(TB:AA n b N z st=kf)
  (body:∀ts Q E,R.run ts Q E->ts.9=z.9/\pB (tbl r) (λ_=>False) b (yD R z.9 Q) (oB N R.md ts)) (hc:xK (CB 0 R.md z.9) b=true:=by kernel_rfl) (a:nB n u=true:=by kernel_rfl):FnOk P w K mg base L4 (k+1) f e z (lift K R):=by
 let#[o,a]:=jA a;let#[m,l]:=jA a;exact E8 F TB hc (λg j=>A g (sQ o g j)) (bY C.X C.G C.V m) (λy i=>QAk C.X C.G (C.N y (sQ l y i))) body
theorem cx_of(X:K.In h)(G:h.Ns k4 mg)(e:seen K=due)(o:(fT.all λp=>(YU p.1 (top p.2)).isSome)=kf)(m:(tT.all λp=>decide (p.2.9<=1000))=kf):Cx K h mg:=by injection e with j e;injection e with i e;injection e with g e;injection e with f _;have j:=W4.mp j;have i:=W4.mp i;have g:=W4.mp g;have f:=W4.mp f;refine#[X,G,λp x=>?_,λy l=>Db (f y l),λp x=>y6 (j p x) (Q1.mp o p x)];rcases Qf.mp x with x|x;let#[q,a,rfl]:=QW.mp x;have:=qq (Q1.mp m q a);exact U0 (i q a) ();let#[q,a,rfl]:=QW.mp x;exact j6 (g q a)
end
section
variable{P:k5}{w:xb}{h:vu}{mg:Str->Option kn}
def Mo:List PSp:=[yF,DI,SJ,yG,VI,IV,RG,lM,oM,GL,KI,vr,UQ,YQ,mM,nY,UI,jG,OG,VQ,iQ,AG,LI,BI,zG,ZQ,SG,CI,KQ,FI,XI,HI,jW,DL,ID,FL,CL,kW,zW,EV,TV,yW,JQ,XQ,TQ]
theorem eA(i:Nat)(h:QDI i (cg.zip Mo).9=true:=by rfl):(tbl Mo).sp ((cg.zip Mo).getD i ("",Po)).1=((cg.zip Mo).getD i ("",Po)).2:=oq (by kernel_rfl) i h
theorem jAe{K:QC}{x:vu}{k:Nat}(C:Cx K h mg)(q:oG K tA=kf)(v:K.In x)(m:x.Ns k4 mg):LG P w K mg x (tbl Mo) (k+1) "going_order":=by let#[f,M,p,#[#[J,I,kV,B,F,R,b,Q,i,rfl,lk,a],n]]:=C.D (fx 11) (HE rfl);let#[#[O,l,j,A,e,c,g,W,Z,Y],s,L,r]:=eU q C.X C.G;cases(Wn C.X C.G p).symm.trans g;cases lk.symm.trans W;cases(show b=.ref c from Z);have z:=λy (o:nT.contains y=kf)=>QAk C.X C.G (C.N y (Qr.mp o));exact ve v m g lk a n (QAc v Y) (s x v) r (z _ (by kernel_rfl)) (z _ (by kernel_rfl)) (z _ (by kernel_rfl)) (λE hl=>by let#[u,rfl]:=QBT.mp hl;rfl) (eA 11)
theorem all{K:QC}{v:ko}(C:Cx K h mg)(b:oG K tA=kf)(y:mg "law"=jr (.ref v)) :
  ∃z:zo,(∀(s:kt) (u:kn),l5 s z #[[u],[]] [("_law_script",u)])/\∀x:vu,K.In x->x.Ns k4 mg->FnOk P w K mg x L4 45 v z ["_law_script"] (lift K TQ):=by
 refine vm C.X C.G (C.D (fx 44) (HE rfl)) rfl y (eA 44) (λ_ _ _ _ _ _ e hl=>by let#[u,rfl]:=QBT.mp hl;rfl) λx a k f z F _=>?_;have A:∀g∈([]:LS),LG P w K mg x (tbl Mo) 0 g:=nofun;have A:=hc A (hv C A 0 BX Pk (eA 0));have A:=hc A (hv C A 1 xS Ic (eA 1));have A:=hc A (hv C A 2 vS Tk (eA 2));have A:=hc A (hv C A 3 XX t7 (eA 3));have A:=hc A (hv C A 4 VX (l7 (eA 3) (eA 0) (eA 2)) (eA 4));have A:=hc A (hv C A 5 PU Hk (eA 5));have A:=hc A (hv C A 6 RU G1 (eA 6));have A:=hc A (hv C A 7 UX i7 (eA 7));have A:=hc A (hv C A 8 FX (yl (eA 2) (eA 7)) (eA 8));have A:=hc A (hv C A 9 uS jd (eA 9));have A:=hc A (hv C A 10 ZX (f7 (eA 0) (eA 1) (eA 4) (eA 5) (eA 6) (eA 8) (eA 9)) (eA 10));have A:=hc A (jAe C b a k);have A:=hc A (hv C A 12 ON Jl (eA 12));have A:=hc A (hv C A 13 iX Oc (eA 13));have A:=hc A (hv C A 14 TU J7 (eA 14));have A:=hc A (hv C A 15 SU (Kr (eA 13) (eA 14) (eA 12)) (eA 15));have A:=hc A (hv C A 16 LO Nc (eA 16));have A:=hc A (hv C A 17 HN (d7 (eA 16) (eA 12)) (eA 17));have A:=hc A (hv C A 18 NO Rc (eA 18));have A:=hc A (hv C A 19 AU xl (eA 19));have A:=hc A (hv C A 20 MU Ck (eA 20));have A:=hc A (hv C A 21 GX yd (eA 21));have A:=hc A (hv C A 22 EU (zd (eA 21)) (eA 22));have A:=hc A (hv C A 23 NU (D1 (eA 22) (eA 21) (OS 0) (OS 1)) (eA 23));have A:=hc A (hv C A 24 aJ (e7 (OS 0)) (eA 24));have A:=hc A (hv C A 25 zS (Ak (OS 0)) (eA 25));have A:=hc A (hv C A 26 MN L1 (eA 26));have A:=hc A (hv C A 27 AO (Y7 (eA 26)) (eA 27));have A:=hc A (hv C A 28 SO Ec (eA 28));have A:=hc A (hv C A 29 UL (Z7 (eA 23) (eA 24) (eA 25) (eA 27) (eA 28) (OS 0)) (eA 29));have A:=hc A (hv C A 30 ZL (Mc (eA 29)) (eA 30));have A:=hc A (hv C A 31 VL (K7 (eA 30)) (eA 31));have A:=hc A (hv C A 32 OU Mk (eA 32));have A:=hc A (hv C A 33 OO (Sc (eA 31) (eA 32)) (eA 33));have A:=hc A (hv C A 34 RO (Tc (eA 16) (eA 20) (eA 19) (eA 33)) (eA 34));have A:=hc A (hv C A 35 Fe (Ac (eA 11) (eA 15) (eA 17) (eA 18) (eA 34)) (eA 35));have A:=hc A (hv C A 36 JX Pc (eA 36));have A:=hc A (hv C A 37 KL (il (eA 36)) (eA 37));have A:=hc A (hv C A 38 YX Sk (eA 38));have A:=hc A (hv C A 39 eX (Fk (eA 36) (eA 16)) (eA 39));have A:=hc A (hv C A 40 nK (Bk (eA 37) (eA 38) (eA 39)) (eA 40));have A:=hc A (hv C A 41 NN (Nk (eA 35)) (eA 41));have A:=hc A (hv C A 42 MO (Dk (eA 40) (eA 41)) (eA 42));have A:=hc A (hv C A 43 J9 ul (eA 43));exact hl C A F on (Ek (eA 42) (eA 43) (eA 35) (eA 10) (eA 0) (eA 1))
def hk:PySem.W.Hook:=#[HZ×Option Obj,ob,λ_=>(due,jr (QBw #[])),λ_ h=>∃K:QC,K.In h/\seen K=due/\h.get? tA=jr (QBw #[]),λ_ _ e=>#[_,dX _,(QAb e).1,(QAb e).2],λ_ _ _ #[K,X,e,t] k=>#[K,X.keeps k,e,k _ _ t]]
end
end L2.L3.K45
open PySem PySem.W PyProof.Rows
set_option maxRecDepth 100000 in
set_option maxHeartbeats 0 in
theorem PySem.Challenge.cw_quoteweave_k45_quotes_said_truly_holds : PySem.Challenge.rw_quoteweave_k45_quotes_said_truly.Holds := by
 refine holds_law L2.L3.Q.ws λy=>?_;refine holds_open (q:=L2.L3.Q.qv) (loose:=[]) (Xt:=L2.L3.Q.xt) (XP:=XL L2.L3.Q.qv []) (Yf:=Hook.obs L2.L3.K45.hk) (Ya:=Hook.val L2.L3.K45.hk) (YP:=Hook.says L2.L3.K45.hk) (N:=2942) L2.L3.Q.lf (Hook.of L2.L3.K45.hk) (Hook.keeps L2.L3.K45.hk) (λs e=>xl_of s (QAN.mp e).1) XL.keeps (by rfl) (by rfl) (by rfl) (λs e=>recFacts_of (QAN.mp e).2) (by rfl) (by first|assumption|decide +kernel) (by decide +kernel) ⟨rfl,rfl,rfl,rfl,rfl,by decide +kernel⟩ ?hw ?hc
 case hw=>w_witness2
 case hc=>exact L2.L3.walk_seen (l:=Q9) (k:=45) (x:="_law_script") (Fs:=λK=>L2.L3.Q.seen K=L2.L3.Q.due) rfl rfl ⟨rfl,by decide,by decide⟩ (λw h Y=>Y) (λK e=>L2.L3.go_of e) λw u v h K X e z G m=>L2.L3.K45.all (L2.L3.K45.cx_of X G e (by kernel_rfl) (by kernel_rfl)) z m
