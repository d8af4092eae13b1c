import PyProof.Rows.All
import Wide.All
import OpenK.AllK
import Wide.FinOn
import Lean
import PyProof.EqAt
import PyProof.EqKinds
import PyProof.TupleCall
import PySem.Challenge.RW_quoteweave_k13_small_webs_listed
noncomputable section
set_option Elab.async false
set_option linter.all false
set_option compiler.extract_closed false
set_option bootstrap.genMatcherCode false
set_option genInjectivity false
set_option genSizeOf false
set_option maxRecDepth 100000
set_option maxHeartbeats 4000000
open PySem.PyData renaming str->Jx,int->Jy
open PySem.Value renaming none->Jz,ref->Jv
open PySem renaming wpAny_bind->QA,wpAny_pure->QH,wpAny_newObj_type->Qu,mem_of_lookup->Q4,wpAny_call_entry->Q5,wpAny_holding->qG,sizeLine_eq->qR,wpAny_callSpecial?_slot->qW,wpAny_loadPart'->qb,wpAny_setState_of->qe,codeAny_builtin->qh,Spec->qp,wpAny_Call_Name_kw->wL,wpAny_setField->wa,wpAny_typeNameOfWhole_itemiter->wj,wpAny_typeNameOfWhole_keyiter->wo,wpAny_truthy_bool->wu,wpAny_dictEntries->ww,wpAny_mono->WE,wpAny_setField_rec->WF,plainId_quiet->WG,wpAny_field->WK,wpAny_passesOwn->WN,wpAny_pyIter_list->WT,wpAny_isInstance->Wh,wpAny_askSetting->Wk,tupleKind_room_in1->Wq,wpAny_typeOf->Wt,wpAny_dictEpoch->Ww,wpAny_seqItems->QAA,wpAny_fieldsOf->QAB,wpAny_of_eq->QAJ,codeAny_mono->QAL,wpAny_attempt->QAW,wpAny_isOneOf_itemiter->QAg,wpAny_pyIter_slot->QAj,wpAny_storeSet_of->QAl,wpAny_notOrdered_dict->QAv,wpAny_rule->QBA,wpAny_execs_nil->QBD,wpAny_specialOf->QBE,wpAny_setEntries_of->QBF,wpAny_updateSeq->QBH,wpAny_runValue->QBZ,isSubtype_type->QBa,call_meets->QBf,wpAny_Call_method0_late->QBt,wpAny_handled->QBv,wpAny_newList->QBw,wpAny_forIn_list->QB6,pushCells_keeps->QCI,wpAny_isOneOf_keyiter->QCM,wpAny_isSame_ref_self->QCP,codeAny_of_tree->QCQ,weight_type_call_type->QCR,builtinLookup_eq_fast->QCS,codeAny_call_builtin->QCZ,codeAny_extend_loopS->QCb,wpAny_newTuple->QCh,evalArgs_none->QCm,wpAny_setItem_pairs->QCn,wpAny_throw->QCp,wpAny_standAt->QC0,wpAny_pyIter_tuple->QC4,wpAny_assign_Name->QDE,slot_list_getitem->QDG,wpAny_pyIter_enum->QDM,concat_meets->QDU,seqIndex_neg->QDV,wpAny_pyHash_str->QDd,wpAny_execs_cons->QDe,noFill_tuple_add->QDg,check_set_init_1->QDp,seqIndex_of->QDt,storedH_new->QDw,wpAny_Name->QD3,wpAny_load->QD4,wpAny_call->QD5,typeIs_str->QD6,typeIs_int->QD7,Str->QED,Fin->QEG
open List renaming mem_cons_of_mem->QC,mem_cons_self->QD,length_map->QG,mem_singleton->QJ,mem_cons->QK,length_cons->QL,length_append->QN,mem_append_right->QR,map_cons->QT,size_toArray->QU,mem_append->QW,mem_map->QY,mem_filter->QZ,nodup_cons->Qa,getElem?_eq_some_iff->Qb,mem_append_left->Qd,getElem?_map->Qg,map_map->Qi,range->Qj,map_append->Qk,length_nil->Qm,mem_of_getElem?->Qq,contains_iff_mem->Qr,nodup_nil->Qt,getElem?_append_right->Qx,isEmpty_iff->Q6,mem_range->Q7,replicate->Q8,getElem?_eq_getElem->Q9,nil_append->qD,length_singleton->qE,getElem?_append_left->qJ,getElem?_eq_none->qL,all_eq_true->qN,nodup_append->qT,length_range->qU,map_congr_left->qX,append_assoc->qd,filter_sublist->qf,mem_flatMap->qm,length_eq_zero_iff->qt,getElem?_set_ne->qw,lookup_cons->wB,mem_map_of_mem->wE,length_replicate->wF,getElem?_cons_succ->wI,append_nil->wK,all_cons->wN,getElem?_set_self->wT,filterMap_cons->wV,replicate_succ->wX,ext_getElem?->wY,length_set->wf,foldl_cons->wg,length->wm,map_nil->wt,getElem?_set->wx,find?_cons->wy,drop_eq_nil_of_le->WA,length_pos_of_mem->WB,nodup_iff_pairwise_ne->WC,mem_iff_getElem?->WH,drop_eq_getElem_cons->WM,flatten_cons->WS,length_erase_of_mem->WV,toArray->WZ,getElem?_replicate->Wb,length_take->Wf,any_eq_true->Wg,not_mem_nil->Wi,filter_cons->Wl,lookup->Wu,length_filter_le->Wx,any_cons->Wz,mem_erase_of_ne->W7,mem_of_mem_drop->W8,length_drop->QAF,map_fst_zip->QAH,set->QAI,map_id->QAK,getElem?_take_of_lt->QAM,mem_filterMap->QAS,forIn_cons->QAT,lookup_append->QAU,length_zipIdx->QAe,reverse_cons->QAh,flatMap_cons->QAn,foldl_append->QAo,map_inj_left->QAq,map_snd_zip->QAz,nodup_range->QA1,getElem?_modify->QA3,perm_ext_iff_of_nodup->QBN,length_eraseIdx_of_lt->QBO,getElem?_drop->QBQ,zip_cons_cons->QBR,pairwise_cons->QBS,forIn_nil->QBV,any_eq_false->QBc,pairwise_map->QBj,getElem?_cons_zero->QBp,pairwise_filterMap->QBy,zip_map'->QB2,getElem_mem->QB4,length_eq_one_iff->QCD,modify_succ_cons->QCE,modify_zero_cons->QCF,of_mem_zip->QCH,getD->QCL,getElem?_zipIdx->QCc,getElem_of_mem->QCo,getElem?_range->QCq,set_cons_zero->QCu,set_cons_succ->QCv,filterMap_map->QC2,find?_eq_none->QC5,map_filterMap->QC7,mapM_toArray->QDK,map_set->QDb,cons_append->QDc,take_length->QDm,drop_length->QDs,foldl->QD8,Pairwise->QEB,Perm->QEH,Sublist->QEJ
open PySem.W renaming Frag->QE,kia_one->qg,fnOf->wr,nsIn->WI,keepIn->Wm,cellsFrom_some->Wn,WData->QA9,codeIn->QBU,methodObj->QBb,kitx_list->QBd,mg_of->QB1,instObj->QCG,lookIn->QCf,kitOne->QCg,kitx_tuple->QC1,mg_none_of->QDD,kitx_dict->QDF,plainGet->QDf
open Bool renaming false_ne_true->QF,and_eq_true->Qf,not_eq_true'->Qp,false_eq_true->qF,eq_iff_iff->qa,or_eq_true->w8,and_eq_true_iff->QA5,not_true->QA6,not_false->QBT,eq_false_iff->QBm,true_and->QBq,false_or->QBr,and_false->QCd,false_and->QCe,and_true->QCw,or_false->QCx,true_or->QDS,noConfusion->QDq
open PySem.Heap renaming get?_push_of_some->QI,get?_push_size->QO,lt_size->QS,get?_update_self->Q0,get?_update_other->qA,SameBut->qZ,size_push->qz,ExtBut->QBu,get?_push_cases->QCX,IsList->QDv
open Array renaming length_toList->QM,getElem?_toList->QX,getElem?_eq_getElem->Qn,getD_eq_getD_getElem?->wO,getElem?_eq_some_iff->WD,getElem?_setIfInBounds->Wr,toList_push->W4,mem_toList_iff->W6,forIn_toList->QAX,replicate->QAa,toList_inj->QAy,perm_iff_toList_perm->QBM,getElem?_replicate->QBk,getElem?_eq_none->QCA,toList_filterMap->QCB,size_replicate->QCY,size_map->QCk,toList_append->QCs,foldl_toList->QC6,getD->QDJ,toList->QDT
open Nat renaming le_refl->QV,le_trans->Qc,ne_of_lt->Qe,lt_of_lt_of_le->Ql,zero_le->Q3,lt_succ_of_lt->qM,le_of_lt_succ->qr,lt_irrefl->wJ,ne_of_gt->wQ,lt_of_succ_lt_succ->wU,not_lt_zero->wk,le_succ->wn,zero_add->Ws,lt_succ_self->QAG,succ_pos->QAO,lt_of_le_of_lt->QAR,le_of_lt->QAs,le_of_eq->QAt,mod_lt->QBB,sub_self->QBP,lt_succ_of_le->QBi,le_of_not_lt->QB3,le_add_right->QB7,lt_or_ge->QCJ,le_of_succ_le->QDH,lt_trichotomy->QDP,succ_mul->QDW,lt_trans->QDX,succ_le_succ->QDi,succ_lt_succ->QDl,blt->QD1
open False renaming elim->Qh
open Int renaming emod_lt_of_pos->Qo,emod_nonneg->Q1,toNat_natCast->WU,lt_irrefl->We,le_refl->QCt
open Option.some renaming injEq->Qs,inj->Qy
open PySem.SetTable renaming below->Qw,bits->qC,grown->qY,runEnd->qi,insertAt->wZ,Probe->wb,turns->wc,sizeAbove->wl,advance->Wj,layClean->W5,leap->QAY,laid->QAZ,toList_insertAt->QBl,slot->QBx,insertAt_perm->QCC,has->QCO,fill->QC8,orStandIn->QC9,tooFull->QDr,probe->QD2
open PySem.Str renaming ofString->Qz,join->QEC
open Ne renaming symm->qB
open PySem.Obj renaming data_mapFields->qH,mapSeq->qS,mapFields->wD,isFreed_of_fields->wG,cls_mapFields->W0,putSet->QBC,data_mapDictKeys->QCW
open PySem.SetTable.layClean renaming free->qI
open Classical renaming byContradiction->qK
open PySem.Heap.SameBut renaming update->qO,refl->QBg
open PySem.PyData renaming eqv->qP,strOk->qy,canLayAll0->wv,depthAll->Wv,canLay0->QAr,depth->QCK
open PySem.Around renaming under_plainId->qQ,in1_units->QB5,under_plain->QDB
open Option renaming map_some->qV,map_eq_some_iff->w9,isSome_iff_exists->WP,map_none->WX,isNone_iff_eq_none->QBY,isSome_map->QBh,isSome_some->QC3,getD_none->QDh,getD_some->QDj
open PySem.F renaming called_set->qj,slot_dict_itemiterator_next->wC,slot_dict_keyiterator_next->wH,slot_tuple_iterator_next->wR,args_tuple_iterator_next_1->QAQ,entry_tuple_iterator_next->QAV,plainAttrs_list->QAc,args_dict_itemiterator_next_1->QAi,plain_list_iadd->QAm,entry_dict_itemiterator_next->QAu,args_dict_keyiterator_next_1->QAx,entry_dict_keyiterator_next->QA0,slot_dict_getitem->QBW,args_tuple_add_2->QBe,entry_tuple_add->QBs,plainAttrs_dict->QB0,slot_tuple_add->QB8,slot_dict_items_iter->QB9,entry_proto_collect->QCT,plain_proto_collect->QCU,sub_list_frozenset->QCa,plain_extend_loop->QCr,slot_tuple_hash->QDN,entry_type_call->QDO,entry_list_iadd->QDQ,slot_dict_iter->QDk,typeCall_set_1->QDn,entry_set_init->QDo,slot_int_rmul->QDu,plain_set_new->QDz,slot_set_iter->QD0
open PySem.Challenge renaming pw_quoteweave_k13_small_webs_listed->qk,rw_quoteweave_k13_small_webs_listed->ql
open PySem.Paired renaming length->qq
open LawfulBEq renaming eq_of_beq->qu
open PySem.Builtin.SmallTypes renaming nextOf->wA
open PyProof.Rows renaming callWith_type1->wM,slot_tuple_getitem->WQ,callWith_builtin1->WY,subscriptTail_builtinR->Wo,boot_sorted->QBo,entry_list_sort->QCN,boot_set->QCV,slot_list_sort->QCi,args_list_sort->QCj,plain_sorted->QDY,entry_sorted->QDZ,args_sorted1->QDa,kind_sorted->QDy,size_push'->QD9
open PyProof.Rows.F renaming plain_set_update_loop->wP,entry_set_update_loop->Wc
open PySem.SeqAt renaming EqAt->wW
open Prod renaming fst->we,ext->QEA
open Lean.Parser.Tactic renaming tacticSeq->wq
open PySem.Builtin.List renaming listExtendWith->wz,listTooLong->QAN,listLengthHint->QBG,listSameRef->QBn
open PySem.Builtin.Slice renaming slicePlaces->WJ,sliceAdjust->W9,sliceApplied->QBK
open PySem.Builtin.Dict_items renaming addrOf->WL,ownsTuple->QA7
open PySem.Calls renaming spliced_nil->WO,spliced_cons->Wp,call_function_entry->QAC,callWith_builtin->QAf,Name_function_global->QBJ
open PySem.Builtin.Tuple renaming tupleExact->WR,tupleItemsOf->QBL,tupleHashOf->QBX
open PySem.SetTable.below renaming go->WW
open PySem.Builtin.Str renaming occurrences->Wa
open PySem.W.WData renaming weightAll->Wd,weight->QA4
open List.Perm renaming refl->QAD
open PySem.SetTable.Slot renaming noConfusion->QAE
open List.Pairwise renaming imp_of_mem->QAP,map->QAp,of_map->QA2
open Iff renaming rfl->QAb
open List.cons renaming injEq->QAd
open PySem.SetTable.probe renaming go->QAk
open PySem.Builtin.Dict renaming showsAll->QAw
open PySem.Builtin.Frozenset renaming updateFrom->QA8
open PySem.Builtin.Int renaming intBits->QBI
open PySem.Txt renaming join->QBz,slice->QEF
open PySem.Value renaming isStrOf_shape->QCl
open PySem.SeqAt.EqAt renaming int_str->QCy,str_int->QCz
open PySem.Code renaming quiet_builtin->QDA
open PySem.Shared renaming TypeIs->QDC
open PySem.Walks renaming list->QDI
open PyProof.Rows.SortSt renaming mk'->QDL
open List.Sublist renaming refl->QDR
open Array.Perm renaming refl->QDx
open PyProof.Rows.IsTup renaming new->QEE
open Eq renaming mpr->QEI
theorem dF{p:Prop}[Decidable p](h:¬p):decide p=false:=_root_.decide_eq_false h
theorem dT{p:Prop}[Decidable p](h:p):decide p=true:=_root_.decide_eq_true h
abbrev GB:=List (PySem.Addr×PySem.Obj)
abbrev pB:=PySem.Value -> PySem.Shared -> Prop
abbrev kB:=PySem.Addr -> Prop
abbrev LB:=List (QED×QED)
open Option renaming some->Jp,none->Jr
open Bool renaming true->Js,false->Jt
open PySem renaming Value->Ju,Shared->Jq,wpAny->Jw,sizeLine->jx,Addr->jy,model->jz,Program->jv,mainGlobals->jp,World->jr,Heap->js,SetTable->jt,Around->ju,compareOp->jq,starEach->jw,rawInt->j1,strIterType->j2,Paired->Kx,PyData->Ky,sysModules->Kz,cellsFrom->Kv,bootBuiltins->Kp,FuncData->Kr,cLine->Ks,firstArgMember->Kt,Stmt->Ku,binaryOp->Kq,Scope->Kw,eval->kx,foldedSetIterable->ky,assignEach->kz,Operator->kv,NameKind->kf,letOwnedTupleGo->kd,entryOfKey->kb,sliceBounds->kl,pyNext->ku,ofAClassStatement->Vx,tupleKind->Vy,attributeBase->Vz,backTo->Vv,typeNameOfWhole->Vp,CmpOp->Vr,pyIter->Vs,setAddHashedIn->Vt,swapsWith->Vu,DictEntry->Vq,relayAll->vx,codeAny->vz,IsItemIter->vv,setNext->vl,atKey->vp,assign->vr,call->vt,bindArgs->vu,ReadsAll->vq,spliced->v1,Keyword->v2,relabel->Xx,valueAt->Xy,behindInMarks->Xz,IsPart->Xv,newExc->Xp,holding->Xr,IntMulOk->Xs,BindsTo->Xu,getItem->Xq,callerA->Xw,newTuple->xx,raiseNew->xy,searchCouldBeSeen->xz,eqIsQuiet->xk,updateSeq->xp,typeLookup_type->xt,ElemsOf->xu,collect->xq,builtinsNs->xw,bindL->x0,bindC->x2,PlainAttrs->Yx,fitsIndex_both->Yy,newFunctionEnv->Yz,wpAny_notIn_of->Yv,dictSetDefault->Yp,checkCount->Yr,setAdd->Ys,entryFor_alias->Yt,setsByText->Yu,assignInOrder->Yq,intBits_le_64->Yw,seq_tuple_add->yx,evalPart_none->yy,call_list_seq->yz,comprehension->yp,IsItemIterOut->yr,setSearchFrom->yt,Comprehension->yu,PassesOwn->yq,pickOrder->yw,Const->y1,UnaryOp->y2,typeOf->y3,newList->y4,storedH->Zv,Model->Zp,field->Zs,setField->Zt,storeSet->Zu,entryFor->Zq
open PyProof.Rows renaming seqObj->Zw,StrsAre->zx,sortedS->zy,AllBare->zz,envOfC->zp,SortKind->zt,pairsOf->zu,slicePart_none->zq,oneType'->zw,keyKind'->Gx,sortedHeap_old->Gy,subscriptTail->Gz,listUpdate_at->Gv,sortedHeap_at->Gp,sortedAll_old->Gr,IntsAre->Gs
open Pure renaming pure->Gu
theorem Gq.{u}{c:Prop}{d:Decidable c}(h:¬c){α:Sort u}{t e:α}:ite c t e=e:=_root_.if_neg h
theorem Gw.{u}{c:Prop}{d:Decidable c}(h:c){α:Sort u}{t e:α}:ite c t e=t:=_root_.if_pos h
theorem gJ{a b:Prop}(h:a)(k:¬a):b:=_root_.absurd h k
theorem gx{a b:Prop}(h:a<->b):a=b:=_root_.propext h
theorem gy{p:Prop}[Decidable p](h:decide p=true):p:=_root_.of_decide_eq_true h
theorem gz{p:Prop}[Decidable p]:decide p=true<->p:=_root_.decide_eq_true_iff
theorem gV.{u,v}{α:Sort u}{β:Sort v}{a b:α}(f:α->β)(h:a=b):f a=f b:=_root_.congrArg f h
local macro_rules | `($x.$i:fieldIdx)=>if i.raw.isFieldIdx?==some 9 then `(($x).length) else Lean.Macro.throwUnsupported
set_option hygiene false in
local macro_rules
 | `(#[$xs,*])=>if xs.getElems.isEmpty then Lean.Macro.throwUnsupported else `(⟨$xs,*⟩)
 | `(())=>`(by omega)
open Lean Parser.Tactic in
def zzp:Nat->Syntax->MacroM (TSyntax `rcasesPat)
 | 0,_=>Macro.throwUnsupported
 | n+1,s=>match s with
  | `(#[$xs,*])=>do
   let a<-xs.getElems.mapM λx=>do let p<-zzp n x;`(rcasesPatLo| $p:rcasesPat)
   `(rcasesPat| ⟨$a,*⟩)
  | `(_)=>`(rcasesPat| _)
  | `($x:ident)=>`(rcasesPat| $x:ident)
  | _=>Macro.throwUnsupported
local macro_rules | `(tactic| let $p:term:=$e:term)=>do `(tactic| obtain $(<-zzp 9 p):rcasesPat:=$e)
set_option hygiene false in
local macro_rules | `(tactic| omega)=>do
 let f:=λ(s:String)=>(s.splitOn " ").toArray.map λx=>Lean.mkIdent x.toName
 let a<-(f "L2.szA L2.szB L2.szC L2.unA Nat.le_trans Nat.lt_of_le_of_lt").mapM λx=>`(wq| exact $x (by assumption) (by decide))
 let b<-(f "Nat.lt_of_lt_of_le Nat.lt_of_le_of_lt Nat.le_trans").mapM λx=>`(wq| exact $x (by assumption) (by assumption))
 let c<-(f "Nat.le_of_lt Nat.ne_of_lt Nat.ne_of_gt Nat.lt_succ_of_lt Nat.le_of_lt_succ L2.prA").mapM λx=>`(wq| exact $x (by assumption))
 let d<-(f "Nat.le_refl Nat.le_succ Nat.zero_le Nat.succ_pos").mapM λx=>`(wq| exact $x _)
 `(tactic| first|decide|assumption|exact L2.szL (by decide) $[| $a]* $[| $b]* $[| $c]* $[| $d]*|lia|omega (config:={})|(have:=PySem.sizeLine_eq;first|lia|omega (config:={})))
set_option hygiene false in
local macro_rules
 | `(%[ $xs,*|1 ])=>do
  let mut r<-`(PX.nr)
  for x in xs.getElems.reverse do r<-`(PX.nq $x $r)
  return r
 | `(%[ $xs,*|2 ])=>do
  let mut r<-`(PT.nil)
  for x in xs.getElems.reverse do r<-`(PT.seq $x $r)
  return r
def zza:="zA M9 P9 T2 O9 R9 T9 L9 O2 N9 N2 S9 G9 da Ba Ja Va Ga D9 Fa F9 C9 fj u3 Ka YQ J3 Da Ca JQ x3 Xa Ua aa Y3 t9 Li e9 Ha V3 VQ XQ A9 Ti ka ya Ai ja E9 A2 An zo En yo jo bj On Rn Pn Om Mm Nm Fn Bn Cn Zn Xn Jm yn vo ko jU Oh Ph Yn Jn on gn dn cn bn xn vn zn kj zj yj xa Am bm Em Ei ba Vn Kn lj Yi U9 Y9 K9 Z9 X9 V9 Pi Ri Ch Bh c9 b9 k9 z9 v9 vi ui Hm mi A1 JS x9 C8 B8 Jh eh D8 Xm Zf T3 Vf Kf Vm Fm Vg Fh Dh Bm Um Mf Lf Pf E7 B9 j9 BC reduceIte"
def zzb:="zG aE RE yO T.isD lockA cF lock kill mF Tg.ix jC DS yL lO isMut MR frzAt ER g7 zD.eq_1 zD.eq_2 FJ.eq_1 FJ.eq_2 FJ.eq_3 FJ.eq_4 oZ nZ nI.eq_1 List.modify_succ_cons List.modify_zero_cons Option.map_some List.length_cons List.length_nil List.getElem?_cons_zero List.getElem?_cons_succ List.cons_append List.nil_append List.set_cons_zero List.set_cons_succ Nat.reduceAdd Nat.reduceSub Nat.zero_add Bool.and_true Bool.true_and Bool.not_true Bool.not_false Bool.or_true Bool.true_or Bool.or_false Bool.false_or Bool.and_false Bool.false_and if_true if_false Bool.false_eq_true true_and and_true false_implies ne_eq reduceCtorEq not_false_eq_true not_true_eq_false implies_true forall_const Int.reduceLT Int.reduceLE Int.reducePow Int.reduceNeg Nat.reducePow and_self eq_self Option.some.injEq Sl.own.injEq Sl.ny.injEq and_assoc decide_true decide_false"
set_option hygiene false in
local macro_rules | `(tactic| simp! [$ls,*])=>do
 let a<-(zza.splitOn " ").toArray.mapM λx=>`(Lean.Parser.Tactic.simpLemma| ↓ $(Lean.mkIdent x.toName):ident)
 let b<-(zzb.splitOn " ").toArray.mapM λx=>`(Lean.Parser.Tactic.simpLemma| $(Lean.mkIdent x.toName):ident)
 `(tactic| simp only [$ls,*,$a,*,$b,*])
set_option hygiene false in
local macro_rules | `(tactic| simp? [$ls,*])=>do
 let a<-(zza.splitOn " ").toArray.mapM λx=>`(Lean.Parser.Tactic.simpLemma| ↓ $(Lean.mkIdent x.toName):ident)
 let b<-(zzb.splitOn " ").toArray.mapM λx=>`(Lean.Parser.Tactic.simpLemma| $(Lean.mkIdent x.toName):ident)
 `(tactic| simp -implicitDefEqProofs only [$ls,*,$a,*,$b,*])
abbrev LS:=List QED
abbrev LN:=List Nat
abbrev LJ:=List Int
abbrev LW:=List PySem.Value
namespace L2
open PySem PySem.Spec PyProof.Rows
section
variable{n m:Nat}{H:Hp}{a b:jy}{o:HO}
theorem szL(h:n<=16777216):n<=sizeLine:=by rw[qR];exact h
theorem Yo(h:n<16777216):n<sizeLine:=by rw[qR];exact h
theorem Zo(h:n<=m)(k:m<=16777216):n<=sizeLine:=szL (Qc h k)
theorem Lo(h:n<=m)(k:m<16777216):n<sizeLine:=Yo (QAR h k)
theorem Ho(h:n<=m)(k:m<=16777216):0+n<=sizeLine:=by rw[Ws];exact Zo h k
theorem Go{k c:Nat}(h:n+k<c)(l:m<=k):n+m<c:=QAR (Nat.add_le_add_left l n) h
noncomputable abbrev Key:=Sum Int Str
noncomputable def UL:Key->Ju->Bool
 | .inl k,v=>Value.isInt k v|.inr x,v=>Value.isStrOf x v
noncomputable def yl(w:jr):Key->Int
 | .inl k=>hashInt k|.inr x=>hashStr w x
theorem GA:∀{k:Key}{v:Ju},UL k v=Js->(∃i t,k=Sum.inl i/\v=Value.int i t)∨(∃x t,k=Sum.inr x/\v=Value.str x t)
 | .inl i,v,h=>by let#[t,e]:=Value.isInt_shape (k:=i) (v:=v) h;exact .inl #[i,t,rfl,e]|.inr x,v,h=>by let#[t,e]:=QCl (x:=x) (v:=v) h;exact .inr #[x,t,rfl,e]
theorem kW(i:Int)(t:Tok):UL (.inl i) (.int i t)=true:=by simp[UL,Value.isInt]
theorem zW(x:Str)(t:Tok):UL (.inr x) (.str x t)=true:=by simp[UL,Value.isStrOf]
theorem Jd(a b:Int):decide ((Sum.inl a:Key)=Sum.inl b)=(a==b):=by by_cases e:a=b;subst e;simp;have h:¬ (Sum.inl a:Key)=Sum.inl b:=λq=>e (Sum.inl.inj q);rw[dF h];exact(beq_eq_false_iff_ne.mpr e).symm
theorem zd(a b:Str):decide ((Sum.inr a:Key)=Sum.inr b)=decide (a=b):=by by_cases e:a=b;subst e;simp;have h:¬ (Sum.inr a:Key)=Sum.inr b:=λq=>e (Sum.inr.inj q);rw[dF h,dF e]
theorem ud(a:Int)(b:Str):decide ((Sum.inl a:Key)=Sum.inr b)=false:=dF (λq=>nomatch q)
theorem vd(a:Str)(b:Int):decide ((Sum.inr a:Key)=Sum.inl b)=false:=dF (λq=>nomatch q)
def yB(prog:jv)(w:jr):PySem.KeyKind prog w Key where
 is:=UL
 hash:=yl w
 inj:=λv a b f hb=>by
  rcases GA f with⟨i,t,rfl,rfl⟩| ⟨x,t,rfl,rfl⟩
  rcases GA hb with⟨j,u,rfl,e⟩| ⟨y,u,rfl,e⟩
  ·injection e with e1 _;rw[e1]
  exact nomatch e;rcases GA hb with⟨j,u,rfl,e⟩| ⟨y,u,rfl,e⟩
  ·exact nomatch e
  injection e with e1 _;rw[e1]
 byValue:=λk v h=>by rcases GA h with⟨i,t,rfl,rfl⟩| ⟨x,t,rfl,rfl⟩<;>rfl
 pyHash:=λhv h=>by
  rcases GA hv with⟨i,t,rfl,rfl⟩| ⟨x,t,rfl,rfl⟩
  exact wpAny_pyHash_int h;exact QDd h
 eqBool:=λz hv h=>by
  rcases GA z with⟨i,t,rfl,rfl⟩| ⟨x,t,rfl,rfl⟩
  rcases GA hv with⟨j,u,rfl,rfl⟩| ⟨y,u,rfl,rfl⟩
  ·rw[Jd]at h;exact wpAny_eqBool_int h
  rw[ud]at h;exact QCy i t y u _ _ _ _ h;rcases GA hv with⟨j,u,rfl,rfl⟩| ⟨y,u,rfl,rfl⟩
  ·rw[vd]at h;exact QCz x t j u _ _ _ _ h
  rw[zd]at h;exact wpAny_eqBool_str h
 «strs»:=λk x t v h=>by
  rcases GA h with⟨i,u,rfl,e⟩| ⟨y,u,rfl,e⟩
  exact nomatch e;injection e with e1 _;subst e1;cases v<;>rfl
theorem nP(prog:jv)(w:jr)(i:Int)(t:Tok):(yB prog w).is (.inl i) (.int i t)=true:=kW i t
theorem mP(prog:jv)(w:jr)(x:Str)(t:Tok):(yB prog w).is (.inr x) (.str x t)=true:=zW x t
set_option genInjectivity true in
inductive V where
 |non|bl (b:Bool)|int (i:Int)|str (x:Str)|byt (b:Array UInt8)|flt (b:UInt64)|ref (a:jy)|ty (n:String)
 deriving DecidableEq
abbrev LV:=List V
def lA:V->Ju->Prop
 | .non,u=>u=Jz|.bl b,u=>u=Value.bool b|.int i,u=>∃t,u=Value.int i t|.str x,u=>∃t,u=Value.str x t|.byt b,u=>∃t,u=Value.bytes b t|.flt b,u=>∃t,u=Value.float b t|.ref a,u=>u=Jv a|.ty n,u=>u=Value.type n
noncomputable abbrev uA:LV->LW->Prop:=Kx lA
theorem uA.length{xs:LV}{us:LW}(r:uA xs us):xs.9=us.length:=qq r
theorem uA.get:∀{xs:LV}{us:LW}{i:Nat}{x:V},uA xs us->xs[i]?=Jp x->∃u,us[i]?=Jp u/\lA x u
 |_,_,_,_,.nil,e=>by simp at e|_,_,0,_,.cons r _,e=>by simp at e;subst e;exact#[_,rfl,r]|_,_,i+1,x,.cons _ t,e=>by let#[u,y,h]:=uA.get (i:=i) (x:=x) t (by simpa using e);exact#[u,by simpa using y,h]
theorem uA.set{x:V}{u:Ju}(r:lA x u):∀{xs:LV}{us:LW}(i:Nat),uA xs us->uA (xs.set i x) (us.set i u)
 |_,_,_,.nil=>.nil|_,_,0,.cons _ t=>.cons r t|_,_,i+1,.cons q t=>.cons q (uA.set r i t)
theorem uA.append:∀{xs h:LV}{us ws:LW},uA xs us->uA h ws->uA (xs++h) (us++ws)
 |_,_,_,_,.nil,s=>s|_,_,_,_,.cons r t,s=>.cons r (uA.append t s)
theorem uA.take:∀{xs:LV}{us:LW}(n:Nat),uA xs us->uA (xs.take n) (us.take n)
 |_,_,0,_=>.nil|_,_,_+1,.nil=>.nil|_,_,n+1,.cons r t=>.cons r (uA.take n t)
theorem uA.drop:∀{xs:LV}{us:LW}(n:Nat),uA xs us->uA (xs.drop n) (us.drop n)
 |_,_,0,r=>r|_,_,_+1,.nil=>.nil|_,_,n+1,.cons _ t=>uA.drop n t
def eQ:Option V->Option Ju->Prop
 |some v,Jp u=>lA v u|none,Jr=>True|_,_=>False
def KV{κ:Type}:List (κ×V)->List (κ×Ju)->Prop:=Kx λ(p:κ×V) (q:κ×Ju)=>p.1=q.1/\lA p.2 q.2
def kV:Key->V
 | .inl i=>.int i|.inr x=>.str x
inductive HO where
 |lst (xs:LV)
 |tup (xs:LV)
 |dK (kvs:List (Key×V))|dT (ep:Nat) (kvs:List (List Key×jy×V))
 |set (S:Int->Bool) (n:Nat)
 |ins (C dx:jy) (fs:List (Str×V))
 |own (x:jy)
 |xd (fs:List (Str×V))
 |met (f x:jy)
 |rng (lo hi:Int)
 |frz (o:Obj) (u:HO)
 |tbl (ps:Array Ju)
 |ext (φ:js->Prop)
noncomputable abbrev Hp:=jy->Option HO
noncomputable def KA(H:Hp)(a:jy)(o:HO):Hp:=λb=>if b=a then Jp o else H b
theorem YA:KA H a o a=Jp o:=by unfold KA;rw[Gw rfl]
theorem vA(h:b≠a):KA H a o b=H b:=by unfold KA;rw[Gq h]
theorem x4{u:HO}:KA (KA H a o) a u=KA H a u:=by funext b;unfold KA;split<;>rfl
theorem aA(h:H a=Jp o)(h':H b=Jr):a≠b:=by intro e;subst e;rw[h]at h';cases h'
end
section
variable(P:jv)(w:jr)
def ZA(H:Hp)(h:js)(a:jy):HO->Prop
 | .lst k=>k.9<=jx/\∃(z:LW) (n:Nat),uA k z/\h.get? a=Jp { cls:=.type "list",data:=.seq z.toArray n }|.tup k=>k.9<=jx/\∃z:LW,uA k z/\IsTup h a z.toArray|.dK y=>y.9<=jx/\(a==Kz)=Jt/\∃i,KV y i/\h.DictOf (yB P w) a i|.dT Y y=>y.9<=jx/\(a==Kz)=Jt/\∃k:List (List Key×jy×Ju),
   Kx (λ(p:List Key×jy×V) (q:List Key×jy×Ju)=>p.1=q.1/\p.2.1=q.2.1/\lA p.2.2 q.2.2) y k /\
   ∃o m,h.get? a=Jp o/\o.ExactDict/\o.data=.dict m Y/\m.toList=k.map (kb (Vy (yB P w)))/\(k.map (·.1)).Nodup
 | .set S n=>h.SetOf (intKind P w) a S n|.ins C e fs=>H e=Jp (.own a)/\fs.9<=1000/\e≠a/\h.get? a=Jp (QCG C e) /\
   ∃b,h.Ns1 e b/\(∀f,eQ (fs.lookup f) (b f))/\PySem.Within b (fs.map (·.1))
 | .own _=>∃o,h.get? a=Jp o|.xd fs=>∃b,h.Ns1 a b/\∀f,eQ (fs.lookup f) (b f)|.rng s X=>∃t u v,h.get? a=Jp { cls:=.type "range",data:=.fields (WZ [.int s t,.int X u,.int 1 v]) }|.frz o u=>h.get? a=Jp o/\ZA H h a u|.tbl r=>h.get? a=Jp { cls:=.none,data:=.fields r }|.met f x=>h.get? a=Jp (QBb (.ref f) (.ref x))|.ext g=>g h/\(∃o,h.get? a=Jp o)/\∀l j:js,g l->(∀o,l.get? a=Jp o->j.get? a=Jp o)->g j
def zJ(H:Hp)(h:js):Prop:=∀a o,H a=Jp o->ZA P w H h a o
end
section
variable{P:jv}{w:jr}{H g:Hp}{h h':js}{a:jy}{o:HO}
theorem ZA.lt(x:ZA P w H h a o):a<h.1.size:=by
 cases o with|lst v=>let#[_,_,_,_,e]:=x;exact QS e|tup v=>let#[_,_,_,p]:=x;exact p.lt|dK z=>let#[_,_,_,_,o,_,_,e,_]:=x;exact QS e|dT m z=>let#[_,_,_,_,o,_,e,_]:=x;exact QS e|set S n=>let#[o,_,_,_,e,_]:=x;exact QS e|ins C q fs=>let#[_,_,_,e,_]:=x;exact QS e|own y=>let#[_,e]:=x;exact QS e|xd fs=>let#[_,#[_,_,_,e,_],_]:=x;exact QS e|rng j l=>let#[_,_,_,e]:=x;exact QS e|frz i u=>let#[e,_]:=x;exact QS e|tbl b=>exact QS (show h.get? a=Jp _ from x)|met f y=>exact QS (show h.get? a=Jp _ from x)|ext k=>let#[_,#[_,e],_]:=x;exact QS e
theorem ZA.stay(x:ZA P w H h a o)(k:∀b u,(b=a∨H b=Jp (.own a))->h.get? b=Jp u->h'.get? b=Jp u)
  (B:∀b,H b=Jp (.own a)->g b=Jp (.own a)) (I:∀b xs,H b=Jp (.tup xs)->g b=Jp (.tup xs)):ZA P w g h' a o:=by
 induction o with|lst xs=>let#[z,m,n,r,e]:=x;exact#[z,m,n,r,k _ _ (.inl rfl) e]|tup xs=>let#[z,m,r,i,e,c]:=x;exact#[z,m,r,i,k _ _ (.inl rfl) e,c]|dK Y=>let#[z,y,W,r,i,j,l,e,c]:=x;exact#[z,y,W,r,i,j,l,k _ _ (.inl rfl) e,c]|dT l Y=>let#[z,y,xs,r,i,j,e,c]:=x;exact#[z,y,xs,r,i,j,k _ _ (.inl rfl) e,c]|set S n=>let#[i,j,l,t,e,c]:=x;exact#[i,j,l,t,k _ _ (.inl rfl) e,c]|ins C L fs=>let#[d,z,K,e,X,#[s,j,l,E,c],r]:=x;exact#[B _ d,z,K,k _ _ (.inl rfl) e,X,#[s,j,l,k _ _ (.inr d) E,c],r]|own y=>let#[i,e]:=x;exact#[i,k _ _ (.inl rfl) e]|xd fs=>let#[X,#[s,j,l,e,c],r]:=x;exact#[X,#[s,j,l,k _ _ (.inl rfl) e,c],r]|rng G J=>let#[t,u,v,e]:=x;exact#[t,u,v,k _ _ (.inl rfl) e]|frz i u A=>let#[e,q]:=x;exact#[k _ _ (.inl rfl) e,A q]|tbl Z=>have e:h.get? a=Jp { cls:=.none,data:=.fields Z }:=x;show h'.get? a=Jp { cls:=.none,data:=.fields Z };exact k a _ (.inl rfl) e|met f y=>have e:h.get? a=Jp (QBb (.ref f) (.ref y)):=x;show h'.get? a=Jp (QBb (.ref f) (.ref y));exact k a _ (.inl rfl) e|ext F=>let#[p,#[o,e],st]:=x;exact#[st _ _ p λo q=>k _ _ (.inl rfl) q,#[o,k _ _ (.inl rfl) e],st]
theorem zJ.lt(x:zJ P w H h)(e:H a=Jp o):a<h.1.size:=(x a o e).lt
theorem zJ.fresh(x:zJ P w H h)(e:h.1.size<=a):H a=none:=by
 cases q:H a with|none=>rfl|some u=>exact gJ (Ql (x.lt q) e) (wJ _)
theorem zJ.kept(x:zJ P w H h)(k:∀b u,h.get? b=Jp u->h'.get? b=Jp u):zJ P w H h':=λa o e =>
 (x a o e).stay (λb u _ q=>k b u q) (λ_ q=>q) λ_ _ q=>q
theorem zJ.laid(x:zJ P w H h)(k:∀b u,h.get? b=Jp u->h'.get? b=Jp u)(z:h.1.size<=a)(new:ZA P w (KA H a o) h' a o):zJ P w (KA H a o) h':=λb u e=>by have y:=x.fresh z;by_cases hb:b=a;subst hb;rw[YA]at e;cases e;exact new;rw[vA hb]at e;exact(x b u e).stay (λc v _ q=>k c v q) (λc q=>by rw[vA (aA q y)];exact q) λc f q=>by rw[vA (aA q y)];exact q
end
def Rd(H:Hp)(a:jy)(u:HO):Prop:=H a=Jp u∨∃o,H a=Jp (.frz o u)
theorem Rd.ok{P:jv}{w:jr}{H:Hp}{h:js}{a:jy}{u:HO}(r:Rd H a u)(x:zJ P w H h):ZA P w H h a u:=by
 rcases r with r|⟨o,r⟩
 exact x a u r;let#[_,q]:=x a _ r;exact q
def tf:Option HO->Prop
 |some (.lst _)=>True|some (.dK _)=>True|some (.dT _ _)=>True|some (.set _ _)=>True|some (.ins _ _ _)=>True|some (.ext _)=>True|_=>False
section
variable{P:jv}{w:jr}{H:Hp}{h h':js}{x e:jy}{a:HO}
theorem zJ.write(ok:zJ P w H h)(l:tf (H x))(o:e=x∨H e=Jp (.own x))(k:∀b u,b≠e->h.get? b=Jp u->h'.get? b=Jp u)(m:∃u,h'.get? e=Jp u)
  (new:ZA P w (KA H x a) h' x a):zJ P w (KA H x a) h':=λb u q=>by
 have g:∀c y,H c=Jp (.own y)->c≠x:=λc y r z=>by subst z;rw[r]at l;exact l
 have i:∀c j,H c=Jp (.tup j)->c≠x:=λc j r z=>by subst z;rw[r]at l;exact l
 by_cases hb:b=x;subst hb;rw[YA]at q;cases q;exact new;rw[vA hb]at q;by_cases f:b=e;have n:H b=Jp (.own x):=by rcases o with z|z;exact gJ (f.trans z) hb;rw[f];exact z
 rw[q]at n;cases n;let#[v,hv]:=m;exact#[v,by rw[f];exact hv];refine(ok b u q).stay (λc v hc r=>k c v ?_ r) (λc r=>by rw[vA (g c b r)];exact r) λc j r=>by rw[vA (i c j r)];exact r
 rcases hc with rfl|hc;exact f;rintro rfl;rcases o with z|z;exact g c b hc z;rw[hc]at z;cases z;exact hb rfl
end
structure Un(fs ex:List jy)(H H':Hp)(h h':js):Prop where
 keep:∀b o,h.get? b=Jp o->H b=Jr->b∉fs->b∉ex->h'.get? b=Jp o
 slot:∀b o,h.get? b=Jp o->H b=Jr->b∈fs->b∉ex->∃sl,h'.get? b=Jp { o with slots:=sl }
 free:∀b o,h.get? b=Jp o->H b=Jr->b∉ex->H' b=Jr
 there:∀b o,h.get? b=Jp o->b∉ex->∃o',h'.get? b=Jp o'
 tups:∀b xs,H b=Jp (.tup xs)->H' b=Jp (.tup xs)
 frzs:∀b o u,H b=Jp (.frz o u)->H' b=Jp (.frz o u)
 tbls:∀b ps,H b=Jp (.tbl ps)->∃more,H' b=Jp (.tbl (ps++more))
section
variable{fs v ex w:List jy}{H c f:Hp}{h y d h':js}{a x e:jy}{o:HO}
theorem Un.any(u:Un fs ex H c h y){b:jy}{z:Obj}(q:h.get? b=Jp z)(n:H b=Jr)(k:b∉ex):∃g,y.get? b=Jp { z with slots:=g }:=by by_cases hb:b∈fs;exact u.slot b z q n hb k;exact#[z.slots,u.keep b z q n hb k]
theorem Un.kept(k:∀b u,h.get? b=Jp u->h'.get? b=Jp u):Un fs ex H H h h' :=
 #[λb z q _ _ _=>k b z q,λb z q _ _ _=>#[z.slots,k b z q],λ_ _ _ n _=>n,λb z q _=>#[z,k b z q],λ_ _ q=>q,λ_ _ _ q=>q,λ_ g q=>#[#[],by rw[q];simp]]
theorem Un.refl:Un fs ex H H h h:=Un.kept λ_ _ q=>q
theorem Un.laid(k:∀b u,h.get? b=Jp u->h'.get? b=Jp u)(i:h.1.size<=a)(z:H a=Jr):Un fs ex H (KA H a o) h h' where
 keep:=λb u q _ _ _=>k b u q
 slot:=λb u q _ _ _=>#[u.slots,k b u q]
 free:=λb u q n _=>by rw[vA (Qe (Ql (QS q) i))];exact n
 there:=λb u q _=>#[u,k b u q]
 tups:=λb g q=>by rw[vA (aA q z)];exact q
 frzs:=λb u g q=>by rw[vA (aA q z)];exact q
 tbls:=λb j q=>#[#[],by rw[vA (aA q z),q];simp]
theorem Un.write(i:tf (H x))(p:e=x∨H e=Jp (.own x))(k:∀b u,b≠e->h.get? b=Jp u->h'.get? b=Jp u)(j:∃u,h'.get? e=Jp u):Un fs ex H (KA H x o) h h':=by
 have l:∀b,H b=Jr->b≠x:=λb n z=>by subst z;rw[n]at i;exact i
 have hb:∀b,H b=Jr->b≠e:=λb n z=>by subst z;rcases p with r|r;exact l b n r;rw[n]at r;cases r
 have hm:∀b u,H b=Jp u->¬ tf (Jp u)->b≠x:=λb u q nm z=>by subst z;rw[q]at i;exact nm i
 refine#[λb u q n _ _=>k b u (hb b n) q,λb u q n _ _=>#[u.slots,k b u (hb b n) q],λb u q n _=>by rw[vA (l b n)];exact n,λb u q _=>?_,
  λb m q=>by rw[vA (hm b _ q λz=>z)];exact q,λb u m q=>by rw[vA (hm b _ q λz=>z)];exact q,λb s q=>#[#[],by rw[vA (hm b _ q λz=>z),q];simp]]
 by_cases g:b=e;subst g;exact j;exact#[u,k b u g q]
end
section
variable{h:js}{b:jy}{o:Obj}
noncomputable def pj(h:js)(H:Hp):List Addr:=(Qj h.1.size).filter λa=>(H a).isSome
def iN(h:js)(H:Hp):Heap:=PySem.W.hideAll h (pj h H)
theorem cW(h:js)(H:Hp):(iN h H).1.size=h.1.size:=PySem.W.hideAll_size _ _
theorem AZ{H:Hp}(e:h.get? b=Jp o)(n:H b=Jr):(iN h H).get? b=Jp o :=
 PySem.W.hideAll_get _ e λhm=>by have q:(H b).isSome=true:=(QZ.mp hm).2;rw[n]at q;simp at q
theorem z6{H:Hp}(e:(iN h H).get? b=Jp o):h.get? b=Jp o/\H b=none:=by
 have y:h.get? b=Jp o:=PySem.W.of_hideAll (pj h H) e;refine#[y,?_];cases q:H b with|none=>rfl|some x=>have hm:b∈pj h H:=QZ.mpr #[Q7.mpr (QS y),by simp[q]];have z:(iN h H).get? b=none:=PySem.W.hideAll_none (pj h H) hm;rw[z]at e;cases e
structure Mod(K:QE)(mg:Str->Option Ju)(base:js):Prop where
 kin:K.In base
 glob:base.Ns jp mg
 blt:∃mb,base.Ns xw mb/\∀x:Str,x≠"__name__"->mb x=Kp x
 nolimit:base.NoLimit
structure Cx where
 prog:jv
 w:jr
 K:QE
 mg:Str->Option Ju
 base:js
 A:ju
 N:LS
 s₀:Jq
 H₀:Hp
 env:Env
 outer:List Env
 stack:List Env
 ex:List jy
 fn:Str->Bool
 calm:Bool
 pn:GB
 xe:Ju->Jq->Prop
def lW(l:List Env):List Addr:=l.filterMap (·.frame)
noncomputable abbrev Cx.fs(X:Cx):List Addr:=lW X.outer
def Ni(sc:Kw)(x:Str):Prop:=sc.names.lookup x=Jp .local∨sc.names.lookup x=Jp .cell∨sc.names.lookup x=Jp .free
def Jf(sc:Kw)(x:Str):Prop:=sc.names.lookup x=Jp .local∨sc.names.lookup x=Jp .cell
def am(env:Env)(h:js)(m:Str->Option Ju)(x:Str)(u:Ju):Prop :=
 (env.kindOf x=Jp .local/\m x=Jp u)∨((env.kindOf x=Jp .cell∨env.kindOf x=Jp .free)/\∃c,env.cells.lookup x=Jp c/\h.IsCell c (Jp u))
structure Cx.Ok(X:Cx):Prop where
 mod:Mod X.K X.mg X.base
 kind:X.env.scope.kind=.function
 glob:X.env.globals=jp
 blt:X.env.builtins=xw
 above:X.s₀.1.1.size<=X.env.locals
 inj:∀x y c,X.env.cells.lookup x=Jp c->X.env.cells.lookup y=Jp c->x=y
 has:∀x,(X.env.kindOf x=Jp .cell∨X.env.kindOf x=Jp .free)->∃c,X.env.cells.lookup x=Jp c
 cab:∀x c,X.fn x=Js->X.env.cells.lookup x=Jp c->X.s₀.1.1.size<=c
 hd:X.calm=Js->X.A.handled=Jr
 frames:X.A.frames=Jp X.stack
 stk:X.stack=X.outer∨(X.stack=X.env::X.outer/\X.env.frame=Jp X.env.locals)
 exf:∀b∈X.ex,b≠X.env.locals/\∀x c,X.env.cells.lookup x=Jp c->c≠b
 bs:∀b o,X.base.get? b=Jp o->X.s₀.1.get? b=Jp o/\X.H₀ b=Jr
 bsz:X.base.1.size<=X.s₀.1.1.size
 noex:∀b o,X.base.get? b=Jp o->b∉X.ex
 exfs:∀b∈X.ex,b∉X.fs
 funs:X.s₀.1.FunFrames X.base X.outer
 frf:∀b∈X.fs,X.H₀ b=Jr
structure Inv(X:Cx)(pins:GB)(σ:List (Option V))(H:Hp)(s:Jq):Prop where
 ok:X.Ok
 os:s.os=X.s₀.os
 bare:zz s.gens
 base:Un X.fs X.ex X.H₀ H X.s₀.1 s.1
 loc:∃m,s.1.Ns X.env.locals m/\∀(i:Nat) (x:Str) (v:V),X.N[i]?=Jp x->σ[i]?=Jp (Jp v)->Ni X.env.scope x->∃u,lA v u/\am X.env s.1 m x u
 cell:∀x c,X.env.cells.lookup x=Jp c->∃v,s.1.IsCell c v
 free:H X.env.locals=Jr
 freeC:∀x c,X.env.cells.lookup x=Jp c->H c=Jr
 pin:∀p∈X.pn++pins,s.1.get? p.1=Jp p.2/\H p.1=Jr/\p.1≠X.env.locals/\p.1∉X.fs/\∀v,p.2.data≠.cell v
 hok:zJ X.prog X.w H s.1
 len:σ.9=X.N.9
end
section
variable{X:Cx}{f:GB}{σ:List (Option V)}{H g:Hp}{s:Jq}{h':js}
section
variable{a:jy}{g':Array GenState}{ch:List jy}{i:Nat}{x:Str}{M:Zp}{A:ju}{E:pB}{u:Ju}{Q:Unit->Jq->Prop}
theorem Cx.Ok.nofr(ok:X.Ok){b:jy}{o:Obj}(e:X.base.get? b=Jp o):b∉X.fs:=λhb=>by have:=(ok.funs.mem hb).1;rw[e]at this;cases this
theorem Inv.bs(I:Inv X f σ H s):∀b o,X.base.get? b=Jp o->s.1.get? b=Jp o/\H b=none:=λb o e =>
 #[I.base.keep b o (I.ok.bs b o e).1 (I.ok.bs b o e).2 (I.ok.nofr e) (I.ok.noex b o e),I.base.free b o (I.ok.bs b o e).1 (I.ok.bs b o e).2 (I.ok.noex b o e)]
theorem Inv.bk(I:Inv X f σ H s):∀b o,X.base.get? b=Jp o->s.1.get? b=Jp o:=λb o e=>(I.bs b o e).1
theorem Inv.mod(I:Inv X f σ H s):Mod X.K X.mg X.base:=I.ok.mod
theorem Inv.kIn(I:Inv X f σ H s):X.K.In s.heap:=I.ok.mod.kin.keeps I.bk
theorem Inv.lt(I:Inv X f σ H s):X.env.locals<s.1.1.size:=let#[_,h,_]:=I.loc;h.lt
theorem Inv.sz(I:Inv X f σ H s):X.s₀.1.1.size<=s.1.1.size:=Qc I.ok.above (QAs I.lt)
theorem Inv.nofs(I:Inv X f σ H s)(h:s.1.1.size<=a):a∉X.fs:=λhb=>by let#[_,o,y,_]:=I.ok.funs.mem hb;exact gJ (Ql (QS y) (Qc I.sz h)) (wJ _)
theorem Inv.cne(I:Inv X f σ H s):∀x c,X.env.cells.lookup x=Jp c->c≠X.env.locals:=λx c e z=>by let#[v,o,w,k]:=I.cell x c e;let#[m,#[b,j,l,h,y,_],_]:=I.loc;rw[z,h]at w;cases w;rw[y]at k;cases k
theorem Inv.funs(I:Inv X f σ H s):s.1.FunFrames X.base X.outer:=by
 have all:∀(l:List Env),(∀b∈lW l,b∈X.fs)->X.s₀.1.FunFrames X.base l->s.1.FunFrames X.base l:=by
  intro l;induction l with|nil=>intro _ _;trivial|cons n r v=>intro hs hl;let#[hk,#[L,o,h,j,k,m],w]:=hl;have y:L∈X.fs:=hs L (by unfold lW;rw[wV,h];exact QD);let#[p,e]:=I.base.slot L o k (I.ok.frf L y) y λz=>I.ok.exfs L z y;exact#[hk,#[L,_,h,j,e,m],v (λb hb=>hs b (by unfold lW;rw[wV,h];exact QC _ hb)) w]
 exact all X.outer (λ_ hb=>hb) I.ok.funs
theorem Inv.stack(I:Inv X f σ H s):s.1.FunFrames X.base X.stack:=by
 rcases I.ok.stk with e|⟨e,y⟩
 rw[e];exact I.funs;rw[e];let#[m,h,_]:=I.loc;refine .cons (by rw[I.ok.kind];decide) y h ?_ I.funs;exact Heap.get?_none_of_le (Qc I.ok.bsz I.ok.above)
theorem Inv.stkSub(I:Inv X f σ H s):∀b∈lW X.stack,b∈X.env.locals::X.fs:=λb hb=>by
 rcases I.ok.stk with e|⟨e,h⟩
 rw[e]at hb;exact QC _ hb;rw[e]at hb;unfold lW at hb;rw[wV,h]at hb;exact hb
theorem Inv.stkFree(I:Inv X f σ H s):∀b∈lW X.stack,H b=none:=λb hb=>by rcases QK.mp (I.stkSub b hb) with e|hb;rw[e];exact I.free;let#[_,o,h,_]:=I.ok.funs.mem hb;exact I.base.free b o h (I.ok.frf b hb) λz=>I.ok.exfs b z hb
theorem Inv.step{t':Nat}{d':Drawn}(I:Inv X f σ H s)
  (j:∀b∈ch,(b∈X.ex∨X.s₀.1.1.size<=b)/\b≠X.env.locals/\(∀x c,X.env.cells.lookup x=Jp c->c≠b)/\∀p∈X.pn++f,p.1≠b)
  (keep:∀b o,b≠X.env.locals->b∉X.fs->b∉ch->s.1.get? b=Jp o->H b=Jr->h'.get? b=Jp o)
  (K:∀b o,b≠X.env.locals->b∈X.fs->b∉ch->s.1.get? b=Jp o->H b=Jr->∃S,h'.get? b=Jp { o with slots:=S }) (free:∀b o,b∉ch->s.1.get? b=Jp o->H b=Jr->g b=Jr)
  (B:∀b o,b∉ch->s.1.get? b=Jp o->∃J,h'.get? b=Jp J)
  (F:∀b xs,H b=Jp (.tup xs)->g b=Jp (.tup xs)) (N:∀b o u,H b=Jp (.frz o u)->g b=Jp (.frz o u)) (G:∀b P,H b=Jp (.tbl P)->∃more,g b=Jp (.tbl (P++more)))
  (ns:∀m,s.1.Ns X.env.locals m->h'.Ns X.env.locals m) (hok:zJ X.prog X.w g h') (hg:zz g') :
  Inv X f σ g { s with heap:=h',gens:=g',drawn:=d',toks:=t' }:=by
 have L:∀b o,X.s₀.1.get? b=Jp o->b≠X.env.locals:=λb o e=>Qe (Ql (QS e) I.ok.above);have Z:∀b o,X.s₀.1.get? b=Jp o->b∉X.ex->b∉ch:=λb o e h hb=>by rcases(j b hb).1 with z|z;exact h z;exact gJ (Ql (QS e) z) (wJ _)
 have Y:∀x c,X.env.cells.lookup x=Jp c->∀v,s.1.IsCell c v->h'.IsCell c v:=λx c e v #[o,C,hd]=>by have y:c∉ch:=λz=>(j c z).2.2.1 x c e rfl;by_cases hc:c∈X.fs;let#[S,q]:=K c o (I.cne x c e) hc y C (I.freeC x c e);exact#[_,q,hd];exact#[o,keep c o (I.cne x c e) hc y C (I.freeC x c e),hd]
 refine#[I.ok,I.os,hg,#[λb o e n hb h=>?_,λb o e n hb h=>?_,λb o e n h=>?_,λb o e h=>?_,λb xs e=>F b xs (I.base.tups b xs e),λb o xs e=>N b o xs (I.base.frzs b o xs e),λb P e=>?_],?_,λx c e=>?_,?_,λx c e=>?_,λp hp=>?_,hok,I.len];exact keep b o (L b o e) hb (Z b o e h) (I.base.keep b o e n hb h) (I.base.free b o e n h);let#[S,W]:=I.base.slot b o e n hb h;let#[R,O]:=K b _ (L b o e) hb (Z b o e h) W (I.base.free b o e n h);exact#[R,O];let#[J,W]:=I.base.there b o e h;exact free b J (Z b o e h) W (I.base.free b o e n h);let#[J,W]:=I.base.there b o e h;exact B b J (Z b o e h) W;let#[m1,W]:=I.base.tbls b P e;let#[m2,O]:=G b _ W;exact#[m1++m2,by rw[O,Array.append_assoc]];let#[m,hn,hl]:=I.loc;refine#[m,ns m hn,λi x v W O e3=>?_];let#[u,r,l]:=hl i x v W O e3;refine#[u,r,?_];rcases l with l|⟨k,c,e,z⟩
 exact .inl l;exact .inr #[k,c,e,Y x c e _ z];let#[v,z]:=I.cell x c e;exact#[v,Y x c e v z];let#[m,#[o,_,_,C,_],_]:=I.loc;exact free _ o (λz=>(j _ z).2.1 rfl) C I.free;let#[v,o,C,hd]:=I.cell x c e;exact free c o (λz=>(j c z).2.2.1 x c e rfl) C (I.freeC x c e);let#[e,n,ne,nf,d]:=I.pin p hp;have y:p.1∉ch:=λz=>(j p.1 z).2.2.2 p hp rfl;exact#[keep p.1 p.2 ne nf y e n,free p.1 p.2 y e n,ne,nf,d]
theorem Inv.un{t':Nat}(I:Inv X f σ H s)(u:Un X.fs [] H g s.1 h')(y:zJ X.prog X.w g h'):Inv X f σ g { s with heap:=h',toks:=t' }:=by let#[m,#[o,W,K,j,r],_]:=id I.loc;let#[q,p]:=u.any j I.free (by simp);exact I.step (g':=s.gens) (d':=s.drawn) (ch:=[]) (λ_ z=>nomatch z) (λb o _ hb _ e n=>u.keep b o e n hb (by simp)) (λb o _ hb _ e n=>u.slot b o e n hb (by simp)) (λb o _ e n=>u.free b o e n (by simp)) (λb o _ e=>u.there b o e (by simp)) u.tups u.frzs u.tbls (λZ hm=>by let#[Y,v,k,h,l]:=hm;rw[j]at h;cases h;exact#[_,v,k,p,l]) y I.bare
theorem Inv.call{t':Nat}{d':Drawn}(I:Inv X f σ H s)(u:Un (lW X.stack) ch H g s.1 h')(v:zJ X.prog X.w g h')(Z:zz g')
  (y:∀b∈ch,(b∈X.ex∨X.s₀.1.1.size<=b)/\b≠X.env.locals/\(∀x c,X.env.cells.lookup x=Jp c->c≠b)/\∀p∈X.pn++f,p.1≠b) :
  Inv X f σ g { s with heap:=h',gens:=g',drawn:=d',toks:=t' }:=by
 let#[m,#[o,C,F,q,r],_]:=id I.loc;let#[W,k]:=u.any q I.free λz=>(y _ z).2.1 rfl;exact I.step (ch:=ch) y (λb o k hb hc e n=>u.keep b o e n (λz=>(QK.mp (I.stkSub b z)).elim k hb) hc) (λb o _ _ hc e n=>u.any e n hc) (λb o hc e n=>u.free b o e n hc) (λb o hc e=>u.there b o e hc) u.tups u.frzs u.tbls (λB hm=>by let#[K,j,l,h,Y]:=hm;rw[q]at h;cases h;exact#[_,j,l,k,Y]) v Z
theorem Inv.turned{t':Nat}{it:jy}(I:Inv X f σ H s)(k:∀b o,b≠it->s.1.get? b=Jp o->h'.get? b=Jp o)(j:H it=Jr)(y:it≠X.env.locals)
  (Z:it∈X.ex∨X.s₀.1.1.size<=it) (Y:∀x c,X.env.cells.lookup x=Jp c->c≠it) (l:∀p∈X.pn++f,p.1≠it):Inv X f σ H { s with heap:=h',toks:=t' }:=by
 have h:∀b u,H b=Jp u->b≠it:=λb u e z=>by rw[z,j]at e;cases e
 refine I.step (g':=s.gens) (d':=s.drawn) (ch:=[it]) (λb hb=>?_) (λb o _ _ hc e _=>k b o (λz=>hc (by simp[z])) e) (λb o _ _ hc e _=>#[o.slots,k b o (λz=>hc (by simp[z])) e]) (λ_ _ _ _ n=>n)
  (λb o hc e=>#[o,k b o (λz=>hc (by simp[z])) e]) (λ_ _ e=>e) (λ_ _ _ e=>e) (λb B e=>#[#[],by rw[e];simp]) (λm hm=>?_) (λb u e=>?_) I.bare
 have e:b=it:=by simpa using hb
 subst e;exact#[Z,y,Y,l];let#[o,W,K,w,r]:=hm;exact#[o,W,K,k _ o (qB y) w,r];refine(I.hok b u e).stay (λc v hc q=>k c v ?_ q) (λ_ q=>q) λ_ _ q=>q;rcases hc with z|z;rw[z];exact h b u e;exact h c _ z
theorem Inv.tok(I:Inv X f σ H s)(t:Nat):Inv X f σ H { s with toks:=t }:=I.un (h':=s.1) (t':=t) Un.refl I.hok
theorem Inv.kept{t':Nat}(I:Inv X f σ H s)(k:∀b u,s.1.get? b=Jp u->h'.get? b=Jp u):Inv X f σ H { s with heap:=h',toks:=t' }:=I.un (Un.kept k) (I.hok.kept k)
theorem Inv.laid{o:HO}{t':Nat}(I:Inv X f σ H s)(k:∀b u,s.1.get? b=Jp u->h'.get? b=Jp u)(h:s.1.1.size<=a)(new:ZA X.prog X.w (KA H a o) h' a o) :
  Inv X f σ (KA H a o) { s with heap:=h',toks:=t' }:=I.un (Un.laid k h (I.hok.fresh h)) (I.hok.laid k h new)
theorem Inv.write{x e:jy}{o:HO}{t':Nat}(I:Inv X f σ H s)(y:tf (H x))(z:e=x∨H e=Jp (.own x))(k:∀b u,b≠e->s.1.get? b=Jp u->h'.get? b=Jp u)(h:∃u,h'.get? e=Jp u)
  (new:ZA X.prog X.w (KA H x o) h' x o):Inv X f σ (KA H x o) { s with heap:=h',toks:=t' }:=I.un (Un.write y z k h) (I.hok.write y z k h new)
theorem Inv.pins_of{y:GB}(I:Inv X f σ H s)(h:∀p∈y,s.1.get? p.1=Jp p.2/\H p.1=Jr/\p.1≠X.env.locals/\p.1∉X.fs/\∀v,p.2.data≠.cell v):Inv X y σ H s :=
 #[I.ok,I.os,I.bare,I.base,I.loc,I.cell,I.free,I.freeC,λp w=>(QW.mp w).elim (λz=>I.pin p (Qd _ z)) (h p),I.hok,I.len]
theorem bP{N:LS}(h:N.Nodup){j:Nat}(a:N[i]?=Jp x)(b:N[j]?=Jp x):i=j:=by let#[w,z]:=Qb.mp a;let#[v,y]:=Qb.mp b;exact(List.getElem_inj h).mp (z.trans y.symm)
theorem kL{v:V}(I:Inv X f σ H s)(hN:X.N.Nodup)(L:X.N[i]?=Jp x)(Z:Jf X.env.scope x)(r:lA v u)
  (h:∀s',Inv X f (σ.set i (Jp v)) H s'->(∃a,qZ a s.1 s'.1/\(a=X.env.locals∨X.env.cells.lookup x=Jp a))->Q Unit.unit s') (hf:X.fn x=Js∨X.env.scope.names.lookup x=Jp .local):Jw M A (storeName X.env x u) Q E s:=by
 let#[m,hn,hl]:=id I.loc;have O:(X.env.scope.kind==.class||(X.env.scope.kind==.module&&X.env.locals != X.env.globals))=false:=by rw[I.ok.kind];rfl
 have B:i<σ.length:=by rw[I.len];exact(Qb.mp L).1
 have cne:=I.cne;have l:∀{a:jy}{h':js},(∃o,s.1.get? a=Jp o/\H a=Jr)->qZ a s.1 h'->zJ X.prog X.w H h':=λ{a h'} ha hs b ob e=>by let#[_,_,W]:=ha;refine(I.hok b ob e).stay (λc S hc q=>(hs.2 c ?_).trans q) (λ_ q=>q) λ_ _ q=>q;rintro rfl;rcases hc with rfl|hc;rw[W]at e;cases e;rw[W]at hc;cases hc
 rcases Z with hk|hk;refine wpAny_storeName_local hk hn (λh' hn' hs=>?_) O;let#[oL,_,_,hoL,_]:=id hn;refine h _ #[I.ok,I.os,I.bare,#[λb o e n hb Z=>?_,λb o e n hb Z=>?_,I.base.free,λb o e Z=>?_,I.base.tups,I.base.frzs,I.base.tbls],#[_,hn',λj y v' Y K e3=>?_],λy c e=>?_,I.free,I.freeC,λp hp=>?_,l #[oL,hoL,I.free] hs,by simpa using I.len] #[_,hs,.inl rfl];exact(hs.2 b (Qe (Ql (QS e) I.ok.above))).trans (I.base.keep b o e n hb Z);let#[sl,Y]:=I.base.slot b o e n hb Z;exact#[sl,(hs.2 b (Qe (Ql (QS e) I.ok.above))).trans Y];let#[o',Y]:=I.base.there b o e Z;exact#[o',(hs.2 b (Qe (Ql (QS e) I.ok.above))).trans Y];by_cases C:j=i
 ·subst C
  rw[L]at Y;cases Y;rw[wT B]at K;cases K;exact#[u,r,.inl #[hk,by simp]]
 rw[qw (qB C)]at K;let#[u',r',q]:=hl j y v' Y K e3;refine#[u',r',?_];rcases q with⟨k,e⟩| ⟨k,c,e,z⟩
 refine .inl #[k,?_];have:y≠x:=λe=>C (bP hN Y (e▸L));simp[this,e];exact .inr #[k,c,e,z.sameBut hs (cne y c e)];let#[S,z]:=I.cell y c e;exact#[S,z.sameBut hs (cne y c e)];let#[e,n,ne,nf,d]:=I.pin p hp;exact#[(hs.2 p.1 ne).trans e,n,ne,nf,d];have F:X.fn x=true:=by rcases hf with z|z;exact z;rw[z]at hk;cases hk
 let#[c,hc]:=I.ok.has x (.inl hk);let#[S,z]:=I.cell x c hc;refine wpAny_storeName_cell I.ok.kind hk hc z (λh' R hs=>?_);let#[oc,J,G]:=id z;refine h { s with heap:=h' } #[I.ok,I.os,I.bare,#[λb o e n hb Z=>?_,λb o e n hb Z=>?_,I.base.free,λb o e Z=>?_,I.base.tups,I.base.frzs,I.base.tbls],#[m,hn.sameBut hs (qB (cne x c hc)),λj y v' Y K e3=>?_],λy c' e=>?_,I.free,I.freeC,λp hp=>?_,l #[oc,J,I.freeC x c hc] hs,by simpa using I.len] #[c,hs,.inr hc];exact(hs.2 b (Qe (Ql (QS e) (I.ok.cab x c F hc)))).trans (I.base.keep b o e n hb Z);let#[sl,Y]:=I.base.slot b o e n hb Z;exact#[sl,(hs.2 b (Qe (Ql (QS e) (I.ok.cab x c F hc)))).trans Y];let#[o',Y]:=I.base.there b o e Z;exact#[o',(hs.2 b (Qe (Ql (QS e) (I.ok.cab x c F hc)))).trans Y];by_cases C:j=i
 ·subst C
  rw[L]at Y;cases Y;rw[wT B]at K;cases K;exact#[u,r,.inr #[.inl hk,c,hc,R]]
 rw[qw (qB C)]at K;let#[u',r',q]:=hl j y v' Y K e3;refine#[u',r',?_];rcases q with q|⟨k,c',e,z'⟩
 exact .inl q;refine .inr #[k,c',e,z'.sameBut hs ?_];rintro rfl;exact C (bP hN Y (I.ok.inj _ _ _ e hc▸L));by_cases P:c'=c
 ·subst P;exact#[_,R]
 let#[w2,z2]:=I.cell y c' e;exact#[w2,z2.sameBut hs P];let#[e,n,ne,nf,d]:=I.pin p hp;refine#[(hs.2 p.1 ?_).trans e,n,ne,nf,d];intro q;rw[q,J]at e;have q':oc=p.2:=Qy e;exact d S (by rw[<- q'];exact G)
theorem sO{v:V}(I:Inv X f σ H s)(k:X.N.Nodup)(z:X.N[i]?=Jp x)(y:Jf X.env.scope x)(r:lA v u)
  (h:∀s',Inv X f (σ.set i (Jp v)) H s'->Q Unit.unit s') (w:X.fn x=Js∨X.env.scope.names.lookup x=Jp .local):Jw M A (storeName X.env x u) Q E s :=
 kL I k z y r (λs' b _=>h s' b) w
theorem Inv.call'{s':Jq}(I:Inv X f σ H s)(v:s'.os=s.os)(u:Un (lW X.stack) ch H g s.1 s'.1)(h:zJ X.prog X.w g s'.1)(k:zz s'.gens)
  (y:∀b∈ch,(b∈X.ex∨X.s₀.1.1.size<=b)/\b≠X.env.locals/\(∀x c,X.env.cells.lookup x=Jp c->c≠b)/\∀p∈X.pn++f,p.1≠b):Inv X f σ g s':=by
 let#[h',g',d',t',z]:=s';have e:z=s.os:=v;subst e;exact I.call (g':=g') (t':=t') (d':=d') u h k y
end
end
noncomputable abbrev XK:=Ju->Option jy->Hp->Prop
noncomputable abbrev St:=List (Option V)
noncomputable abbrev VK:=V->Hp->Prop
noncomputable abbrev TE:=St->Hp->VK->Prop
noncomputable abbrev TT:=St->Hp->(Bool->Hp->Prop)->Prop
noncomputable abbrev TA:=St->Hp->(LV->Hp->Prop)->Prop
structure Ends where
 nx:St->Hp->Prop
 rt:VK
 bk:St->Hp->Prop:=λ_ _=>False
 ct:St->Hp->Prop:=λ_ _=>False
noncomputable abbrev TS:=Ends->St->Hp->Prop
def EP(X:Cx)(h:GB)(σ:St)(Q:VK)(u:Ju)(s':Jq):Prop:=∃v x,Inv X h σ x s'/\lA v u/\Q v x
def TP(X:Cx)(h:GB)(σ:St)(Q:Bool->Hp->Prop)(b:Bool)(s':Jq):Prop:=∃x,Inv X h σ x s'/\Q b x
def AP(X:Cx)(h:GB)(σ:St)(Q:LV->Hp->Prop)(us:LW)(s':Jq):Prop:=∃x y,Inv X h σ y s'/\uA x us/\Q x y
def SP(X:Cx)(x:GB)(D:Ends)(f:Flow)(s':Jq):Prop :=
 match f with
 | .next=>∃h y,Inv X x h y s'/\D.nx h y|.brk=>∃h y,Inv X x h y s'/\D.bk h y|.cont=>∃h y,Inv X x h y s'/\D.ct h y|.ret u=>∃v h y,Inv X x h y s'/\lA v u/\D.rt v y
def PE(X:Cx)(e:Expr)(t:TE):Prop :=
 ∀(h:GB) (s:Jq) (x:St) (H:Hp) (Q:VK),Inv X h x H s->t x H Q->Jw (jz X.prog X.w) X.A (kx e X.env) (EP X h x Q) X.xe s
def PT(X:Cx)(e:Expr)(t:TT):Prop :=
 ∀(h:GB) (s:Jq) (x:St) (H:Hp) (Q:Bool->Hp->Prop),Inv X h x H s->t x H Q->Jw (jz X.prog X.w) X.A (isTrue e X.env (kx e X.env)) (TP X h x Q) X.xe s
def PW(X:Cx)(e:Expr)(t:TT):Prop :=
 ∀(x:Sem Ju) (h:GB) (s:Jq) (y:St) (H:Hp) (Q:Bool->Hp->Prop),Inv X h y H s->t y H Q->Jw (jz X.prog X.w) X.A (isTrue e X.env x) (TP X h y Q) X.xe s
theorem PW.pt{X:Cx}{e:Expr}{t:TT}(h:PW X e t):PT X e t:=h _
def PA(X:Cx)(es:List Expr)(t:TA):Prop :=
 ∀(y:Pos) (h:GB) (s:Jq) (x:St) (H:Hp) (Q:LV->Hp->Prop),Inv X h x H s->t x H Q->Jw (jz X.prog X.w) X.A (v1 (Vv y (jw es X.env))) (AP X h x Q) X.xe s
def PS(X:Cx)(st:Ku)(t:TS):Prop :=
 ∀(h:GB) (s:Jq) (x:St) (H:Hp) (D:Ends),Inv X h x H s->t D x H->Jw (jz X.prog X.w) X.A (exec st X.env) (SP X h D) X.xe s
def XS(X:Cx)(st:List Ku)(t:TS):Prop :=
 ∀(h:GB) (s:Jq) (x:St) (H:Hp) (D:Ends),Inv X h x H s->t D x H->Jw (jz X.prog X.w) X.A (execs st X.env) (SP X h D) X.xe s
theorem DB{α:Type}{t:Sem α}{Q y:α->Jq->Prop}{M:Zp}{A:ju}{E:pB}{s:Jq}(h:Jw M A t Q E s)(z:∀a s,Q a s->y a s):Jw M A t y E s:=WE h z λ_ _ x=>x
section
variable{X:Cx}
section
variable{z:GB}{s:Jq}{σ:St}{H:Hp}{x:Str}{pos:Pos}{E Q:pB}{u:Ju}
theorem bin{a b:Expr}{ta d:TE}(ha:PE X a ta)(hb:PE X b d){R:V->V->Hp->Prop}(I:Inv X z σ H s)(h:ta σ H λx j=>d σ j λy k=>R x y k)
  {α:Type}{Q:α->Jq->Prop}{f:Ju->Ju->Sem α}
  (q:∀v u i x y k,Inv X z σ k i->lA x v->lA y u->R x y k->Jw (jz X.prog X.w) X.A (f v u) Q X.xe i) :
  Jw (jz X.prog X.w) X.A (kx a X.env) (λv g=>Jw (jz X.prog X.w) X.A (kx b X.env) (λu e=>Jw (jz X.prog X.w) X.A (f v u) Q X.xe e) X.xe g) X.xe s:=by
 refine DB (ha z s σ H _ I h) λv l #[x,j,Y,n,p]=>?_;refine DB (hb z l σ j _ Y p) λu i #[y,k,r,m,o]=>?_;exact q v u i x y k r n m o
def Oj(i:Nat):TE:=λσ H Q=>∃v,σ[i]?=Jp (Jp v)/\Q v H
def tC(v:V):TE:=λ_ H Q=>Q v H
theorem Ab{i:Nat}(b:X.N[i]?=Jp x)(hv:Ni X.env.scope x)(w:(x==("__debug__":Str))=false:=by decide)(k:(x==("__classdict__":Str))=false:=by decide):PE X (.Name x pos) (Oj i):=by
 intro z s σ H Q I h;let#[v,e,h]:=h;let#[m,a,hl]:=I.loc;let#[u,r,l]:=hl i x v b e hv;have fin:EP X z σ Q u s:=#[v,H,I,r,h]
 rcases l with⟨hk,hm⟩| ⟨hk,c,hc,y⟩
 exact QD3 (wpAny_loadName_local I.ok.kind hk a hm fin) w;rcases hk with hk|hk
 ·exact QD3 (wpAny_loadName_cell I.ok.kind hk hc y fin) w
 exact QD3 (wpAny_loadName_free I.ok.kind hk hc y fin k) w
theorem tY{i j pos}:PE X (.Constant (.int i) j pos) (tC (.int i)):=λ_ _ _ H _ I h=>wpAny_Constant_int #[.int i,H,I.tok _,#[_,rfl],h]
theorem i8{b j pos}:PE X (.Constant (.bool b) j pos) (tC (.bl b)):=λ_ _ _ H _ I h=>Constant_bool #[.bl b,H,I,rfl,h]
theorem rY{j pos}:PE X (.Constant .none j pos) (tC .non):=λ_ _ _ H _ I h=>Constant_none #[.non,H,I,rfl,h]
theorem Ib{x j pos}:PE X (.Constant (.str x) j pos) (tC (.str x)):=λ_ _ _ H _ I h=>Calls.Constant_str #[.str x,H,I.tok _,#[_,rfl],h]
def Gl(X:Cx)(x:Str):Prop:=X.env.kindOf x=Jp .globalImplicit
theorem lN(I:Inv X z σ H s)(y:Gl X x)(hm:X.mg x=Jp u)(h:Q u s)
  (v:(x==("__debug__":Str))=false:=by decide):Jw (jz X.prog X.w) X.A (kx (.Name x pos) X.env) Q E s :=
 QBJ I.ok.kind y (Calls.loadGlobal_global (by rw[I.ok.glob];exact I.mod.glob.keeps I.bk) hm h) v
theorem rE(I:Inv X z σ H s)(v:Gl X x)(hm:X.mg x=Jr)(hv:Kp x=Jp u)(h:Q u s)
  (y:x≠"__name__":=by decide) (k:(x==("__debug__":Str))=false:=by decide):Jw (jz X.prog X.w) X.A (kx (.Name x pos) X.env) Q E s:=by
 let#[e,b,a]:=I.mod.blt;exact QBJ I.ok.kind v (Calls.loadGlobal_builtin (by rw[I.ok.glob];exact I.mod.glob.keeps I.bk) hm (by rw[I.ok.blt];exact b.keeps I.bk) ((a x y).trans hv) h) k
theorem i5{v:V}(y:Gl X x)(hm:X.mg x=Jp u)(r:lA v u)(w:(x==("__debug__":Str))=false:=by decide):PE X (.Name x pos) (tC v) :=
 λ_ _ _ H _ I h=>lN I y hm #[v,H,I,r,h] w
theorem X5{v:V}(w:Gl X x)(hm:X.mg x=Jr)(hv:Kp x=Jp u)(r:lA v u)(y:x≠"__name__":=by decide)(k:(x==("__debug__":Str))=false:=by decide):PE X (.Name x pos) (tC v) :=
 λ_ _ _ H _ I h=>rE I w hm hv #[v,H,I,r,h] y k
end
variable{a b:Expr}{ta d:TE}{pos:Pos}
variable{g n:TT}{k:List Expr}
noncomputable def vk(t u:TT):TT:=λh H Q=>t h H λc x=>if c=Js then u h x Q else Q Jt x
noncomputable def ao(t u:TT):TT:=λh H Q=>t h H λc x=>if c=Js then Q Js x else u h x Q
def Aj(t:TT):TT:=λh H Q=>t h H λc x=>Q (!c) x
theorem T4(ha:PT X a g):PW X (.BoolOp .And [a] pos) g:=by
 intro z x s y H Q I h;refine isTrue_and (DB (ha x s y H Q I h) λc u e=>?_);cases c with|true=>exact isTrue_and_nil e|false=>exact e
theorem Db(ha:PT X a g):PW X (.BoolOp .Or [a] pos) g:=by
 intro z x s y H Q I h;refine isTrue_or (DB (ha x s y H Q I h) λc u e=>?_);cases c with|false=>exact isTrue_or_nil e|true=>exact e
theorem zY(ha:PT X a g)(hb:PW X (.BoolOp .And (b::k) pos) n):PW X (.BoolOp .And (a::b::k) pos) (vk g n):=by
 intro w x s y H Q I h;refine isTrue_and (DB (ha x s y H _ I h) λc e #[v,u,z]=>?_);cases c with|true=>exact hb w x e y v Q u z|false=>exact#[v,u,z]
theorem g8(ha:PT X a g)(hb:PW X (.BoolOp .Or (b::k) pos) n):PW X (.BoolOp .Or (a::b::k) pos) (ao g n):=by
 intro w x s y H Q I h;refine isTrue_or (DB (ha x s y H _ I h) λc e #[v,u,z]=>?_);cases c with|true=>exact#[v,u,z]|false=>exact hb w x e y v Q u z
theorem Gb(ha:PT X a g):PT X (.UnaryOp .Not a pos) (Aj g):=by intro x s y H Q I h;exact isTrue_not (ha x s y H (λc z=>Q (!c) z) I h)
noncomputable def xg(ta d:TE):TE:=λh H Q=>ta h H λx y=>∃c,x=.bl c/\if c=Js then d h y Q else Q (.bl Jt) y
noncomputable def Tj(ta d:TE):TE:=λh H Q=>ta h H λx y=>∃c,x=.bl c/\if c=Js then Q (.bl Js) y else d h y Q
theorem pY{op}{t:TE}(h:PE X a t):PE X (.BoolOp op [a] pos) t:=λx s y H Q I z=>BoolOp_one (h x s y H Q I z)
theorem eY(ha:PE X a ta)(hb:PE X (.BoolOp .And (b::k) pos) d):PE X (.BoolOp .And (a::b::k) pos) (xg ta d):=by
 intro y s u H Q I h;refine BoolOp_and (DB (ha y s u H _ I h) λv f #[x,e,w,i,z]=>?_);let#[c,rfl,z]:=z;cases i;refine wu ?_;cases c with|true=>exact hb y f u e Q w z|false=>exact#[.bl Jt,e,w,rfl,z]
theorem e8(ha:PE X a ta)(hb:PE X (.BoolOp .Or (b::k) pos) d):PE X (.BoolOp .Or (a::b::k) pos) (Tj ta d):=by
 intro y s u H Q I h;refine BoolOp_or (DB (ha y s u H _ I h) λv f #[x,e,w,i,z]=>?_);let#[c,rfl,z]:=z;cases i;refine wu ?_;cases c with|false=>exact hb y f u e Q w z|true=>exact#[.bl Js,e,w,rfl,z]
end
def uC(K:QE)(H:Hp)(a:jy)(xs:LV):Prop :=
 Rd H a (.lst xs) ∨
  ∃(o:Obj) (h:Array Ju) (n:Nat),K.lookup a=Jp o/\o.cls=.type "list"/\o.dict=Jr/\o.data=.seq h n/\h.size<=jx/\uA xs h.toList
def HC(K:QE)(H:Hp)(a:jy)(xs:LV):Prop :=
 Rd H a (.tup xs) ∨
  ∃(o:Obj) (h:Array Ju) (n:Nat),K.lookup a=Jp o/\o.cls=.type "tuple"/\o.data=.seq h n/\h.size<=jx/\uA xs h.toList
noncomputable def FI:Ju->Option V
 | .none=>Jp .non|.bool b=>Jp (.bl b)|.int i _=>Jp (.int i)|.str x _=>Jp (.str x)|.bytes b _=>Jp (.byt b)|.float b _=>Jp (.flt b)|.ref a=>Jp (.ref a)|.type n=>Jp (.ty n)|_=>Jr
theorem lA.abs{x:V}{u:Ju}(r:lA x u):FI u=Jp x:=by
 cases x with|non=>cases r;rfl|bl _=>cases r;rfl|int _=>let#[t,rfl]:=r;rfl|str _=>let#[t,rfl]:=r;rfl|byt _=>let#[t,rfl]:=r;rfl|flt _=>let#[t,rfl]:=r;rfl|ref _=>cases r;rfl|ty _=>cases r;rfl
theorem lA.inj{x y:V}{u:Ju}(r:lA x u)(q:lA y u):x=y:=Qy (r.abs.symm.trans q.abs)
theorem uA.inj:∀{xs h:LV}{us:LW},uA xs us->uA h us->xs=h
 |_,_,_,.nil,.nil=>rfl|_,_,_,.cons r t,.cons r' t'=>by rw[r.inj r',uA.inj t t']
section
variable{X:Cx}{x:GB}{σ:St}{H:Hp}{s:Jq}{a:jy}{xs y:LV}
theorem uC.of{K:QE}(h:H a=Jp (.lst xs)):uC K H a xs:=.inl (.inl h)
theorem HC.of{K:QE}(h:H a=Jp (.tup xs)):HC K H a xs:=.inl (.inl h)
theorem Inv.list(I:Inv X x σ H s)(h:uC X.K H a xs):∃its:LW,uA xs its/\PlainL s.1 a its.toArray/\xs.9<=sizeLine:=by
 rcases h with h|⟨o,its,n,hk,hc,u,hs,v,r⟩
 let#[z,its,n,r,e]:=h.ok I.hok;exact#[its,r,#[_,n,e,rfl,rfl,rfl],z];refine#[its.toList,r,#[o,n,I.kIn a o hk,hc,u,by simpa using hs],?_];have e:=r.9;simp only[QM]at e;omega
theorem Inv.tuple(I:Inv X x σ H s)(h:HC X.K H a xs):∃its:LW,uA xs its/\IsTup s.1 a its.toArray/\xs.9<=sizeLine:=by
 rcases h with h|⟨o,its,n,hk,hc,hs,u,r⟩
 let#[z,its,r,p]:=h.ok I.hok;exact#[its,r,p,z];refine#[its.toList,r,#[o,I.kIn a o hk,hc,n,by simpa using hs],?_];have e:=r.9;simp only[QM]at e;omega
theorem Inv.list_inj(I:Inv X x σ H s)(h:uC X.K H a xs)(h':uC X.K H a y):xs=y:=by
 let#[u,r,#[o,n,e,_,_,d],_]:=I.list h;let#[z,k,#[b,f,v,_,_,w],_]:=I.list h';rw[e]at v;cases v;rw[d]at w;injection w with d1 _;have:u=z:=by simpa using gV QDT d1
 subst this;exact r.inj k
theorem Inv.tuple_inj(I:Inv X x σ H s)(h:HC X.K H a xs)(h':HC X.K H a y):xs=y:=by
 let#[u,r,#[o,e,_,n,d],_]:=I.tuple h;let#[z,k,#[b,v,_,f,w],_]:=I.tuple h';rw[e]at v;cases v;rw[d]at w;injection w with d1 _;have:u=z:=by simpa using gV QDT d1
 subst this;exact r.inj k
end
noncomputable abbrev Cx.wish(X:Cx)(E:pB):Cx:={ X with xe:=E }
noncomputable abbrev Cx.nox(X:Cx):Cx:=X.wish λ_ _=>False
theorem Cx.Ok.wish{X:Cx}(ok:X.Ok)(E:pB):(X.wish E).Ok :=
 #[ok.mod,ok.kind,ok.glob,ok.blt,ok.above,ok.inj,ok.has,ok.cab,ok.hd,ok.frames,ok.stk,ok.exf,ok.bs,ok.bsz,ok.noex,ok.exfs,ok.funs,ok.frf]
theorem Cx.Ok.unwish{X:Cx}{E:pB}(ok:(X.wish E).Ok):X.Ok :=
 #[ok.mod,ok.kind,ok.glob,ok.blt,ok.above,ok.inj,ok.has,ok.cab,ok.hd,ok.frames,ok.stk,ok.exf,ok.bs,ok.bsz,ok.noex,ok.exfs,ok.funs,ok.frf]
section
variable{X:Cx}{x:GB}{σ:St}{H:Hp}{s:Jq}{E:pB}
theorem Inv.wish(I:Inv X x σ H s)(E:pB):Inv (X.wish E) x σ H s:=#[I.ok.wish E,I.os,I.bare,I.base,I.loc,I.cell,I.free,I.freeC,I.pin,I.hok,I.len]
theorem Inv.unwish(I:Inv (X.wish E) x σ H s):Inv X x σ H s:=#[I.ok.unwish,I.os,I.bare,I.base,I.loc,I.cell,I.free,I.freeC,I.pin,I.hok,I.len]
theorem SP.unwish{D:Ends}{f:Flow}{s':Jq}(h:SP (X.wish E) x D f s'):SP X x D f s':=by
 cases f with|next=>let#[y,z,I,q]:=h;exact#[y,z,I.unwish,q]|brk=>let#[y,z,I,q]:=h;exact#[y,z,I.unwish,q]|cont=>let#[y,z,I,q]:=h;exact#[y,z,I.unwish,q]|ret u=>let#[v,y,z,I,r,q]:=h;exact#[v,y,z,I.unwish,r,q]
theorem XS.nox{st:List Ku}{t:TS}(h:XS X.nox st t):XS X st t:=λx s σ H D I y =>
 WE (h x s σ H D (I.wish _) y) (λ_ _ q=>q.unwish) λ_ _ z=>Qh z
end
section
variable{X:Cx}{st:Ku}{y:List Ku}{t u:TS}{e:Expr}{te:TE}{pos:Pos}
def zg:TS:=λD h H=>D.nx h H
def Rj(t u:TS):TS:=λD h H=>t { D with nx:=u D } h H
theorem j5:XS X [] zg:=λ_ _ x H _ I h=>QBD #[x,H,I,h]
theorem xY(b:PS X st t)(a:XS X y u):XS X (st::y) (Rj t u):=by
 intro x s w H D I h;refine QDe (DB (b x s w H { D with nx:=u D } I h) λf k q=>?_);cases f with|next=>let#[z,i,g,q]:=q;exact a x k z i D g q|ret v=>exact q|brk=>exact q|cont=>exact q
theorem E4(w:PS X st t):XS X [st] t:=by
 intro x s z H D I h;refine QDe (DB (w x s z H D I h) λf k q=>?_);cases f with|next=>exact QBD q|ret v=>exact q|brk=>exact q|cont=>exact q
theorem Inv.quiet{h:GB}{σ:St}{H:Hp}{s:Jq}(I:Inv X h σ H s):interactive X.env=false:=by simp[interactive,I.ok.kind]
def kg(te:TE):TS:=λD h H=>te h H λ_ x=>D.nx h x
theorem eT(a:PE X e te)(hs:Vu e Jr pos.line X.env=Gu false:=by rfl):PS X (.Expr e pos) (kg te):=by intro z s w H D I h;exact wpAny_Expr_any (DB (a z s w H _ I h) λv g #[x,f,b,i,k]=>#[w,f,b,k]) I.quiet hs
def Sj(te:TE):TS:=λD h H=>te h H D.rt
theorem Lb(b:PE X e te):PS X (.Return (Jp e) pos) (Sj te):=by intro z s w H D I h;exact wpAny_Return_some (DB (b z s w H _ I h) λv i #[x,g,f,k,a]=>#[x,w,g,f,k,a])
noncomputable def Ij(c:TT)(t u:TS):TS:=λD h H=>c h H λb x=>if b=Js then t D h x else u D h x
theorem Ig{c:Expr}{a b:List Ku}{tc:TT}(hc:PT X c tc)(ha:XS X a t)(hb:XS X b u):PS X (.If c a b pos) (Ij tc t u):=by
 intro x s z H D I h;refine wpAny_If (DB (hc x s z H _ I h) λd v #[f,k,w]=>?_);cases d with|true=>exact ha x v z f D k w|false=>exact hb x v z f D k w
end
noncomputable abbrev TG:=V->St->Hp->(St->Hp->Prop)->Prop
noncomputable abbrev km:=LV->St->Hp->(St->Hp->Prop)->Prop
def PG(X:Cx)(h:Expr)(t:TG):Prop :=
 ∀(x:GB) (s:Jq) (z:St) (H:Hp) (v:V) (u:Ju) (Q:St->Hp->Prop),Inv X x z H s->lA v u->t v z H Q ->
  Jw (jz X.prog X.w) X.A (vr h X.env u) (λ_ a=>∃y k,Inv X x y k a/\Q y k) X.xe s
def Im(X:Cx)(ts:List Expr)(t:km):Prop :=
 ∀(h:GB) (s:Jq) (y:St) (H:Hp) (z:LV) (u:LW) (Q:St->Hp->Prop),Inv X h y H s->uA z u->t z y H Q ->
  Jw (jz X.prog X.w) X.A (Yq ((kz ts X.env).map (·.2)) u) (λ_ k=>∃x v,Inv X h x v k/\Q x v) X.xe s
noncomputable abbrev Ie:=V->V->V->Hp->(Hp->Prop)->Prop
def R7(X:Cx)(t:Ie):Prop :=
 ∀(h:GB) (s:Jq) (x:St) (H:Hp) (o i v:V) (y z u:Ju) (Q:Hp->Prop),Inv X h x H s->lA o y->lA i z->lA v u->t o i v H Q ->
  Jw (jz X.prog X.w) X.A (setItem y z u) (λ_ a=>∃k,Inv X h x k a/\Q k) X.xe s
section
variable{X:Cx}{pos:Pos}
section
variable{i:Nat}{x:Str}{e:Expr}{te:TE}
def pU(i:Nat):TG:=λv h H Q=>Q (h.set i (Jp v)) H
theorem UT(a:X.N.Nodup)(w:X.N[i]?=Jp x)(z:Jf X.env.scope x)(k:X.fn x=Js∨X.env.scope.names.lookup x=Jp .local):PG X (.Name x pos) (pU i):=by intro y s f H v u Q I r h;exact QDE (sO I a w z r (λg b=>#[_,H,b,h]) k)
noncomputable def ml(K:QE)(n:Nat)(t:km):TG:=λv y H Q=>∃a h,v=.ref a/\HC K H a h/\h.9=n/\t h y H Q
theorem Sb{es:List Expr}{k:Nat}{t:km}{n:Nat}(hc:X.calm=Js)(h:Im X es t)
  (Y:(kz es X.env).9=n:=by rfl) (w:(kz es X.env).findIdx? (·.1)=none:=by rfl):PG X (.Tuple es k pos) (ml X.K n t):=by
 intro y s f H v u Q I r z;let#[a,j,W,q,hl,z]:=z;subst W;cases r;let#[l,g,p,B]:=I.tuple q;refine assign_Tuple_tuple (I.ok.hd hc) p (by simp[Y,<- hl,g.9]) w λZ m=>?_;have A:Inv X y f H { s with heap:=Z }:=I.kept (t':=s.toks) λb o e=>m b o (Qe (QS e)) e;exact h y _ f H j _ Q A (by simpa using g) z
noncomputable def il(to y:TE)(t:Ie):TG:=λv h H Q=>to h H λo w=>y h w λi u=>t o i v u λz=>Q h z
theorem Tb{o i:Expr}{to b:TE}{t:Ie}(q:PE X o to)(Y:PE X i b)(hs:R7 X t)
  (ha:∀v,vr (.Subscript o i pos) X.env v=(do
   let w <- Xr [v] (kx o X.env)
   let k <- Xr [v,w] (kx i X.env)
   standAt pos
   Xr [v,w,k] (setItem w k v)
   release [v,w,k] []):=by intro _;rfl):PG X (.Subscript o i pos) (il to b t):=by
 intro z s a H v u Q I r h;rw[ha];refine QA (qG (DB (q z s a H _ I h) λw g #[x,C,K,l,p]=>?_));refine QA (qG (DB (Y z g a C _ K p) λk f #[y,B,W,j,n]=>?_));refine QA (QC0 (QA (qG (DB (hs z f a B x y v w k u _ W l j r n) λ_ E #[A,Z,m]=>?_))));exact wpAny_release #[a,A,Z,m]
def yb(te:TE)(g:TG):TS:=λD h H=>te h H λx y=>g x h y D.nx
theorem cY{z:Expr}{g:TG}(j:PE X e te)(f:PG X z g)(hs:swapsWithSole [z] e pos.line X.env=Gu false:=by rfl)(b:swappedStores [z] e X.env=Gu none:=by rfl)
  (l:(kz [z] X.env).map (·.2)=[vr z X.env]:=by rfl):PS X (.Assign [z] e pos) (yb te g):=by
 intro y s u H D I h;refine wpAny_Assign_stores (DB (j y s u H _ I h) λv w #[x,n,m,k,a]=>?_) hs b;rw[l];exact DB (f y w u n x v _ m k a) λ_ o q=>q
theorem Hb{pos':Pos}(j:X.N.Nodup)(b:X.N[i]?=Jp x)(a:Jf X.env.scope x)(g:PE X e te)(hs:Vu e (Jp (.Name x pos')) pos.line X.env=Gu false:=by rfl)(f:X.fn x=Js∨X.env.scope.names.lookup x=Jp .local) :
  PS X (.Assign [.Name x pos'] e pos) (yb te (pU i)):=by
 intro z s u H D I h;refine wpAny_Assign_Name (DB (g z s u H _ I h) λv p #[y,n,m,w,k]=>?_) hs;exact sO m j b a w (λo l=>#[_,n,l,k]) f
end
end
section
variable{X:Cx}{pos:Pos}
def hX(c:TT)(v:TS):TS:=λD h H=>∃W:Nat->St->Hp->Prop,(∃m,W m h H)/\∀m h H,W m h H ->
 c h H λb z=>if b=Js then ∃N:St->Hp->Prop,(∀x u,N x u->∃y,y < m/\W y x u)/\v { D with nx:=N,ct:=N,bk:=D.nx } h z else D.nx h z
theorem uY{c:Expr}{body:List Ku}{tc:TT}{o:TS}(p:yq (jz X.prog X.w) X.A X.env X.xe)(hc:PT X c tc)(hb:XS X body o):PS X (.While c body [] pos) (hX tc o):=by
 intro y s B H D I h;let#[W,#[L,E],k]:=h;refine wpAny_While (codeAny_whileLoop (λn J=>∃u K,Inv X y u K J/\W n u K) ?_ L #[B,H,I,E]);rintro n G ⟨z,Z,M,C⟩;refine WN p (DB (hc y G z Z _ M (k n z Z C)) λb F #[Y,r,g]=>?_);cases b with
 |true =>
  let#[N,q,g]:=g;rw[Gw rfl];refine WN p (DB (hb y F z Y _ r g) λf O e=>?_);cases f with|next=>let#[x,a,m,j]:=e;let#[l,hm,i]:=q x a j;exact#[l,hm,x,a,m,i]|cont=>let#[x,a,m,j]:=e;let#[l,hm,i]:=q x a j;exact#[l,hm,x,a,m,i]|brk=>exact e|ret v=>exact e
 |false=>rw[Gq QF];exact QBD #[z,Y,r,g]
end
section
variable{s:Jq}{y:Expr}{P:jv}{w:jr}{K:QE}
structure It where
 go:Nat->Hp->Prop
 yld:Nat->Hp->V->Hp->Prop
 stop:Nat->Hp->Prop
def BH(X:Cx)(h:GB)(H:Hp)(b:jy):Prop :=
 H b=Jr/\b≠X.env.locals/\b∉X.fs/\(b∈X.ex∨X.s₀.1.1.size<=b)/\(∀x c,X.env.cells.lookup x=Jp c->c≠b)/\∀p∈X.pn++h,p.1≠b
theorem Inv.fpOk{X:Cx}{h:GB}{σ:St}{H u:Hp}{b:jy}(I:Inv X h σ H s)(hb:s.1.1.size<=b)(a:u b=Jr):BH X h u b:=by refine#[a,wQ (Ql I.lt hb),I.nofs hb,.inr (Qc I.sz hb),λx c e z=>?_,λp k z=>?_];let#[v,q]:=I.cell x c e;exact gJ (Ql q.lt (by rw[z];exact hb)) (wJ _);exact gJ (Ql (QS (I.pin p k).1) (by rw[z];exact hb)) (wJ _)
structure Turn0(P:jv)(w:jr)(K:QE)(y:Expr)(J:It)(fp:List jy)(it:jy)(tn:Nat->js->Prop):Prop where
 mem:it∈fp
 obj:∀i h,tn i h->∀b∈fp,∃o,h.get? b=Jp o/\∀v,o.data≠.cell v
 keep:∀i h h',tn i h->(∀b∈fp,∀o,h.get? b=Jp o->h'.get? b=Jp o)->tn i h'
 item:∀(X:Cx),X.prog=P->X.w=w->X.K=K->X.calm=Js->∀(i:Nat) (pins:GB) (s:Jq) (σ:St) (H:Hp) (E:pB),Inv X pins σ H s->(∀b∈fp,BH X pins H b)->tn i s.1->J.go i H ->
  Jw (jz P w) X.A (ku (.ref it)) (λr s1=>∃u,r=Jp u /\
   Jw (jz P w) X.A (kd y (.ref it) u) (λ_ s2=>∃x H',Inv X pins σ H' s2/\lA x u/\J.yld i H x H'/\tn (i+1) s2.1/\∀b∈fp,H' b=Jr) E s1) E s
 done:∀(X:Cx),X.prog=P->X.w=w->X.K=K->X.calm=Js->∀(i:Nat) (pins:GB) (s:Jq) (σ:St) (H:Hp) (E:pB),Inv X pins σ H s->(∀b∈fp,BH X pins H b)->tn i s.1->J.stop i H ->
  Jw (jz P w) X.A (ku (.ref it)) (λr s1=>r=Jr/\Inv X pins σ H s1) E s
structure Turn(P:jv)(w:jr)(K:QE)(y:Expr)(J:It)(fp:List jy)(it:jy)(tn:Nat->js->Prop):Prop extends Turn0 P w K y J fp it tn where
 self:∀(A:ju) (i:Nat) (s:Jq) (Q:pB) (E:pB),tn i s.1->Q (.ref it) s->Jw (jz P w) A (Vs (.ref it)) Q E s
noncomputable abbrev TI:=St->Hp->(It->Hp->Prop)->Prop
def mm(X:Cx)(h:GB)(σ:St)(y:Expr)(R:It->Hp->Prop)(x:Ju)(u:Jq):Prop :=
 ∃(it:jy) (v:List jy) (tn:Nat->js->Prop) (J:It) (z:Hp),x=.ref it/\Inv X h σ z u/\Turn X.prog X.w X.K y J v it tn/\tn 0 u.1/\(∀b∈v,BH X h z b)/\R J z
def PI(X:Cx)(y x:Expr)(u:TI):Prop :=
 ∀(h:GB) (s:Jq) (z:St) (H:Hp) (R:It->Hp->Prop),Inv X h z H s->u z H R ->
  Jw (jz X.prog X.w) X.A (kx x X.env) (λv k=>Jw (jz X.prog X.w) X.A (Vs v) (mm X h z y R) X.xe k) X.xe s
def cm(X:Cx)(h:GB)(σ:St)(y:Expr)(R:It->Hp->Prop)(x:Ju)(u:Jq):Prop :=
 ∃(it:jy) (v:List jy) (tn:Nat->js->Prop) (J:It) (z:Hp),x=.ref it/\Inv X h σ z u/\Turn0 X.prog X.w X.K y J v it tn/\tn 0 u.1/\(∀b∈v,BH X h z b)/\R J z
def Bj(X:Cx)(y x:Expr)(u:TI):Prop :=
 ∀(h:GB) (s:Jq) (z:St) (H:Hp) (R:It->Hp->Prop),Inv X h z H s->u z H R ->
  Jw (jz X.prog X.w) X.A (kx x X.env) (λv k=>Jw (jz X.prog X.w) X.A (Vs v) (cm X h z y R) X.xe k) X.xe s
theorem PI.to0{X:Cx}{z:Expr}{k:TI}(h:PI X y z k):Bj X y z k:=λu s a H R I q =>
 WE (h u s a H R I q) (λv m f=>WE f (λb l #[it,g,tn,J,j,e,i,T,r]=>#[it,g,tn,J,j,e,i,T.toTurn0,r]) λ_ _ x=>x) λ_ _ x=>x
theorem GP{M:Zp}{A:ju}{E:pB}{it:jy}{u:Ju}{o:Obj}{n:String}{vs:Array Ju}{Q:Unit->Jq->Prop}(z:s.1.get? it=Jp o)(hc:o.cls=.type n)(k:o.data=.fields vs)
    (v:["enumerate","zip","dict_itemiterator","dict_reverseitemiterator","odict_iterator","itertools.zip_longest","itertools.pairwise"].contains n=Jt) (x:Q Unit.unit s):Jw M A (kd y (.ref it) u) Q E s:=by
  unfold kd;cases y<;>first
    |exact QH x
    | (cases u<;>first
        |exact QH x
        | (refine QA (QD4 z ?_)
           rw[hc,k];show Jw M A (if(["enumerate","zip","dict_itemiterator","dict_reverseitemiterator","odict_iterator","itertools.zip_longest","itertools.pairwise"].contains n&&vs[0]?==Jp (j1 _))=Js then _ else _) Q E s;rw[Gq (by intro h;rw[v,QCe]at h;cases h)];exact QH x))
noncomputable def Ln(K:QE)(a:jy):It :=
 #[λi H=>∃h x,uC K H a h/\h[i]?=Jp x,λi H x z=>z=H/\∀h,uC K H a h->h[i]?=Jp x,λi H=>∃h,uC K H a h/\h.9<=i]
noncomputable def Gn(K:QE)(a:jy):It :=
 #[λi H=>∃h x,HC K H a h/\h[i]?=Jp x,λi H x z=>z=H/\∀h,HC K H a h->h[i]?=Jp x,λi H=>∃h,HC K H a h/\h.9<=i]
noncomputable def Zm(h:Int)(n:Nat):It:=#[λi _=>i<n,λi H x z=>z=H/\x=.int (h+i),λi _=>n<=i]
theorem IU(a it:jy):Turn P w K y (Ln K a) [it] it (λi h=>h.IsListIter it a i) where
 mem:=by simp
 obj:=λi h st b hb=>by
  have e:b=it:=by simpa using hb
  subst e;let#[o,e,c,d]:=st;exact#[o,e,λv z=>by rw[d]at z;cases z]
 keep:=λi h m st k=>st.at λo e=>k it (by simp) o e
 item:=by intro X W Y A hc i f s L H E I l st Z;subst W Y A;let#[M,x,j,r]:=Z;let#[q,n,p,Q]:=I.list j;let#[u,S,O]:=n.get r;let#[J,G,f2,F,C,B]:=l it (by simp);refine wpAny_pyNext_list_item st p.isList (x:=u) (by simpa using S) λm g N=>?_;have I1:Inv X f L H { s with heap:=m }:=I.turned (t':=s.toks) (λb o hb e=>(N.2 b hb).trans e) J G F C B;let#[o,e,c,d]:=id g;exact#[u,rfl,GP (s:={ s with heap:=m }) e c d (by decide) #[x,H,I1,O,#[rfl,λys R=>by rw[I.list_inj R j];exact r],g,λb hb=>(l b hb).1]]
 done:=by intro X W Y A hc i f s L H E I l st Z;subst W Y A;let#[M,j,r]:=Z;let#[q,n,p,Q]:=I.list j;let#[J,G,f2,F,C,B]:=l it (by simp);have hl:=n.9;exact wpAny_pyNext_list_end (I.ok.hd hc) st p.isList (by simp;omega) λm eb=>#[rfl,I.turned (t':=s.toks) (λb o hb e=>eb b o hb e) J G F C B]
 self:=λ_ _ _ _ _ st h=>wpAny_pyIter_listiter st h
theorem MQ(a it:jy):Turn P w K y (Gn K a) [it] it (λi h=>h.IsTupleIter it a i) where
 mem:=by simp
 obj:=λi h st b hb=>by
  have e:b=it:=by simpa using hb
  subst e;let#[o,e,c,d]:=st;exact#[o,e,λv z=>by rw[d]at z;cases z]
 keep:=λi h n st k=>st.at λo e=>k it (by simp) o e
 item:=by intro X W Y A hc i f s L H E I m st Z;subst W Y A;let#[M,x,l,r]:=Z;let#[g,q,p,Q]:=I.tuple l;let#[u,S,O]:=q.get r;let#[J,G,f2,F,C,B]:=m it (by simp);refine wpAny_pyNext_tuple_item st (show s.1.IsTuple a g.toArray from p) (x:=u) (by simpa using S) λn j N=>?_;have I1:Inv X f L H { s with heap:=n }:=I.turned (t':=s.toks) (λb o hb e=>(N.2 b hb).trans e) J G F C B;let#[o,e,c,d]:=id j;exact#[u,rfl,GP (s:={ s with heap:=n }) e c d (by decide) #[x,H,I1,O,#[rfl,λys R=>by rw[I.tuple_inj R l];exact r],j,λb hb=>(m b hb).1]]
 done:=by intro X W Y A hc i f s L H E I m st Z;subst W Y A;let#[M,l,r]:=Z;let#[g,q,p,Q]:=I.tuple l;let#[J,G,f2,F,C,B]:=m it (by simp);have hl:=q.9;exact wpAny_pyNext_tuple_end (I.ok.hd hc) st (show s.1.IsTuple a g.toArray from p) (by simp;omega) λn eb=>#[rfl,I.turned (t':=s.toks) (λb o hb e=>eb b o hb e) J G F C B]
 self:=λ_ _ _ _ _ st h=>wpAny_pyIter_tupleiter st h
theorem NQ(it:jy)(a:Int)(n:Nat):Turn P w K y (Zm a n) [it] it (λi h=>IsRangeIter h it (a+(i:Nat) * 1) ((n:Int) - (i:Nat)) 1) where
 mem:=by simp
 obj:=λi h st b hb=>by
  have e:b=it:=by simpa using hb
  subst e;exact#[_,st,λv z=>by have F:Data.fields _=Data.cell v:=z;cases F]
 keep:=λi h g st k=>k it (by simp) _ st
 item:=by intro X m j p hc i x s B H E I f st l;subst m j p;let#[A,Z,J,Y,r,q]:=f it (by simp);have W:=Walks.range (prog:=X.prog) (w:=X.w) (I.ok.hd hc) it a 1 n;refine W.item i s _ _ l st λv g C hv u G=>?_;let#[t,rfl]:=hv;have M:Inv X x B H { s with heap:=g,toks:=C }:=I.turned (λb o hb e=>G b o (by simpa using hb) e) A Z Y r q;refine#[_,rfl,GP (s:={ s with heap:=g,toks:=C }) (n:="range_iterator") u rfl rfl (by decide) #[.int (a+i),H,M,#[t,?_],#[rfl,rfl],u,λb hb=>(f b hb).1]];rw[Int.mul_one]
 done:=by intro X m j p hc i x s B H E I f st l;subst m j p;let#[A,Z,J,Y,r,q]:=f it (by simp);exact wpAny_pyNext_range_end (I.ok.hd hc) st (by have:n<=i:=l;omega) λg L=>#[rfl,I.turned (t':=s.toks) (λb o hb e=>L b o hb e) A Z Y r q]
 self:=λ_ _ _ _ _ st h=>wpAny_pyIter_rangeiter st h
end
section
variable{X:Cx}{a:Expr}
section
variable{y:GB}{σ:St}{H:Hp}{s:Jq}{k:List jy}{h:js}
theorem IX{R:It->Hp->Prop}{E:pB}{x z:Int}{t u v:Tok}{f:Nat}(I:Inv X y σ H s)(m:-(2 ^ 62)<=x)(l:x<2 ^ 62)(j:-(2 ^ 62)<=z)(i:z<2 ^ 62)
  (q:R (Zm x (z - x).toNat) H):Jw (jz X.prog X.w) X.A (Vs (.ref s.1.1.size)) (mm X y σ a R) E { s with heap:=s.1.push { cls:=.type "range",data:=.fields (WZ [.int x t,.int z u,.int 1 v]) },toks:=f }:=by
 refine wpAny_pyIter_range (IsRange.new ..) (small_one m l j i) ?_;have g:Inv X y σ H { s with heap:=s.1.push { cls:=.type "range",data:=.fields (WZ [.int x t,.int z u,.int 1 v]) },toks:=f }:=I.kept λb o e=>QI _ e;refine#[(s.1.push { cls:=.type "range",data:=.fields (WZ [.int x t,.int z u,.int 1 v]) }).1.size,[(s.1.push { cls:=.type "range",data:=.fields (WZ [.int x t,.int z u,.int 1 v]) }).1.size],_,_,H,rfl,
  g.kept (t':=f) λb o e=>QI _ e,NQ _ x (z - x).toNat,?_,λb hb=>?_,q]
 have p:x+((0:Nat):Int) * 1=x:=by simp
 have n:(((z - x).toNat:Nat):Int) - ((0:Nat):Int)=Builtin.Range.rangeSize x z 1:=by rw[rangeSize_one];split<;>omega
 show IsRangeIter _ _ (x+((0:Nat):Int) * 1) ((((z - x).toNat:Nat):Int) - ((0:Nat):Int)) 1;rw[p,n];exact QO _ rfl;have e:b=(s.1.push { cls:=.type "range",data:=.fields (WZ [.int x t,.int z u,.int 1 v]) }).1.size:=by simpa using hb
 subst e;exact g.fpOk (QV _) (g.hok.fresh (QV _))
def jk(b:TI)(g:TG)(e:TS):TS:=λD σ H=>b σ H λJ j=>∃W:Nat->Nat->St->Hp->Prop,(∃m,W 0 m σ j)/\∀i m σ H,W i m σ H ->
 (J.stop i H/\D.nx σ H)∨(J.go i H/\∃N:St->Hp->Prop,(∀z u,N z u->∃w,w < m/\W (i+1) w z u)/\∀x u,J.yld i H x u->g x σ u λv f=>e { D with nx:=N,ct:=N,bk:=D.nx } v f)
noncomputable def UJ(k:List jy)(h:js):GB:=k.filterMap λb=>(h.get? b).map λo=>(b,o)
theorem oE{b:jy}{o:Obj}(hb:b∈k)(e:h.get? b=Jp o):(b,o)∈UJ k h:=QAS.mpr #[b,hb,by rw[e];rfl]
theorem VV{p:jy×Obj}(x:p∈UJ k h):p.1∈k/\h.get? p.1=Jp p.2:=by
 let#[b,hb,e]:=QAS.mp x;cases q:h.get? b with|none=>rw[q]at e;cases e|some o=>rw[q]at e;have z:(b,o)=p:=Qy e;subst z;exact#[hb,q]
theorem Inv.pinned(I:Inv X y σ H s)(f:∀b∈k,BH X y H b)(w:∀b∈k,∃o,s.1.get? b=Jp o/\∀v,o.data≠.cell v):Inv X (y++UJ k s.1) σ H s :=
 I.pins_of λp u=>(QW.mp u).elim (λz=>I.pin p (QR _ z)) λz=>by let#[hb,e]:=VV z;let#[j,i,g,_]:=f p.1 hb;let#[o,x,d]:=w p.1 hb;rw[e]at x;cases x;exact#[e,j,i,g,d]
theorem Inv.unpinned{x:GB}(I:Inv X (y++x) σ H s):Inv X y σ H s:=I.pins_of λp z=>I.pin p (QR _ (Qd _ z))
theorem Mb{q:Expr}{body:List Ku}{wi:TI}{g:TG}{tb:TS}{pos:Pos}(O:yq (jz X.prog X.w) X.A X.env X.xe)(hc:X.calm=Js)(hi:Bj X a q wi)(hg:PG X a g)(hb:XS X body tb)
  (hs:∀x,ky q X.env x=Gu x:=by intro _;rfl):PS X (.For a q body [] pos) (jk wi g tb):=by
 intro y s σ H D I h;refine wpAny_For (DB (hi y s σ H _ I h) λv s1 h1=>DB h1 λitv s2 h2=>?_) hs;let#[it,k,tn,J,H2,e,I2,T,S,f2,W,#[m0,w0],F]:=h2;subst e;have p:∀{B:Hp},(∀b∈k,B b=Jr)->∀b∈k,BH X y B b:=λhn b hb=>#[hn b hb,(f2 b hb).2]
 refine codeAny_forLoop_any (λn s'=>∃i l B,Inv X y l B s'/\tn i s'.1/\(∀b∈k,B b=Jr)/\W i n l B) ?_ m0 #[0,σ,H2,I2,S,λb hb=>(f2 b hb).1,w0];rintro n s3 ⟨i,j,Q,I3,L,P,w3⟩;rcases F i n j Q w3 with⟨G,qn⟩| ⟨go,N,hN,step⟩
 refine WN O (DB (T.done X rfl rfl rfl hc i y s3 j Q X.xe I3 (p P) L G) λr s4 #[hr,I4]=>?_);subst hr;exact QBD #[j,Q,I4,qn];refine WN O (DB (T.item X rfl rfl rfl hc i y s3 j Q X.xe I3 (p P) L go) λr s4 #[u,hr,h4]=>?_);subst hr;refine WN O (DB h4 λ_ s5 #[x,H5,I5,r5,y5,E,fr5]=>?_);have I5':=I5.pinned (p fr5) (T.obj _ _ E);refine WN O (DB (hg _ s5 j H5 x u _ I5' r5 (step x H5 y5)) λ_ s6 #[R,H6,I6,q6]=>?_);refine WN O (DB (hb _ s6 R H6 _ I6 q6) λf s7 C=>?_);have Y:∀{z:St}{K:Hp},Inv X (y++UJ k s5.1) z K s7->N z K->∃m,m<n/\∃i l B,Inv X y l B s7/\tn i s7.1/\(∀b∈k,B b=Jr)/\W i m l B:=λ{z K} Z M=>by let#[m',hm,w7]:=hN z K M;refine#[m',hm,i+1,z,K,Z.unpinned,T.keep _ _ _ E λb hb o e=>(Z.pin (b,o) (QR _ (QR _ (oE hb e)))).1,λb hb=>?_,w7];let#[o,e,d]:=T.obj _ _ E b hb;exact(Z.pin (b,o) (QR _ (QR _ (oE hb e)))).2.1
 cases f with|next=>let#[z,K,Z,M]:=C;exact Y Z M|cont=>let#[z,K,Z,M]:=C;exact Y Z M|brk=>let#[z,K,Z,C]:=C;exact#[z,K,Z.unpinned,C]|ret v=>let#[x7,z,K,Z,r7,C]:=C;exact#[x7,z,K,Z.unpinned,r7,C]
end
end
noncomputable abbrev R2:=V->V->Hp->VK->Prop
def NE(X:Cx)(f:Ju->Ju->Sem Ju)(r:R2):Prop :=
 ∀(h:GB) (s:Jq) (z:St) (H:Hp) (x y:V) (v u:Ju) (Q:VK),Inv X h z H s->lA x v->lA y u->r x y H Q ->
  Jw (jz X.prog X.w) X.A (f v u) (EP X h z Q) X.xe s
def Il(X:Cx)(f:Ju->Sem Ju)(r:V->Hp->VK->Prop):Prop :=
 ∀(h:GB) (s:Jq) (y:St) (H:Hp) (x:V) (v:Ju) (Q:VK),Inv X h y H s->lA x v->r x H Q ->
  Jw (jz X.prog X.w) X.A (f v) (EP X h y Q) X.xe s
def lD(X:Cx)(f:Ju)(r:LV->Hp->VK->Prop):Prop :=
 ∀(h:GB) (s:Jq) (x:St) (H:Hp) (y:LV) (z:LW) (Q:VK),Inv X h x H s->uA y z->r y H Q ->
  Jw (jz X.prog X.w) X.A (vt f z) (EP X h x Q) X.xe s
def ym(X:Cx)(r:V->Hp->(Bool->Hp->Prop)->Prop):Prop :=
 ∀(h:GB) (s:Jq) (y:St) (H:Hp) (x:V) (v:Ju) (Q:Bool->Hp->Prop),Inv X h y H s->lA x v->r x H Q ->
  Jw (jz X.prog X.w) X.A (truthy v) (TP X h y Q) X.xe s
noncomputable def jg(r:R2)(ta z:TE):TE:=λh H Q=>ta h H λx v=>z h v λy u=>r x y u Q
noncomputable def fo(r:V->Hp->VK->Prop)(ta:TE):TE:=λh H Q=>ta h H λx y=>r x y Q
noncomputable def rI(C:Int->Int->Prop)(g:Int->Int->V):R2:=λx y H Q=>∃i j,x=.int i/\y=.int j/\C i j/\Q (g i j) H
noncomputable def R4(g:Int->Int->V):R2:=λx y H Q=>∃i j,x=.int i/\y=.int j/\Q (g i j) H
def rU(g:Int->V):V->Hp->VK->Prop:=λx H Q=>∃i,x=.int i/\Q (g i) H
section
variable{X:Cx}{a b c:Expr}{ta z tc:TE}{pos:Pos}
section
variable{f:Ju->Ju->Sem Ju}{g:Int->Int->Int}
theorem binT(ha:PE X a ta)(hb:PE X b z){k:GB}{s:Jq}{σ:St}{H:Hp}{R:V->V->Hp->Prop}(I:Inv X k σ H s)
  (h:ta σ H λx m=>z σ m λy e=>R x y e) {Q:pB}
  (Y:∀v u l x y e,Inv X k σ e l->lA x v->lA y u->R x y e->Jw (jz X.prog X.w) X.A (f v u) Q X.xe l) :
  Jw (jz X.prog X.w) X.A (kx a X.env) (λv j=>Jw (jz X.prog X.w) X.A (kx b X.env) (λu i=>Jw (jz X.prog X.w) X.A (f v u) Q X.xe i) X.xe j) X.xe s:=by
 refine DB (ha k s σ H _ I h) λv n #[x,m,W,p,r]=>?_;refine DB (hb k n σ m _ W r) λu l #[y,e,Z,o,q]=>?_;exact Y v u l x y e Z p o q
theorem yh{k:kv}{r:R2}(m:NE X (Kq k) r)(ha:PE X a ta)(hb:PE X b z):PE X (.BinOp a k b pos) (jg r ta z):=by intro w s e H Q I h;exact wpAny_BinOp (binT ha hb I h λv u i x y o n l j q=>m w i e o x y v u Q n l j q)
theorem jh{w:y2}{r:V->Hp->VK->Prop}(j:Il X (unaryOp w) r)(ha:PE X a ta):PE X (.UnaryOp w a pos) (fo r ta):=by intro y s u H Q I h;exact UnaryOp_ (DB (ha y s u H _ I h) λv k #[x,m,l,e,i]=>j y k u m x v Q l e i)
theorem Xo{C:Int->Int->Prop}
  (k:∀(i j:Int) (t u:Tok) (s:Jq) (Q:pB) (E:pB),C i j->Q (.int (g i j) s.toks) { s with toks:=s.toks+1 }->Jw (jz X.prog X.w) X.A (f (.int i t) (.int j u)) Q E s) :
  NE X f (rI C λi j=>.int (g i j)):=by
 intro e s o H x y v u Q I n m h;let#[i,j,rfl,rfl,hc,q]:=h;let#[t,rfl]:=n;let#[l,rfl]:=m;exact k i j t l s _ _ hc #[.int (g i j),H,I.tok _,#[_,rfl],q]
theorem bh
  (k:∀(i j:Int) (t u:Tok) (s:Jq) (Q:pB) (E:pB),Q (.int (g i j) s.toks) { s with toks:=s.toks+1 }->Jw (jz X.prog X.w) X.A (f (.int i t) (.int j u)) Q E s) :
  NE X f (R4 λi j=>.int (g i j)):=by
 intro e s o H x y v u Q I n m h;let#[i,j,rfl,rfl,q]:=h;let#[t,rfl]:=n;let#[l,rfl]:=m;exact k i j t l s _ _ #[.int (g i j),H,I.tok _,#[_,rfl],q]
theorem L5{g:Int->Int->Bool}
  (k:∀(i j:Int) (t u:Tok) (s:Jq) (Q:pB) (E:pB),Q (.bool (g i j)) s->Jw (jz X.prog X.w) X.A (f (.int i t) (.int j u)) Q E s) :
  NE X f (R4 λi j=>.bl (g i j)):=by
 intro e s o H x y v u Q I n m h;let#[i,j,rfl,rfl,q]:=h;let#[t,rfl]:=n;let#[l,rfl]:=m;exact k i j t l s _ _ #[.bl (g i j),H,I,rfl,q]
def UK(i j:Int):Prop:=(-(2 ^ 64)<i/\i<2 ^ 64)∨(-(2 ^ 64)<j/\j<2 ^ 64)
theorem UK.ok{i j:Int}(h:UK i j):Xs i j:=by
 rcases h with⟨y,x⟩| ⟨y,x⟩
 exact .of_left (Yw y x);exact .of_right (Yw y x)
theorem op_add:NE X (Kq .Add) (R4 λi j=>.int (i+j)):=bh λ_ _ _ _ _ _ _ q=>add_int q
theorem op_sub:NE X (Kq .Sub) (R4 λi j=>.int (i - j)):=bh λ_ _ _ _ _ _ _ q=>sub_int q
theorem op_mod:NE X (Kq .Mod) (rI (λ_ j=>0<j) λi j=>.int (i % j)):=Xo λi j _ _ _ _ _ hc q=>by have h:(0:Int)<j:=hc;exact mod_int' () (by rw[Int.fmod_eq_emod_of_nonneg i ()];exact q)
theorem uo{f:Ju->Sem Ju}{g:Int->Int}
  (y:∀(i:Int) (t:Tok) (s:Jq) (Q:pB) (E:pB),Q (.int (g i) s.toks) { s with toks:=s.toks+1 }->Jw (jz X.prog X.w) X.A (f (.int i t)) Q E s) :
  Il X f (rU λi=>.int (g i)):=by
 intro u s e H x v Q I k h;let#[i,rfl,q]:=h;let#[t,rfl]:=k;exact y i t s _ _ #[.int (g i),H,I.tok _,#[_,rfl],q]
theorem Ia:Il X (unaryOp .USub) (rU λi=>.int (-i)):=uo λ_ _ _ _ _ q=>neg_int q
end
end
noncomputable def G4:V->V->Bool
 | .non,.non=>Js | .non,.int _=>Js | .int _,.non=>Js | .non,.bl _=>Js | .bl _,.non=>Js | .non,.str _=>Js | .str _,.non=>Js
 | .int _,.int _=>Js | .bl _,.bl _=>Js | .str _,.str _=>Js | .byt _,.byt _=>Js
 | .int _,.str _=>Js | .str _,.int _=>Js | .bl _,.str _=>Js | .str _,.bl _=>Js
 |_,_=>Jt
def rEq:R2:=λx y H Q=>G4 x y=Js/\Q (.bl (decide (x=y))) H
def Ko:R2:=λx y H Q=>G4 x y=Js/\Q (.bl (!decide (x=y))) H
theorem ZU{i j:Int}:decide (V.int i=V.int j)=(i==j):=by rw[qa];simp
theorem A0{i j:Bool}:decide (V.bl i=V.bl j)=(i==j):=by rw[qa];simp
theorem YU{i j:Str}:decide (V.str i=V.str j)=(i==j):=by rw[qa];simp
theorem KU{i j:Array UInt8}:decide (V.byt i=V.byt j)=(i.toList==j.toList):=by rw[qa];cases i;cases j;simp
section
variable{X:Cx}{a b c:Expr}{ta d tc:TE}{pos:Pos}
theorem pA{h:GB}{σ:St}{H:Hp}{s:Jq}{Q:VK}{k x:Bool}(I:Inv X h σ H s)(q:Q (.bl k) H)(e:k=x):EP X h σ Q (.bool x) s:=by subst e;exact#[.bl k,H,I,rfl,q]
theorem op_eq:NE X (jq .Eq) rEq:=by
 intro e s f H x y v u Q I k z h;let#[hs,q]:=h;cases x with
 |non =>
  cases k;cases y with|non=>cases z;exact PySem.EqNone.eq_none_none (pA I q (by simp))|bl j=>cases z;exact PySem.EqNone.eq_none_bool (pA I q (by simp))|int j=>let#[w,rfl]:=z;exact PySem.EqNone.eq_none_int (pA I q (by simp))|str j=>let#[w,rfl]:=z;exact PySem.EqNone.eq_none_str (pA I q (by simp))|_=>exact gJ (show Jt=Js from hs) QF
 |bl i =>
  cases k;cases y with|non=>cases z;exact PySem.EqNone.eq_bool_none (pA I q (by simp))|bl j=>cases z;exact eq_bool (pA I q A0)|str j=>let#[w,rfl]:=z;exact PySem.EqMixed.eq_bool_str (pA I q (by simp))|_=>exact gJ (show Jt=Js from hs) QF
 |int i =>
  let#[t,rfl]:=k;cases y with|non=>cases z;exact PySem.EqNone.eq_int_none (pA I q (by simp))|int j=>let#[w,rfl]:=z;exact eq_int (pA I q ZU)|str j=>let#[w,rfl]:=z;exact PySem.EqMixed.eq_int_str (pA I q (by simp))|_=>exact gJ (show Jt=Js from hs) QF
 |str i =>
  let#[t,rfl]:=k;cases y with|non=>cases z;exact PySem.EqNone.eq_str_none (pA I q (by simp))|bl j=>cases z;exact PySem.EqMixed.eq_str_bool (pA I q (by simp))|int j=>let#[w,rfl]:=z;exact PySem.EqMixed.eq_str_int (pA I q (by simp))|str j=>let#[w,rfl]:=z;exact eq_str (pA I q YU)|_=>exact gJ (show Jt=Js from hs) QF
 |byt i =>
  let#[t,rfl]:=k;cases y with|byt j=>let#[w,rfl]:=z;exact PySem.W.eq_bytes (pA I q KU)|_=>exact gJ (show Jt=Js from hs) QF
 |_=>cases y<;>exact gJ (show Jt=Js from hs) QF
theorem op_ne:NE X (jq .NotEq) Ko:=by
 intro e s f H x y v u Q I k z h;let#[hs,q]:=h;cases x with
 |non =>
  cases k;cases y with|non=>cases z;exact PySem.EqNone.ne_none_none (pA I q (by simp))|bl j=>cases z;exact PySem.EqNone.ne_none_bool (pA I q (by simp))|int j=>let#[w,rfl]:=z;exact PySem.EqNone.ne_none_int (pA I q (by simp))|str j=>let#[w,rfl]:=z;exact PySem.EqNone.ne_none_str (pA I q (by simp))|_=>exact gJ (show Jt=Js from hs) QF
 |bl i =>
  cases k;cases y with|non=>cases z;exact PySem.EqNone.ne_bool_none (pA I q (by simp))|bl j=>cases z;exact ne_bool (pA I q (gV not A0))|str j=>let#[w,rfl]:=z;exact PySem.EqMixed.ne_bool_str (pA I q (by simp))|_=>exact gJ (show Jt=Js from hs) QF
 |int i =>
  let#[t,rfl]:=k;cases y with|non=>cases z;exact PySem.EqNone.ne_int_none (pA I q (by simp))|int j=>let#[w,rfl]:=z;exact ne_int (pA I q (gV not ZU))|str j=>let#[w,rfl]:=z;exact PySem.EqMixed.ne_int_str (pA I q (by simp))|_=>exact gJ (show Jt=Js from hs) QF
 |str i =>
  let#[t,rfl]:=k;cases y with|non=>cases z;exact PySem.EqNone.ne_str_none (pA I q (by simp))|bl j=>cases z;exact PySem.EqMixed.ne_str_bool (pA I q (by simp))|int j=>let#[w,rfl]:=z;exact PySem.EqMixed.ne_str_int (pA I q (by simp))|str j=>let#[w,rfl]:=z;exact ne_str (pA I q (gV not YU))|_=>exact gJ (show Jt=Js from hs) QF
 |byt i =>
  let#[t,rfl]:=k;cases y with|byt j=>let#[w,rfl]:=z;exact PySem.W.ne_bytes (pA I q (gV not KU))|_=>exact gJ (show Jt=Js from hs) QF
 |_=>cases y<;>exact gJ (show Jt=Js from hs) QF
theorem op_lt:NE X (jq .Lt) (R4 λi j=>.bl (decide (i<j))):=L5 λ_ _ _ _ _ _ _ q=>lt_int q
theorem op_le:NE X (jq .LtE) (R4 λi j=>.bl (decide (i<=j))):=L5 λ_ _ _ _ _ _ _ q=>le_int q
theorem op_gt:NE X (jq .Gt) (R4 λi j=>.bl (decide (j<i))):=L5 λ_ _ _ _ _ _ _ q=>gt_int q
theorem op_ge:NE X (jq .GtE) (R4 λi j=>.bl (decide (j<=i))):=L5 λ_ _ _ _ _ _ _ q=>ge_int q
theorem eV:NE X (jq .In) (λx y H Q=>∃i j,x=.str i/\y=.str j/\Q (.bl (!(Wa j i 0 j.9 1).isEmpty)) H):=by intro z s e H x y v u Q I k w h;let#[i,j,rfl,rfl,q]:=h;let#[t,rfl]:=k;let#[f,rfl]:=w;exact in_str (pA I q rfl)
theorem OM:NE X (jq .NotIn) (λx y H Q=>∃i j,x=.str i/\y=.str j/\Q (.bl (!(!(Wa j i 0 j.9 1).isEmpty))) H):=by intro z s e H x y v u Q I k w h;let#[i,j,rfl,rfl,q]:=h;let#[t,rfl]:=k;let#[f,rfl]:=w;exact notIn_str (pA I q rfl)
theorem K5{w:Vr}{r:R2}(i:NE X (jq w) r)(ha:PE X a ta)(hb:PE X b d)(hm:Xz w b=Jt):PE X (.Compare a [w] [b] pos) (jg r ta d):=by intro z s k H Q I h;exact wpAny_Compare1 (binT ha hb I h λv u e x y l j g f q=>i z e k l x y v u Q j g f q) hm
def Af(t:TE):TT:=λh H Q=>t h H λx y=>∃k,x=.bl k/\Q k y
theorem A4{g:Vr}{r:R2}(Y:NE X (jq g) r)(ha:PE X a ta)(hb:PE X b d)(hm:Xz g b=Jt):PT X (.Compare a [g] [b] pos) (Af (jg r ta d)):=by
 intro w s f H Q I h;refine wpAny_isTrue_Compare1 (DB (ha w s f H _ I h) λv j #[x,C,K,n,q]=>DB (hb w j f C _ K q) λu i #[y,B,W,m,p] =>
  DB (Y w i f B x y v u _ W n m p) λc E #[z,A,Z,l,k,e,o]=>?_) hm
 subst e;cases l;exact wu #[A,Z,o]
def Te(K:QE)(x:V)(H:Hp)(k:Bool):Prop :=
 match x with
 | .non=>k=Jt|.bl b=>k=b|.int i=>k=(i != 0)|.str y=>y.9<=jx/\k=((y.9:Int) != 0)|.byt y=>y.size<=jx/\k=((y.size:Int) != 0)|.ref p=>(∃h,uC K H p h/\k=!h.isEmpty)∨(∃h,HC K H p h/\k=!h.isEmpty)∨∃z,H p=Jp (.dK z)/\k=!z.isEmpty|_=>False
theorem NR{κ:Type}{kvs:List (κ×V)}{vs:List (κ×Ju)}(r:KV kvs vs):(!vs.isEmpty)=!kvs.isEmpty:=by cases r<;>rfl
theorem AJ{xs:LV}{its:LW}(r:uA xs its):(!its.toArray.isEmpty)=!xs.isEmpty:=by cases r<;>simp
theorem rG:(jx:Nat)<2 ^ 63:=by rw[qR];decide
theorem fX:ym X (λx H Q=>∃k,Te X.K x H k/\Q k H):=by
 intro Z s E H x v Q I j h;let#[k,e,q]:=h;have hl:=rG;have hs:jx=16777216:=qR;cases x with
 |non=>cases j;have z:k=false:=e;subst z;exact truthy_none #[H,I,q]|bl b=>cases j;have z:k=b:=e;subst z;exact wu #[H,I,q]|int i=>let#[t,rfl]:=j;have z:k=(i != 0):=e;subst z;exact PySem.P.truthy_int #[H,I,q]|str y=>let#[t,rfl]:=j;obtain⟨B,z⟩:y.9<=jx/\k=((y.9:Int) != 0):=e;subst z;exact PySem.P.truthy_str () #[H,I.tok _,q]|byt y=>let#[t,rfl]:=j;obtain⟨B,z⟩:y.size<=jx/\k=((y.size:Int) != 0):=e;subst z;exact PySem.W.truthy_bytes () #[H,I.tok _,q]|ref p =>
  cases j;have z:(∃g,uC X.K H p g/\k=!g.isEmpty)∨(∃g,HC X.K H p g/\k=!g.isEmpty)∨∃u,H p=Jp (.dK u)/\k=!u.isEmpty:=e;rcases z with⟨g,l,z⟩| ⟨g,l,z⟩| ⟨u,l,z⟩
  subst z;let#[Y,r,o,A]:=I.list l;have f:=r.9;exact wpAny_truthy_list o.isList (by simp only[QU];omega) #[H,I.tok _,by rw[AJ r];exact q];subst z;let#[Y,r,o,A]:=I.tuple l;have f:=r.9;exact truthy_tuple o (by simp only[QU];omega) #[H,I.tok _,by rw[AJ r];exact q];subst z;obtain⟨A,C,n,r,m⟩:u.9<=jx/\(p==Kz)=Jt/\∃n,KV u n/\s.1.DictOf (yB X.prog X.w) p n:=I.hok p _ l;have f:u.9=n.length:=qq r;exact wpAny_truthy_dict C m () #[H,I.tok _,by rw[NR r];exact q]
 |_=>exact(show False from e).elim
theorem mR:NE X (Kq .Add) (λx y H Q=>∃i j,x=.str i/\y=.str j/\i.9+j.9<=jx/\Q (.str (i++j)) H):=by intro z s g H x y v u Q I e k h;let#[i,j,rfl,rfl,f,q]:=h;let#[t,rfl]:=e;let#[w,rfl]:=k;exact add_str (λw l=>#[.str (i++j),H,I.tok _,#[_,rfl],q]) f
theorem UG{x:V}{us:LW}(r:uA [x] us):∃u,us=[u]/\lA x u:=by
 cases r with|cons y h=>cases h;exact#[_,rfl,y]
theorem vX{x y:V}{us:LW}(r:uA [x,y] us):∃u h,us=[u,h]/\lA x u/\lA y h:=by
 cases r with
 |cons k w =>
  cases w with|cons v z=>cases z;exact#[_,_,rfl,k,v]
theorem iW(hc:X.calm=Js):lD X (.builtin "max") (λxs H Q=>∃i j,xs=[.int i,.int j]/\Q (.int (if j > i then j else i)) H):=by
 intro y s z H xs w Q I r h;let#[i,j,rfl,q]:=h;let#[u,v,rfl,#[t,rfl],#[f,rfl]]:=vX r;refine max_two_ints (I.ok.hd hc) λg e k=>#[_,H,I.kept k,?_,q]
 by_cases x:j > i;rw[Gw x,Gw x];exact#[_,rfl];rw[Gq x,Gq x];exact#[_,rfl]
end
section
variable{h:js}{u:jy}{v:Str->Option Ju}
structure ObjM(h:js)(x u C:jy)(v:Str->Option Ju):Prop where
 obj:h.get? x=Jp (QCG C u)
 ns:h.Ns1 u v
 ne:u≠x
theorem TV(n:h.Ns1 u v):∃w,h.get? u=Jp w/\∀name,QCf name w=Jp (v name):=by
 let#[o,k,j,f,g,hk,_,hm]:=n;refine#[o,f,λname=>?_];have e:=hm name;unfold nsFind findBy at e;rw[<- Array.find?_toList]at e;unfold QCf;rw[g];dsimp only;split;rename_i y q;rw[q]at e;exact gV Jp e;rename_i q;rw[q]at e;have a:k.toList.any (·.refKey)=false:=by rw[QBc];intro y b;let#[z,t,x]:=hk y (W6.mp b);simp[DictEntry.refKey,x]
 have i:¬ k.toList.any (·.refKey)=true:=by rw[a];exact QF
 rw[Gq i];exact gV Jp e
theorem ObjM.look{x C:jy}(I:ObjM h x u C v):∃y,PySem.W.InstAt h x (QCG C u) C (Jp y)/\∀name,QCf name y=Jp (v name) :=
 let#[y,z,hl]:=TV I.ns
 #[y,#[I.obj,rfl,rfl,z],hl]
end
section
variable{P:jv}{w:jr}{H u:Hp}{h h':js}{a C x:jy}{fs y:List (Str×V)}
theorem S6(k:zJ P w H h)(e:H a=Jp (.ins C x fs)):∃v,ObjM h a x C v/\(∀f,eQ (fs.lookup f) (v f))/\PySem.Within v (fs.map (·.1))/\fs.9<=1000/\H x=Jp (.own a):=by
 let#[d,z,g,b,v,n,r,q]:=(show ZA P w H h a (.ins C x fs) from k a _ e)
 exact#[v,#[b,n,g],r,q,z,d]
end
structure Cls(K:QE)(C:jy):Prop where
 pg:QDf K C Str.empty=Js
 hd:PySem.W.hasDictIn K C=Js
 po:PySem.W.plainOver K C=Js
 sa:PySem.W.findIn K (.ref C) "__setattr__"=Jp (Jp (.builtin "object.__setattr__"))
theorem Cls.get{K:QE}{C:jy}(c:Cls K C)(f:Str):QDf K C f=true:=c.pg
section
variable{X:Cx}{v:GB}{σ:St}{H:Hp}{s:Jq}{A:ju}{E:pB}{Q:pB}{c:Ju}{b:Bool}
inductive TyOf(K:QE)(H:Hp):V->Ju->Prop where
 |non:TyOf K H .non (.type "NoneType")
 |bl (x:Bool):TyOf K H (.bl x) (.type "bool")
 |int (i:Int):TyOf K H (.int i) (.type "int")
 |str (x:Str):TyOf K H (.str x) (.type "str")
 |flt (x:UInt64):TyOf K H (.flt x) (.type "float")
 |lst {a:jy}{xs:LV}(e:H a=Jp (.lst xs)):TyOf K H (.ref a) (.type "list")
 |frz {a:jy}{o:Obj}{xs:LV}(e:H a=Jp (.frz o (.lst xs))):TyOf K H (.ref a) (.type "list")
 |tup {a:jy}{xs:LV}(e:H a=Jp (.tup xs)):TyOf K H (.ref a) (.type "tuple")
 |dK {a:jy}{kvs:List (Key×V)}(e:H a=Jp (.dK kvs)):TyOf K H (.ref a) (.type "dict")
 |dT {a:jy}{ep:Nat}{kvs:List (List Key×jy×V)}(e:H a=Jp (.dT ep kvs)):TyOf K H (.ref a) (.type "dict")
 |ins {a C dx:jy}{fs:List (Str×V)}(e:H a=Jp (.ins C dx fs)) (cl:Cls K C) (ha:PySem.W.findIn K (.ref C) "__class__"=Jp (Jp (.builtin "object.__class__")))
   (hn:PySem.W.specialIn K (.builtin "object.__class__") "__get__"=Jp (Jp (.builtin "getset_descriptor.__get__"))) (htk:PySem.W.takesIn K (.builtin "object.__class__")=Jp Js)
   (hm:PySem.W.mroIn K C (.type "object")=Jp Js):TyOf K H (.ref a) (.ref C)
theorem xW{x:V}{u t:Ju}(I:Inv X v σ H s)(k:lA x u)(ty:TyOf X.K H x t)(e:QCg X.K t c=Jp b)(h:∀B,Q (.bool b) { s with toks:=B }) :
  Jw (jz X.prog X.w) A (vt (.builtin "isinstance") [u,c]) Q E s:=by
 cases ty with
 |non=>cases(show u=Jz from k);exact qg PySem.W.kitx_none I.kIn True.intro e (λz=>nomatch z) h
 |bl y=>cases(show u=Value.bool y from k);exact qg PySem.W.kitx_bool I.kIn True.intro e (λz=>nomatch z) h
 |int i=>let#[t,q]:=(show ∃t,u=Value.int i t from k);cases q;exact qg PySem.W.kitx_int I.kIn True.intro e (λz=>nomatch z) h
 |str y=>let#[t,q]:=(show ∃t,u=Value.str y t from k);cases q;exact qg PySem.W.kitx_str I.kIn True.intro e (λz=>nomatch z) h
 |flt y=>let#[t,q]:=(show ∃t,u=Value.float y t from k);cases q;exact qg PySem.W.kitx_float I.kIn True.intro e (λz=>nomatch z) h
 |@lst a l f =>
  cases(show u=Jv a from k);let#[_,_,n,_,g]:=(show ZA X.prog X.w H s.1 a (.lst l) from I.hok a _ f)
  exact qg QBd I.kIn #[_,g,rfl] e (λz=>nomatch z) h
 |@frz a F l f =>
  cases(show u=Jv a from k);let#[_,_,_,n,_,g]:=(show ZA X.prog X.w H s.1 a (.frz F (.lst l)) from I.hok a _ f)
  exact qg QBd I.kIn #[_,g,rfl] e (λz=>nomatch z) h
 |@tup a l f =>
  cases(show u=Jv a from k);let#[_,_,_,p]:=(show ZA X.prog X.w H s.1 a (.tup l) from I.hok a _ f)
  let#[o,g,m,_]:=p;exact qg QC1 I.kIn #[o,g,m] e (λz=>nomatch z) h
 |@dK a j f =>
  cases(show u=Jv a from k);let#[_,_,N,_,p]:=(show ZA X.prog X.w H s.1 a (.dK j) from I.hok a _ f)
  let#[o,M,Y,g,m,_]:=p;exact qg QDF I.kIn #[o,g,m.1] e (λz=>nomatch z) h
 |@dT a Y j f =>
  cases(show u=Jv a from k);let#[_,_,l,_,o,M,g,m,_]:=(show ZA X.prog X.w H s.1 a (.dT Y j) from I.hok a _ f)
  exact qg QDF I.kIn #[o,g,m.1] e (λz=>nomatch z) h
 |@ins a C S fs f Z L G r hm=>cases(show u=Jv a from k);let#[R,O,_]:=S6 I.hok f;let#[P,J,_]:=O.look;exact qg (PySem.W.kitx_own (Z.get _) Z.hd L G r hm) I.kIn J e (λz=>nomatch z) h
end
section
variable{k:Nat}{A:ju}
structure Room(k:Nat)(A:ju):Prop where
 hd:A.handled=Jr
 dp:A.depth+3 * k+5<recursionLimit
 un:A.units+16 * k+200<Ks
theorem Room.mono{j:Nat}(r:Room k A)(h:j<=k):Room j A:=#[r.hd,by have:=r.dp;omega,by have:=r.un;omega]
theorem Room.deeper(r:Room (k+1) A)(env:Env):Room k (A.deeper env) :=
 #[r.hd,by have:=r.dp;show A.depth+1+3 * k+5<_;omega,by have:=r.un;show A.units+3+16 * k+200<_;omega]
theorem Room.depth(r:Room k A):A.depth<recursionLimit:=by have:=r.dp;omega
def yg:TA:=λ_ H Q=>Q [] H
noncomputable def vg(ta:TE)(z:TA):TA:=λh H Q=>ta h H λx v=>z h v λy u=>Q (x::y) u
end
section
variable{X:Cx}{e:Expr}{es:List Expr}{te:TE}{t:TA}{pos:Pos}
theorem YY:PA X [] yg:=λ_ _ _ _ H Q I h=>WO #[[],H,I,.nil,h]
theorem LM(ha:PE X e te)(g:PA X es t)(hs:jw (e::es) X.env=(Jt,kx e X.env)::jw es X.env:=by rfl):PA X (e::es) (vg te t):=by intro pos y s z H Q I h;rw[hs];show Jw _ _ (v1 ((Jt,kx e X.env)::Vv pos (jw es X.env))) _ _ s;refine Wp (DB (ha y s z H _ I h) λu w #[x,m,j,a,f]=>?_);exact DB (g pos y w z m _ j f) λn o #[v,l,i,k,b]=>#[x::v,l,i,.cons a k,b]
def Pj(t:TA):TE:=λy H Q=>t y H λh x=>h.9<=jx/\∀p,x p=Jr->Q (.ref p) (KA x p (.tup h))
def Ej(t:TA):TE:=λy H Q=>t y H λh x=>h.9<=jx/\∀p,x p=Jr->Q (.ref p) (KA x p (.lst h))
theorem Eb{x1}(h:PA X es t):PE X (.Tuple es x1 pos) (Pj t):=by intro x s k H Q I g;refine wpAny_Tuple_spliced (DB (h pos x s k H _ I g) λf y #[a,w,v,r,z,q]=>#[by rw[<- r.9];exact z,?_]);have i:w y.1.1.size=none:=v.hok.fresh (QV _);refine#[.ref y.1.1.size,KA w y.1.1.size (.tup a),v.laid (t':=y.toks) (λb u e=>QI _ e) (QV _) ?_,rfl,q _ i];exact#[z,f,r,#[_,QO _ rfl,rfl,_,rfl]]
theorem jc(h:PA X es t):PE X (.List es pos) (Ej t):=by intro x s k H Q I g;refine wpAny_List_spliced (DB (h pos x s k H _ I g) λf y #[a,w,v,r,z,q]=>#[by rw[<- r.9];exact z,?_]);have i:w y.1.1.size=none:=v.hok.fresh (QV _);refine#[.ref y.1.1.size,KA w y.1.1.size (.lst a),v.laid (t':=y.toks) (λb u e=>QI _ e) (QV _) ?_,rfl,q _ i];exact#[z,f,0,r,QO _ rfl]
end
noncomputable abbrev Sp:=LV->Hp->VK->XK->Prop
noncomputable abbrev K3:=List Env->Hp->Jq->XK->Ju->Jq->Prop
structure Env0(P:jv)(w:jr)(K:QE)(mg:Str->Option Ju)(base:js)(A:ju)(outer:List Env)(s:Jq)(H:Hp):Prop where
 frames:A.frames=Jp outer
 mod:Mod K mg base
 bs:∀b o,base.get? b=Jp o->s.1.get? b=Jp o/\H b=Jr
 bsz:base.1.size<=s.1.1.size
 funs:s.1.FunFrames base outer
 frf:∀b∈lW outer,H b=Jr
 hok:zJ P w H s.1
 bare:zz s.gens
def CE(outer:List Env)(P:jv)(w:jr)(H:Hp)(s:Jq)(Q:VK)(u:Ju)(s':Jq):Prop :=
 ∃v h,s'.os=s.os/\zz s'.gens/\Un (lW outer) [] H h s.1 s'.1/\zJ P w h s'.1/\lA v u/\Q v h
def CR(h:K3)(outer:List Env)(P:jv)(w:jr)(H:Hp)(s:Jq)(Q:VK)(E:XK)(r:Result)(s':Jq):Prop :=
 match r with
 | .ok (.ret u)=>CE outer P w H s Q u s'|.ok _=>False|.error e=>h outer H s E e s'
structure FnOk(P:jv)(w:jr)(K:QE)(mg:Str->Option Ju)(base:js)(CX:K3)(k:Nat)(f:jy)(fd:Kr)(ps:LS)(sp:Sp):Prop where
 len:∀vs H Q E,sp vs H Q E->vs.9=ps.9
 run:∀(A:ju) (outer:List Env) (s:Jq) (H:Hp) (args:Args) (us:LW) (vs:LV) (Q:VK) (E:XK),Room k A->Env0 P w K mg base A outer s H->Xu s fd args (ps.zip us)->uA vs us->sp vs H Q E ->
  vz (jz P w) A (.call (.ref f) args) (CR CX outer P w H s Q E) s
theorem FnOk.mono{P:jv}{w:jr}{K:QE}{v:Str->Option Ju}{x:js}{b:K3}{j k:Nat}{f:jy}{a:Kr}{u:LS}{z:Sp}(F:FnOk P w K v x b j f a u z)(h:j<=k) :
  FnOk P w K v x b k f a u z:=#[F.len,λA y s H args g e Q E i=>F.run A y s H args g e Q E (i.mono h)]
section
variable{X:Cx}{x:GB}{σ:St}{H:Hp}{s s':Jq}
theorem Inv.env0(I:Inv X x σ H s):Env0 X.prog X.w X.K X.mg X.base X.A X.stack s H :=
 #[I.ok.frames,I.ok.mod,I.bs,Qc I.ok.bsz I.sz,I.stack,I.stkFree,I.hok,I.bare]
theorem Inv.after{Q:VK}{u:Ju}(I:Inv X x σ H s)(h:CE X.stack X.prog X.w H s Q u s'):EP X x σ Q u s':=by let#[v,f,a,bare,un,k,r,q]:=h;let#[e,g,d,t,y]:=s';obtain rfl:y=s.os:=a;exact#[v,f,I.call (h':=e) (g':=g) (d':=d) (t':=t) (ch:=[]) un k bare (λb z=>gJ z (by simp)),r,q]
end
noncomputable def z8(z:Sp)(h:LV)(E:XK)(t:TA):TE:=λx H Q=>t x H λy u=>z (y++h) u Q E
def cG(K:QE)(y:Kr)(x:LS)(ds:LW):Prop :=
 ∀(s:Jq) (h:LW),K.In s.1->(h++ds).9=x.9->Xu s y #[h,[]] (x.zip (h++ds))
theorem cG.all{K:QE}{y:Kr}{x:LS}(h:∀us:LW,us.9=x.9->vu y #[us,[]]=Gu (x.zip us)):cG K y x []:=λs us _ hl=>by rw[wK]at hl ⊢;exact .of_eq (h us hl)
def iK(z:K3)(X:Cx)(E:XK):Prop:=∀(h:GB) (y:St) (H:Hp) (s:Jq) (e:Ju) (x:Jq),Inv X h y H s->z X.stack H s E e x->X.xe e x
section
variable{X:Cx}{b:K3}{k:Nat}{f C:jy}{a:Kr}{z:LS}{v:Sp}{y:LV}{ds:LW}{E:XK}{x m:Str}{p pos apos:Pos}{e o:Expr}{es:List Expr}{ta:TE}{t:TA}
theorem MX{g:GB}{σ:St}{H:Hp}{s:Jq}{Q:VK}{us:LW}{vs:LV}(F:FnOk X.prog X.w X.K X.mg X.base b k f a z v)(q:Room k X.A)(hb:cG X.K a z ds)(Y:uA y ds)(n:iK b X E)
  (I:Inv X g σ H s) (r:uA vs us) (h:v (vs++y) H Q E):Jw (jz X.prog X.w) X.A (vt (.ref f) us) (EP X g σ Q) X.xe s:=by
 have j:uA (vs++y) (us++ds):=r.append Y;have hl:(us++ds).9=z.length:=by rw[<- j.9];exact F.len _ _ _ _ h
 refine QD5 (QAL (F.run X.A X.stack s H #[us,[]] (us++ds) (vs++y) Q E q I.env0 (hb s us I.kIn hl) j h) λr l i=>?_);cases r with
 |error e=>exact n g σ H s e l I i|ok fl =>
  cases fl with|ret u=>exact I.after i|next=>exact Qh i|brk=>exact Qh i|cont=>exact Qh i
theorem V5(F:FnOk X.prog X.w X.K X.mg X.base b k f a z v)(Y:Room k X.A)(Z:Gl X x)(hm:X.mg x=Jp (.ref f))(hk:Wm X.K (.ref f)=Js)(hb:cG X.K a z ds)(G:uA y ds)(n:iK b X E)
  (ha:PA X (e::es) t) (i:(x==("__debug__":Str))=false:=by decide) (B:jw (e::es) X.env=(Jt,kx e X.env)::jw es X.env:=by rfl) (g:(Vv pos (jw es X.env)).any (·.1)=false:=by rfl) :
  PE X (.Call (.Name x p) (e::es) [] pos) (z8 v y E t):=by
 intro u s l H Q I h;refine wL (lN I Z hm ?_ i);refine PySem.W.callWith_K (h₀:=X.base) I.ok.mod.kin hk (DB (ha pos u s l H _ I h) λL M #[J,N,j,r,q]=>#[j.kIn,?_]) B g;exact MX F Y hb G n j r q
theorem aY(F:FnOk X.prog X.w X.K X.mg X.base b k f a z v)(j:Room k X.A)(l:Gl X x)(hm:X.mg x=Jp (.ref f))(hk:Wm X.K (.ref f)=Js)(hb:cG X.K a z ds)(n:uA y ds)(i:iK b X E)
  (u:(x==("__debug__":Str))=false:=by decide):PE X (.Call (.Name x p) [] [] pos) (z8 v y E yg):=by
 intro g s q H Q I h;refine wL (lN I l hm ?_ u);exact PySem.W.callWith_K0 I.kIn hk (MX (us:=[]) F j hb n i I .nil h)
end
section
variable{X:Cx}{c:K3}{k:Nat}{f C:jy}{b:Kr}{v ks:LS}{u:Sp}{E:XK}{x m:Str}{p pos apos h:Pos}{e o:Expr}{es:List Expr}{y:List v2}{te ta:TE}{t z:TA}{w:Option Str}
variable{g:LW->LW->LW}{a:LV->LV->LV}
end
section
variable{l:K3}{P:jv}{w:jr}{mg:Str->Option Ju}{base:js}{j:LS}{g:Str}{d:Kw}{f:jy}
structure FnScope(N P:LS)(sc:Kw):Prop where
 kind:sc.kind=.function
 co:sc.isCoroutine=Jt
 gen:sc.isGenerator=Jt
 nd:N.Nodup
 pre:N.take P.9=P
 par:∀x∈P,sc.names.lookup x=Jp .local∨sc.names.lookup x=Jp .cell
 nofree:∀y∈sc.names,y.2≠.free
theorem RL{y:Str->Option kf}{x:Str}:∀{binds:List (Str×Ju)}{m:Str->Option Ju},(∀v,(x,v)∉binds)->x0 y binds m x=m x
 |[],_,_=>rfl|(n,v)::r,m,h=>by
  unfold x0;rw[RL λw z=>h w (QC _ z)];split;have:x≠n:=by rintro rfl;exact h v QD
  simp[this];rfl
theorem TL{y:Str->Option kf}{x:Str}:∀{binds:List (Str×Ju)}{m:Str->Option Ju},(∀v,(x,v)∉binds)->x2 y binds m x=m x
 |[],_,_=>rfl|(n,v)::r,m,h=>by
  unfold x2;rw[TL λw z=>h w (QC _ z)];split;rfl;have:x≠n:=by rintro rfl;exact h v QD
  simp[this]
theorem SL{y:Str->Option kf}{x:Str}{v:Ju}:∀{P:LS}{vs:LW}{i:Nat}{m:Str->Option Ju},P.Nodup->P[i]?=Jp x->vs[i]?=Jp v->y x=Jp .local ->
  x0 y (P.zip vs) m x=Jp v
 |[],_,_,_,_,h,_,_=>by simp at h|_::_,[],_,_,_,_,h,_=>by simp at h|p::P,w::vs,0,m,nd,h1,h2,hk=>by simp at h1 h2;subst h1;subst h2;show x0 y ((p,w)::P.zip vs) m p=_;unfold x0;rw[RL λv hv=>(Qa.mp nd).1 (QCH hv).1,Gw hk];simp|p::P,w::vs,i+1,m,nd,h1,h2,hk=>by show x0 y ((p,w)::P.zip vs) m x=_;unfold x0;exact SL (i:=i) (Qa.mp nd).2 (by simpa using h1) (by simpa using h2) hk
theorem AL{y:Str->Option kf}{x:Str}{v:Ju}:∀{P:LS}{vs:LW}{i:Nat}{m:Str->Option Ju},P.Nodup->P[i]?=Jp x->vs[i]?=Jp v->y x≠Jp .local ->
  x2 y (P.zip vs) m x=Jp v
 |[],_,_,_,_,h,_,_=>by simp at h|_::_,[],_,_,_,_,h,_=>by simp at h|p::P,w::vs,0,m,nd,h1,h2,hk=>by simp at h1 h2;subst h1;subst h2;show x2 y ((p,w)::P.zip vs) m p=_;unfold x2;rw[TL λv hv=>(Qa.mp nd).1 (QCH hv).1,Gq hk];simp|p::P,w::vs,i+1,m,nd,h1,h2,hk=>by show x2 y ((p,w)::P.zip vs) m x=_;unfold x2;exact AL (i:=i) (Qa.mp nd).2 (by simpa using h1) (by simpa using h2) hk
noncomputable def nD(N:LS)(vs:LV):St:=vs.map Jp++Q8 (N.9 - vs.9) Jr
noncomputable def cS(l:K3)(P:jv)(w:jr)(K:QE)(mg:Str->Option Ju)(base:js)(N:LS)(g:Str)(d:Kw)(f:jy)(x:Ju)(A:ju)(outer:List Env)(s:Jq)(H:Hp)(E:XK):Cx where
 prog:=P
 w:=w
 K:=K
 mg:=mg
 base:=base
 A:=A.deeper (zp g d s.1.1.size f x)
 N:=N
 s₀:=s
 H₀:=H
 env:=zp g d s.1.1.size f x
 outer:=outer
 stack:=zp g d s.1.1.size f x::outer
 ex:=[]
 calm:=Js
 fn:=λ_=>Js
 pn:=[]
 xe:=λe y=>Jw (jz P w) (A.deeper (zp g d s.1.1.size f x)) (leaving (zp g d s.1.1.size f x) e) (λ_ h=>l outer H s E e h) (λz h=>l outer H s E z h) y
theorem cQ{sc:Kw}{n:Nat}{x:Str}(h:sc.names.lookup x=Jp .cell):∃c,(Kv n sc.names []).lookup x=Jp c:=by have q:=Wn sc.names n [] (.inl h);exact WP.mp q
theorem uW{K:QE}{N:LS}{F:Ju}{A:ju}{outer:List Env}{s G:Jq}{H:Hp}{E:XK}{us:LW}{vs:LV}
  (S:FnScope N j d) (M:A.handled=Jr) (o:Env0 P w K mg base A outer s H) (hl:vs.9=j.9) (r:uA vs us)
  (x:InCallC s s.1.1.size (x0 (zp g d s.1.1.size f F).kindOf (j.zip us) λ_=>Jr) (Kv (s.1.1.size+1) d.names []) (x2 (zp g d s.1.1.size f F).kindOf (j.zip us) λ_=>Jr) G) :
  Inv (cS l P w K mg base N g d f F A outer s H E) [] (nD N vs) H G:=by
 have L:j.9<=N.length:=by have:=gV wm S.pre;rw[Wf]at this;omega
 let#[C,Q,rfl,hk]:=x.done;have X:∀b:jy,b∉(cS l P w K mg base N g d f F A outer s H E).ex:=λb z=>gJ (show b∈([]:List jy) from z) (by simp);refine#[#[o.mod,S.kind,rfl,rfl,QV _,λy z c C m=>?_,λy Y=>?_,λy c _ h=>?_,λ_=>M,Around.frames_deeper o.frames,.inr #[rfl,rfl],λb z=>gJ z (X b),o.bs,o.bsz,λb _ _=>X b,λb z=>gJ z (X b),o.funs,o.frf],
  rfl,o.bare,Un.kept hk,#[_,x.toInCall.ns,λi y v C m R=>?_],λy c h=>#[_,x.cell y c h],o.hok.fresh (QV _),λy c h=>?_,λp W=>gJ (show p∈([]:GB) from W) (by simp),o.hok.kept hk,?_]
 exact name_of_addr x.apart (Q4 C) (Q4 m);have Y:d.names.lookup y=Jp .cell∨d.names.lookup y=Jp .free:=Y;rcases Y with Y|Y;exact cQ Y;exact gJ rfl (S.nofree _ (Q4 Y));exact QAs (x.above y c (Q4 h));have B:i<vs.length:=by unfold nD at m;by_cases B:i<vs.9;exact B;rw[Qx (by simpa using B)]at m;rw[Wb]at m;split at m<;>cases m
 have O:vs[i]?=Jp v:=by
  unfold nD at m;rw[qJ (by simpa using B),Qg]at m;cases e:vs[i]? with|none=>rw[e]at m;cases m|some a=>rw[e]at m;cases m;rfl
 let#[u,I,J]:=r.get O;have W:j[i]?=Jp y:=by rw[<- S.pre,QAM ()];exact C
 have Z:j.Nodup:=by rw[<- S.pre];exact S.nd.sublist (List.take_sublist _ _)
 refine#[u,J,?_];rcases S.par y (Qq W) with k|k;exact .inl #[k,SL Z W I k];let#[c,e]:=cQ (n:=s.1.1.size+1) k;refine .inr #[.inl k,c,e,?_];have q:=x.cell y c e;rw[AL Z W I (by show d.names.lookup y≠_;rw[k];decide)]at q;exact q;exact o.hok.fresh (QAs (x.above y c (Q4 h)));unfold nD;show _=N.9;rw[QN,QG,wF];omega
theorem Th{K:QE}{k:Nat}{name:Str}{z:Arguments}{body:List Ku}{dV kV Z pm h ct oc:Ju}{an od:Option jy}
  {G:Array (Option Ju)}{N:LS}{B:Sp}(lk:K.lookup f=Jp #[oc,od,.func (wr name g z body d dV kV Z pm an h ct),G]) (O:QBU K h g=Js) (S:FnScope N j d)
  (len:∀vs H Q E,B vs H Q E->vs.9=j.9)
  (p:∀(A:ju) (outer:List Env) (s:Jq) (H:Hp) (vs:LV) (Q:VK) (E:XK),Room k (A.deeper (zp g d s.1.1.size f h))->B vs H Q E ->
   ∃t,XS (cS l P w K mg base N g d f h A outer s H E) body t/\t { nx:=λ_ i=>Q .non i,rt:=Q } (nD N vs) H) :
  FnOk P w K mg base l (k+1) f (wr name g z body d dV kV Z pm an h ct) j B:=by
 refine#[len,λA outer s H args us vs Q E M Y hb r X=>?_];have hl:=len _ _ _ _ X;have KX:K.In s.heap:=Y.mod.kin.keeps λb o e=>(Y.bs b o e).1;have L:s.1.NoLimit:=Y.mod.nolimit.keeps λb o e=>(Y.bs b o e).1;have m:∀y∈j.zip us,d.names.lookup y.1=Jp .local∨(d.names.lookup y.1=Jp .cell/\((Kv (s.1.1.size+1) d.names []).lookup y.1).isSome=Js):=λ#[n,v] hy=>by rcases S.par n (QCH hy).1 with q|q;exact .inl q;exact .inr #[q,Wn _ _ _ (.inl q)]
 refine codeAny_call_function M.depth (KX _ _ lk) rfl S.co S.gen rfl (PySem.W.codeRec_of KX O) (hb _ _ _ _ ?_);refine wpAny_newFunctionEnv_cells S.kind m λenv he R x=>?_;subst he;refine#[L.keeps x.toInCall.keep,codeAny_func ?_];let#[t,ht,hq]:=p A outer s H vs Q E (M.deeper _) X;have I:Inv (cS l P w K mg base N g d f h A outer s H E) [] (nD N vs) H R:=uW S M.hd Y hl r x;refine WE (ht [] R (nD N vs) H _ I hq) (λfl C hs=>?_) λe C hs=>hs;have fin:∀{a:St}{i:Hp}{v:V}{u:Ju},Inv (cS l P w K mg base N g d f h A outer s H E) [] a i C->lA v u->Q v i->CE outer P w H s Q u C :=
  λ{a i v u} J F q=>#[v,i,J.os,J.bare,J.base,J.hok,F,q]
 cases fl with|ret u=>let#[v,a,i,J,F,q]:=hs;exact fin J F q|next=>let#[a,i,J,q]:=hs;exact fin (v:=V.non) (u:=Jz) J rfl q|brk=>let#[_,_,_,q]:=hs;exact Qh q|cont=>let#[_,_,_,q]:=hs;exact Qh q
end
section
variable{X:Cx}{x:Str}{p pos:Pos}{e:Expr}{es:List Expr}{t:TA}{id T:String}{r:LV->Hp->VK->Prop}
noncomputable def Cm(r:LV->Hp->VK->Prop)(t:TA):TE:=λh H Q=>t h H λy z=>r y z Q
theorem RO(hc:lD X (.builtin id) r)(i:Gl X x)(hm:X.mg x=Jr)(hv:Kp x=Jp (.builtin id))(ha:PA X (e::es) t)(g:x≠"__name__":=by decide)(u:(x==("__debug__":Str))=false:=by decide)
  (j:jw (e::es) X.env=(Jt,kx e X.env)::jw es X.env:=by rfl) (z:(Vv pos (jw es X.env)).any (·.1)=false:=by rfl):PE X (.Call (.Name x p) (e::es) [] pos) (Cm r t):=by
 intro y s v H Q I h;refine wL (rE I i hm hv ?_ g u);exact WY (DB (ha pos y s v H _ I h) λk a #[w,m,l,b,f]=>hc y a v m w k Q l b f) j z
theorem tV(hc:lD X (.type T) r)(i:Gl X x)(hm:X.mg x=Jr)(hv:Kp x=Jp (.type T))(ha:PA X (e::es) t)(g:x≠"__name__":=by decide)(u:(x==("__debug__":Str))=false:=by decide)
  (j:jw (e::es) X.env=(Jt,kx e X.env)::jw es X.env:=by rfl) (z:(Vv pos (jw es X.env)).any (·.1)=false:=by rfl):PE X (.Call (.Name x p) (e::es) [] pos) (Cm r t):=by
 intro y s v H Q I h;refine wL (rE I i hm hv ?_ g u);exact wM (DB (ha pos y s v H _ I h) λk a #[w,m,l,b,f]=>hc y a v m w k Q l b f) j z
end
end L2
namespace HT
open PySem PyProof.Rows
section
open PySem.SeqAt
open PySem.AutoSeq1 (wpAny_loadPart')
open PySem.MeetsSeq PySem.MeetsSeq2 PySem.MeetsSeq3
end
section
variable{prog:jv}{w:jr}{A:ju}{E:pB}{s:Jq}
section
variable{t sl:jy}{Q:pB}{a u:Ju}{y z:Option Int}
theorem cat_tup{b:jy}{vs ws:LW}(q:IsTup s.1 t vs.toArray)(hb:IsTup s.1 b ws.toArray)(hv:vs≠[])
  (X:ws=[]->Q (.ref t) s) (r:ws≠[]->Q (.ref s.1.1.size) { s with heap:=s.1.push { cls:=.type "tuple",data:=.seq (vs++ws).toArray } })
  (hsz:vs.9+ws.9<=jx):Jw (jz prog w) A (Kq .Add (.ref t) (.ref b)) Q E s:=by
 let#[#[cls,o,data,sl],i,hc,n,m]:=id q;let#[#[p,f,j,x],h,k,l,v]:=id hb;simp only at hc m k v;subst hc m k v;have e:vs.toArray++ws.toArray=(vs++ws).toArray:=by simp
 by_cases g:ws=[];exact QDU #[_,i,rfl] #[_,h,rfl] QDg yx QB8 QBs (QBe _ _)
  (tuple_addW1 t b vs.toArray ws.toArray n l o f sl x (by simpa using hv) (by simp[g])) #[i,h,X g]
 refine QDU #[_,i,rfl] #[_,h,rfl] QDg yx QB8 QBs (QBe _ _)
  (tuple_addW2 t b vs.toArray ws.toArray n l o f sl x (by simpa using hv) (by simpa using g) (by rw[QU,QU];exact hsz)) #[i,h,?_]
 rw[e];exact r g
noncomputable def sIx(n d:Nat):Option Int->Nat
 |none=>d|some v=>if v<0 then(v+(n:Int)).toNat else min v.toNat n
theorem Kb(n d:Nat)(h:d<=n)(o:Option Int):sIx n d o<=n:=by
 cases o with|none=>exact h|some v=>show(if v<0 then(v+(n:Int)).toNat else min v.toNat n)<=n;by_cases hv:v<0;rw[Gw hv];omega;rw[Gq hv];exact Nat.min_le_right _ _
theorem UU(v:Int)(n d:Nat):(if v<0 then max (v+(n:Int)) 0 else min v (n:Int))=((sIx n d (Jp v):Nat):Int):=by show(if v<0 then max (v+(n:Int)) 0 else min v (n:Int))=(((if v<0 then(v+(n:Int)).toNat else min v.toNat n):Nat):Int);by_cases hv:v<0;simp only[Gw hv];omega;simp only[Gq hv];omega
theorem VS(y z:Option Int)(n:Nat):W9 y z 1 (n:Int)=(((sIx n 0 y:Nat):Int),((sIx n n z:Nat):Int)):=by
 have h:¬ ((1:Int)<0):=()
 unfold W9;simp only[h,if_false];refine QEA ?_ ?_;cases y with|none=>rfl|some v=>exact UU v n 0
 cases z with|none=>rfl|some v=>exact UU v n n
theorem gR(i j:Nat):WJ (i:Int) (j:Int) 1=j - i:=by
 unfold WJ;have h:(1:Int) > 0:=()
 simp only[h,if_true,Int.ediv_one];split<;>omega
theorem pJ{v:Ju}{o:Option Int}{Q:Option Int->Jq->Prop}(p:Xv v o)(h:Q o s):Jw (jz prog w) A (Builtin.Slice.slicePartIndex v) Q E s:=by
 cases p with|none=>exact zq h|int i t=>exact slicePart_int h
theorem HH{n:Nat}{Q:Int×Int×Nat->Jq->Prop}(hs:s.1.IsSliceOf sl a u .none)(e:Xv a y)(b:Xv u z)
  (h:Q (((sIx n 0 y:Nat):Int),1,sIx n n z - sIx n 0 y) s):Jw (jz prog w) A (QBK (.ref sl) (Gu (n:Int))) Q E s:=by
 let#[g,v,f,k]:=id hs;unfold QBK Builtin.Slice.sliceFields;refine QA (QA (WK v k (x:=a) rfl (QA (WK v k (x:=u) rfl (QA (WK v k (x:=.none) rfl (QH ?_)))))));refine QA (zq ?_);show Jw _ _ (if((1:Int)==0)=Js then _ else _) _ _ s;rw[Gq (by decide)];refine QA (pJ e (QA (pJ b (QA (QH ?_)))));show Jw _ _ (match W9 y z 1 (n:Int) with | (y,z)=>Gu (y,(1:Int),WJ y z 1)) _ _ s;rw[VS y z n];show Jw _ _ (Gu (((sIx n 0 y:Nat):Int),(1:Int),WJ ((sIx n 0 y:Nat):Int) ((sIx n n z:Nat):Int) 1)) _ _ s;rw[gR];exact QH h
theorem mY(xs:Array Ju)(i k:Nat):((Qj k).filterMap λ(m:Nat)=>xs[((i:Int)+(m:Int) * 1).toNat]?).toArray=((xs.toList.drop i).take k).toArray:=by
 have e:(λ(m:Nat)=>xs[((i:Int)+(m:Int) * 1).toNat]?)=λm=>xs[i+m]?:=by
  funext m;have:((i:Int)+(m:Int) * 1).toNat=i+m:=()
  rw[this]
 rw[e];have:=pick_run xs i k;rw[QC2]at this;have h:((λx=>xs[x]?)∘λx=>i+x)=λm=>xs[i+m]?:=rfl;rw[h]at this;rw[this]
theorem getItem_tuple_cut{x:Array Ju}(k:IsTup s.1 t x)(hs:s.1.IsSliceOf sl a u .none)(j:Xv a y)(i:Xv u z)
  (n:¬ (sIx x.size 0 y=0/\sIx x.size x.size z=x.size))
  (h:Q (.ref s.1.1.size) { s with heap:=s.1.push { cls:=.type "tuple",data:=.seq ((x.toList.drop (sIx x.size 0 y)).take (sIx x.size x.size z - sIx x.size 0 y)).toArray } })
  (hsz:x.size<=jx):Jw (jz prog w) A (Xq (.ref t) (.ref sl)) Q E s:=by
 have v:sizeOk (.seq ((x.toList.drop (sIx x.size 0 y)).take (sIx x.size x.size z - sIx x.size 0 y)).toArray):=by show((x.toList.drop (sIx x.size 0 y)).take (sIx x.size x.size z - sIx x.size 0 y)).toArray.size<=jx;rw[QU,Wf,QAF,QM];omega
 have X:sIx x.size x.size z<=x.size:=Kb _ _ (QV _) z;let#[l,b,f,o]:=id hs;have g:s.TypeIs (.ref sl) "slice":=#[l,b,f]
 unfold Xq
 try with_reducible refine qG ?_
 first|refine QA (QH ?_)|skip
 refine QA (wpAny_sequenceKey k.typeIs (by decide) ?_);refine QA (qW (name:=Qz "__getitem__") k.typeIs WQ
  (Q5 WQ k.typeIs entry_tuple_getitem ?_ (args_tuple_getitem _ _)))
 show Jw _ _ (QBL (.ref t) >>= _) _ _ s;refine QA (tupleItemsOf_ k ?_);refine QA (Wt g ?_);rw[Gw (by decide)];refine QA (HH hs j i ?_);have e:¬ ((((sIx x.size 0 y:Nat):Int)==0&&(1:Int)==1&&(sIx x.size x.size z - sIx x.size 0 y)==x.size)=Js):=by intro q;rw[Qf,Qf]at q;have r:((sIx x.size 0 y:Nat):Int)=0:=qu q.1.1;have p:sIx x.size x.size z - sIx x.size 0 y=x.size:=qu q.2;exact n #[(),()]
 show Jw _ _ (if(((sIx x.size 0 y:Nat):Int)==0&&(1:Int)==1&&(sIx x.size x.size z - sIx x.size 0 y)==x.size)=Js then _ else _) _ _ s;rw[Gq e,mY];first
  |exact QA (m:=WR _) (Qu (QH #[_,rfl,QH h]) v)
  |exact QA (m:=WR _) (Qu (QA (QH (QH #[_,rfl,QH h]))) v)
  |exact QA (QA (m:=WR _) (Qu (QH (QH #[_,rfl,QH h])) v))
  |exact QA (QA (m:=WR _) (Qu (QH #[_,rfl,QH h]) v))
end
end
end HT
namespace L2
open PySem PySem.Spec PyProof.Rows
noncomputable abbrev TO:=St->Hp->(Option Int->Hp->Prop)->Prop
def PO(X:Cx)(e:Option Expr)(t:TO):Prop :=
 ∀(h:GB) (s:Jq) (x:St) (H:Hp) (Q:Option Int->Hp->Prop),Inv X h x H s->t x H Q ->
  Jw (jz X.prog X.w) X.A (evalPart e X.env) (λu z=>∃o y,Inv X h x y z/\Xv u o/\Q o y) X.xe s
def J4:TO:=λ_ H Q=>Q Jr H
noncomputable def Ef(t:TE):TO:=λh H Q=>t h H λx y=>∃i,x=.int i/\Q (Jp i) y
section
variable{X:Cx}{e:Expr}{te:TE}{k c:Option Expr}{d f:TO}{pos p2:Pos}
theorem v5:PO X Jr J4:=by intro x s y H Q I h;rw[yy];exact QH #[Jr,H,I,.none,h]
theorem k5(h:PE X e te):PO X (Jp e) (Ef te):=by intro y s z H Q I a;rw[evalPart_some];refine DB (h y s z H _ I a) λu j #[x,g,b,v,w]=>?_;let#[i,rfl,q]:=w;let#[t,rfl]:=v;exact#[Jp i,g,b,.int i t,q]
def Uj(X:Cx)(r:V->Option Int->Option Int->Hp->VK->Prop):Prop :=
 ∀(h:GB) (s:Jq) (y:St) (H:Hp) (x:V) (v u z:Ju) (k c:Option Int) (a:jy) (Q:VK),Inv X h y H s->lA x v->s.1.IsSliceOf a u z .none->Xv u k->Xv z c->r x k c H Q ->
  ∃T id,typeLookup (.type T) "__getitem__"=Gu (Jp (.builtin id))/\s.TypeIs v T/\Jw (jz X.prog X.w) X.A (Xq v (.ref a)) (EP X h y Q) X.xe s
noncomputable def mo(r:V->Option Int->Option Int->Hp->VK->Prop)(te:TE)(d f:TO):TE:=λh H Q=>te h H λx v=>d h v λl z=>f h z λu y=>r x l u y Q
theorem oY{r:V->Option Int->Option Int->Hp->VK->Prop}(E:Uj X r)(G:PE X e te)(hl:PO X k d)(B:PO X c f):PE X (.Subscript e (.Slice k c Jr p2) pos) (mo r te d f):=by intro y s a H Q I h;refine Subscript_ (DB (G y s a H _ I h) λv n #[x,R,O,o,Z]=>?_);refine wpAny_Slice (DB (hl y n a R _ O Z) λi m #[l,P,N,K,Y]=>DB (B y m a P _ N Y) λg z #[u,j,M,W,p]=>?_);rw[yy];refine QH ?_;have L:Inv X y a j { z with heap:=z.1.push { cls:=.type "slice",data:=.fields (WZ [i,g,.none]) } }:=M.kept (t':=z.toks) λb S q=>QI _ q;let#[T,id,J,C,F]:=E y { z with heap:=z.1.push { cls:=.type "slice",data:=.fields (WZ [i,g,.none]) } } a j x v i g l u z.1.1.size Q L o (Heap.IsSliceOf.new ..) K W p;show Jw (jz X.prog X.w) X.A (Gz e (.Slice k c Jr p2) v (.ref z.1.1.size)) (EP X y a Q) X.xe { z with heap:=z.1.push { cls:=.type "slice",data:=.fields (WZ [i,g,.none]) } };exact tail_any (ops:=[.ref z.1.1.size,v]) C J F (by with_unfolding_all rfl)
noncomputable def jQ(xs:LV)(k c:Option Int):LV:=(xs.drop (HT.sIx xs.9 0 k)).take (HT.sIx xs.9 xs.9 c - HT.sIx xs.9 0 k)
theorem eI(xs:LV)(k c:Option Int):(jQ xs k c).9<=xs.length:=by unfold jQ;rw[Wf,QAF];omega
def Dg(K:QE):V->Option Int->Option Int->Hp->VK->Prop:=λx k c H Q=>∃a h,x=.ref a/\HC K H a h /\
 ¬ (HT.sIx h.9 0 k=0/\HT.sIx h.9 h.9 c=h.9)/\∀p,H p=Jr->Q (.ref p) (KA H p (.tup (jQ h k c)))
theorem ub:Uj X (Dg X.K):=by
 intro w s Y H x v W Z k c A Q I j hs m l h;let#[a,z,rfl,n,p,q]:=h;cases j;let#[u,r,i,g]:=I.tuple n;have y:u.toArray.size=z.length:=by rw[QU];exact r.length.symm
 refine#["tuple",_,WQ.lookup,i.typeIs,?_];refine HT.getItem_tuple_cut i hs m l (by rw[y];exact p) ?_ (by rw[y];exact g);rw[y];refine#[.ref s.1.1.size,_,I.laid (t':=s.toks) (o:=.tup (jQ z k c)) (λb B q=>QI _ q) (QV _) ?_,rfl,q _ (I.hok.fresh (QV _))];exact#[Qc (eI z k c) g,_,(r.drop (HT.sIx z.9 0 k)).take (HT.sIx z.9 z.9 c - HT.sIx z.9 0 k),QEE _ _]
def f8(K:QE):R2:=λx y H Q=>∃a b z h,x=.ref a/\y=.ref b/\HC K H a z/\HC K H b h/\z≠[]/\z.9+h.9<=jx /\
 (h=[]->Q (.ref a) H)/\(h≠[]->∀p,H p=Jr->Q (.ref p) (KA H p (.tup (z++h))))
theorem uA.nil_iff{xs:LV}{us:LW}(r:uA xs us):us=[]↔xs=[]:=by
 cases r with|nil=>simp|cons _ _=>simp
theorem G5:NE X (Kq .Add) (f8 X.K):=by intro j s F H x y v u Q I Y r h;let#[a,b,p,n,rfl,rfl,E,hb,C,m,W,Z]:=h;cases Y;cases r;let#[B,i,A,_]:=I.tuple E;let#[l,g,p2,_]:=I.tuple hb;refine HT.cat_tup A p2 (λz=>C (i.nil_iff.mp z)) (λz=>#[.ref a,H,I,rfl,W (g.nil_iff.mp z)]) (λz=>?_) (by rw[<- i.9,<- g.9];exact m);refine#[.ref s.1.1.size,_,I.laid (t':=s.toks) (o:=.tup (p++n)) (λb G q=>QI _ q) (QV _) ?_,rfl,Z (λw=>z (g.nil_iff.mpr w)) _ (I.hok.fresh (QV _))];exact#[by rw[QN];exact m,_,i.append g,QEE _ _]
end
noncomputable def dO(n:Nat)(i:Int):Option Nat:=if 0<=i then(if i<n then Jp i.toNat else Jr) else if -(n:Int)<=i then Jp (i+n).toNat else Jr
def BE{α:Type}(xs:List α)(i:Int):Option α:=(dO xs.9 i).bind λj=>xs[j]?
theorem nN{n:Nat}{i:Int}{j:Nat}(h:dO n i=Jp j):seqIndex? i n=Jp j/\j<n/\-(n:Int)<=i/\i<n:=by unfold dO at h;by_cases h0:0<=i;rw[Gw h0]at h;by_cases x:i<n;rw[Gw x]at h;have e:i.toNat=j:=Qy h;exact#[by rw[QDt h0 x,e],(),(),x];rw[Gq x]at h;cases h;rw[Gq h0]at h;by_cases x:-(n:Int)<=i;rw[Gw x]at h;have e:(i+n).toNat=j:=Qy h;exact#[by rw[QDV () x,e],(),x,()];rw[Gq x]at h;cases h
theorem AN{α:Type}{xs:List α}{i:Int}{v:α}(h:BE xs i=Jp v):∃j,seqIndex? i xs.9=Jp j/\xs[j]?=Jp v/\j<xs.9/\-(xs.9:Int)<=i/\i<xs.length:=by
 unfold BE at h;cases e:dO xs.9 i with|none=>rw[e]at h;cases h|some j=>rw[e]at h;let#[u,z,y,x]:=nN e;exact#[j,u,h,z,y,x]
theorem SN{α:Type}{xs:List α}{j:Nat}{v:α}(h:xs[j]?=Jp v):BE xs (j:Int)=Jp v:=by
 have x:j<xs.length:=(Qb.mp h).1;have e:dO xs.9 (j:Int)=Jp j:=by unfold dO;rw[Gw (),Gw ()];simp
 unfold BE;rw[e];exact h
def LU(b:Expr):Prop:=∀o i,subscripted b Jt o i=operate [o,i] (Xq o i)
def j3(X:Cx)(r:R2):Prop :=
 ∀(k h:Expr) (z:GB) (s:Jq) (a:St) (H:Hp) (x y:V) (v u:Ju) (Q:VK),Inv X z a H s->lA x v->lA y u->r x y H Q ->
  subscripted h Jt v u=operate [v,u] (Xq v u)->Jw (jz X.prog X.w) X.A (Gz k h v u) (EP X z a Q) X.xe s
def af(X:Cx)(id:String)(r:V->LV->Hp->VK->Prop):Prop :=
 ∀(h:GB) (s:Jq) (y:St) (H:Hp) (x:V) (z:LV) (v:Ju) (u:LW) (Q:VK),Inv X h y H s->lA x v->uA z u->r x z H Q ->
  Jw (jz X.prog X.w) X.A (vt (.builtin id) (v::u)) (EP X h y Q) X.xe s
section
variable{X:Cx}{a b:Expr}{ta m:TE}{pos:Pos}
section
variable{d:GB}{s:Jq}{x:V}{u v:Ju}
theorem j3.or{r r':R2}(h:j3 X r)(h':j3 X r'):j3 X (λx y H Q=>r x y H Q∨r' x y H Q):=by intro z w d s k H x y v u Q I f e q hs;rcases q with q|q;exact h z w d s k H x y v u Q I f e q hs;exact h' z w d s k H x y v u Q I f e q hs
theorem zh{r:R2}(f:j3 X r)(ha:PE X a ta)(hb:PE X b m)(hs:LU b):PE X (.Subscript a b pos) (jg r ta m):=by intro d s z H Q I h;exact Subscript_ (binT ha hb I h λv u w x y i g e k q=>f a b d w z i x y v u Q g e k q (hs _ _))
def Rg(K:QE):R2:=λx y H Q=>∃p h i v,x=.ref p/\y=.int i/\uC K H p h/\BE h i=Jp v/\Q v H
def Og(K:QE):R2:=λx y H Q=>∃p h i v,x=.ref p/\y=.int i/\HC K H p h/\BE h i=Jp v/\Q v H
def Pg:R2:=λx y H Q=>∃z i c,x=.str z/\y=.int i/\z.9<=jx/\BE z.cps.toList i=Jp c/\Q (.str #[(WZ [c])]) H
theorem G6:j3 X (Rg X.K):=by
 intro e f d s Y H x y v u Q I B A h hs;let#[p,L,i,z,rfl,rfl,C,E,q]:=h;cases B;let#[t,rfl]:=A;let#[n,r,l,M]:=I.list C;let#[j,k,J,O,G,F]:=AN E;let#[w,Z,g]:=r.get J;have hl:=r.9;have N:=rG;have fin:EP X d Y Q w s:=#[z,H,I,g,q]
 by_cases h0:0<=i;have o:i.toNat=j:=by rw[QDt h0 F]at k;exact Qy k
 exact item_listR l.isList h0 () (by rw[o];simpa using Z) fin hs;have o:(i+(n.toArray.size:Int)).toNat=j:=by rw[QDV () G]at k;rw[QU,<- hl];exact Qy k
 exact Wo (x:=w) l.isList.typeIs QDG.lookup
  (wpAny_getItem_list_neg (Q:=λr W=>r=w/\EP X d Y Q r W) l.isList () (by rw[QU]<;>omega) () (by rw[o];simpa using Z) #[rfl,fin]) hs
theorem Yd:j3 X (Og X.K):=by
 intro k e d s g H x y v u Q I Y o h hs;let#[p,F,i,z,rfl,rfl,W,A,q]:=h;cases Y;let#[t,rfl]:=o;let#[Z,r,l,G]:=I.tuple W;let#[j,C,B,N,M,L]:=AN A;let#[w,E,f]:=r.get B;have hl:=r.9;have J:=rG;have fin:EP X d g Q w s:=#[z,H,I,f,q]
 exact Wo (x:=w) l.typeIs slot_tuple_getitem.lookup
  (getItem_tuple (j:=j) (Q:=λr n=>r=w/\EP X d g Q r n) l () () (by rw[QU,<- hl];exact C) (by simpa using E) #[rfl,fin]) hs
theorem Zd:j3 X Pg:=by
 intro w k d s Z H x y v u Q I g f h hs;let#[z,i,c,rfl,rfl,K,l,q]:=h;let#[t,rfl]:=g;let#[W,rfl]:=f;let#[j,e,p,B,o,n]:=AN l;have hl:z.cps.toList.9=z.length:=by simp[Str.length]
 rw[hl]at e o n;have A:=rG;exact tail_any (QD6 s z t) slot_str_getitem.lookup (getItem_str (c:=c) (by have Y:decide (i < -(2 ^ 63:Int))=false:=dF ();have r:decide (i ≥ 2 ^ 63)=false:=dF ();rw[Y,r,QCx]) (by rw[e];simpa using p) #[.str #[(WZ [c])],H,I.tok _,#[_,rfl],q]) hs
def Vo(K:QE):R2:=λx y H Q=>Rg K x y H Q∨Og K x y H Q∨Pg x y H Q
theorem Kd:j3 X (Vo X.K):=G6.or (Yd.or Zd)
theorem DR(its:LW)(n j:Nat)(u:Ju):qS (·.setIfInBounds j u) { cls:=.type "list",data:=.seq its.toArray n }={ cls:=.type "list",data:=.seq (its.set j u).toArray n }:=by simp[qS]
theorem Inv.lst{d:GB}{σ:St}{H:Hp}{s:Jq}{p:jy}{xs:LV}(I:Inv X d σ H s)(h:H p=Jp (.lst xs)) :
  ∃(its:LW) (n:Nat),uA xs its/\s.1.get? p=Jp { cls:=.type "list",data:=.seq its.toArray n }/\xs.9<=sizeLine:=by
 let#[z,its,n,r,e]:=I.hok p _ h;exact#[its,n,r,e,z]
theorem Inv.lstUpd{σ:St}{H:Hp}{p:jy}{xs y:LV}{its its':LW}{n z:Nat}{f:Obj->Obj}(I:Inv X d σ H s)(h:H p=Jp (.lst xs))
  (k:s.1.get? p=Jp { cls:=.type "list",data:=.seq its.toArray n }) (w:f { cls:=.type "list",data:=.seq its.toArray n }={ cls:=.type "list",data:=.seq its'.toArray z }) (r:uA y its') (hz:y.9<=jx) (t:Nat) :
  Inv X d σ (KA H p (.lst y)) { s with heap:=s.1.update p f,toks:=t }:=by
 have e:(s.1.update p f).get? p=Jp { cls:=.type "list",data:=.seq its'.toArray z }:=by rw[Q0 f k (by rw[w]<;>rfl),w]
 refine I.write (x:=p) (e:=p) (by rw[h];trivial) (.inl rfl) (λb u hb q=>(qA _ _ (qB hb)).trans q) #[_,e] ?_;exact#[hz,its',z,r,e]
def Gg:V->V->V->Hp->(Hp->Prop)->Prop:=λo i v H Q=>∃p h k j,o=.ref p/\i=.int k/\H p=Jp (.lst h)/\dO h.9 k=Jp j/\Q (KA H p (.lst (h.set j v)))
theorem UX:R7 X Gg:=by
 intro d s Y H o i v F G u Q I A B K h;let#[p,Z,k,j,rfl,rfl,e,E,q]:=h;cases A;let#[t,rfl]:=B;let#[y,n,r,w,C]:=I.lst e;let#[z,L,g,f]:=nN E;have hl:=r.9;have J:=rG;have l:Inv X d Y (KA H p (.lst (Z.set j v))) { s with heap:=s.1.update p (qS (·.setIfInBounds j u)) } :=
  I.lstUpd e w (DR y n j u) (r.set K j) (by rw[wf];exact C) s.toks
 by_cases h0:0<=k;have hk:k.toNat=j:=by rw[QDt h0 f]at z;exact Qy z
 exact PySem.W.ki_setAt w h0 () (by rw[QU,<- hl];exact f) (by rw[hk];exact#[_,l,q]);have hk:(k+(y.toArray.size:Int)).toNat=j:=by rw[QDV () g]at z;rw[QU,<- hl];exact Qy z
 exact PySem.W.ki_setBack w () (by rw[QU,<- hl];exact g) () (by rw[hk];exact#[_,l,q])
theorem XM(y z:Option Int)(n:Nat):(kl y z Jr n).1=((HT.sIx n 0 y:Nat):Int)/\(kl y z Jr n).2.1=((HT.sIx n n z:Nat):Int)/\(kl y z Jr n).2.2=1:=by
 refine#[?_,?_,rfl];cases y with|none=>simp[kl,HT.sIx]|some i=>simp only[kl,HT.sIx,QDh,show(1:Int) > 0 by decide,if_true];by_cases h:i<0;simp only[h,if_true]<;>omega;simp only[h,if_false]<;>omega
 cases z with|none=>simp[kl,HT.sIx]|some i=>simp only[kl,HT.sIx,QDh,show(1:Int) > 0 by decide,if_true];by_cases h:i<0;simp only[h,if_true]<;>omega;simp only[h,if_false]<;>omega
theorem CK(its:LW)(h y:Option Int):slicePick its.toArray h y Jr=((its.drop (HT.sIx its.9 0 h)).take (HT.sIx its.9 its.9 y - HT.sIx its.9 0 h)).toArray:=by let#[k,w,z]:=XM h y its.toArray.size;unfold slicePick;rw[k,w,z];simp only[sliceRange_one,pick_run,QU]<;>rfl
def Fg(K:QE):V->Option Int->Option Int->Hp->VK->Prop:=λx y z H Q=>∃a h,x=.ref a/\uC K H a h/\∀p,H p=Jr->Q (.ref p) (KA H p (.lst (jQ h y z)))
theorem U4:Uj X (Fg X.K):=by intro d s p H x v Z Y w k W Q I f hs i g h;let#[a,y,rfl,n,q]:=h;cases f;let#[j,r,e,l]:=I.list n;have z:=r.9;refine#["list",_,QDG.lookup,e.isList.typeIs,?_];refine wpAny_getItem_list_slice e.isList hs i g .none (by simp) ?_ (by rw[QU]<;>omega);rw[CK,<- z];refine#[.ref s.1.1.size,_,I.laid (t':=s.toks) (o:=.lst (jQ y w k)) (λb A q=>QI _ q) (QV _) ?_,rfl,q _ (I.hok.fresh (QV _))];exact#[Qc (eI y w k) l,_,0,(r.drop (HT.sIx y.9 0 w)).take (HT.sIx y.9 y.9 k - HT.sIx y.9 0 w),QO _ rfl]
noncomputable def oF:V->Bool
 | .non=>Js|.bl _=>Js|.int _=>Js|.str _=>Js|_=>Jt
noncomputable def d7:V->V->Bool
 | .non,.non=>Js|.bl a,.bl b=>a==b|.bl a,.int b=>(if a then 1 else 0)==b|.int a,.bl b=>a==(if b then 1 else 0)|.int a,.int b=>a==b|.str a,.str b=>a==b|_,_=>Jt
theorem Nd{A:ju}{y:V}(w:lA y u)(h:lA x v)(k:oF y=Js)(fx:oF x=Js):wW A s u v (d7 y x):=by
 cases y with
 |non =>
  cases w;cases x with|non=>cases h;exact wW.same _|bl b=>cases h;exact wW.none_bool b|int b=>let#[t,rfl]:=h;exact wW.none_int b t|str b=>let#[t,rfl]:=h;exact wW.none_str b t|_=>exact gJ (show Jt=Js from fx) QF
 |bl a =>
  cases w;cases x with|non=>cases h;exact wW.bool_none a|bl b=>cases h;exact wW.bool_bool a b|int b=>let#[t,rfl]:=h;exact wW.bool_int a b t|str b=>let#[t,rfl]:=h;exact wW.bool_str a b t|_=>exact gJ (show Jt=Js from fx) QF
 |int a =>
  let#[z,rfl]:=w;cases x with|non=>cases h;exact wW.int_none a z|bl b=>cases h;exact wW.int_bool a z b|int b=>let#[t,rfl]:=h;exact wW.int_int a z b t|str b=>let#[t,rfl]:=h;exact QCy a z b t|_=>exact gJ (show Jt=Js from fx) QF
 |str a =>
  let#[z,rfl]:=w;cases x with|non=>cases h;exact wW.str_none a z|bl b=>cases h;exact wW.str_bool a z b|int b=>let#[t,rfl]:=h;exact QCz a z b t|str b=>let#[t,rfl]:=h;exact wW.str_str a z b t|_=>exact gJ (show Jt=Js from fx) QF
 |_=>exact gJ (show Jt=Js from k) QF
def xS(x:V)(u:Ju):Bool:=match u with
 | .none=>d7 .non x|.bool b=>d7 (.bl b) x|.int i _=>d7 (.int i) x|.str z _=>d7 (.str z) x|_=>Jt
theorem G0{y:V}(r:lA y u)(f:oF y=Js):xS x u=d7 y x:=by
 cases y with|non=>cases r;rfl|bl b=>cases r;rfl|int i=>let#[t,rfl]:=r;rfl|str z=>let#[t,rfl]:=r;rfl|_=>exact gJ (show Jt=Js from f) QF
theorem YH{x:V}:∀{xs:LV}{us:LW},uA xs us->xs.all oF=Js->us.any (xS x)=xs.any λy=>d7 y x
 |_,_,.nil,_=>rfl|y::xs,u::us,.cons r t,f=>by rw[wN,Qf]at f;rw[Wz,Wz,G0 r f.1,YH t f.2]
theorem bF{A:ju}{s:Jq}{x:V}{v:Ju}(z:lA x v)(fx:oF x=Js):∀{xs:LV}{us:LW},uA xs us->xs.all oF=Js->∀u∈us,wW A s u v (xS x u)
 |_,_,.nil,_=>λu h=>by cases h|y::xs,u::us,.cons r t,f=>λw h=>by rw[wN,Qf]at f;rcases QK.mp h with rfl|h;rw[G0 r f.1];exact Nd r z f.1 fx;exact bF z fx t f.2 w h
def inV(x:V)(xs:LV):Bool:=xs.any λy=>d7 y x
def Xk(K:QE)(neg:Bool):R2:=λx y H Q=>∃p h,y=.ref p/\(uC K H p h∨HC K H p h)/\oF x=Js/\h.all oF=Js/\Q (.bl (if neg then !inV x h else inV x h)) H
theorem iV:NE X (jq .In) (Xk X.K Jt):=by intro d s l H x y v u Q I g i h;let#[p,n,rfl,k,fx,fs,q]:=h;cases i;rcases k with k|k;let#[z,r,e,j]:=I.list k;refine SeqAt.in_listAt (xS x) e.isList (λw f=>bF g fx r fs w (by simpa using f)) #[.bl _,H,I,rfl,?_];rw[show z.toArray.any (xS x)=z.any (xS x) by simp,YH r fs];exact q;let#[z,r,e,j]:=I.tuple k;refine SeqAt.in_tupleAt (xS x) e (λw f=>bF g fx r fs w (by simpa using f)) #[.bl _,H,I,rfl,?_];rw[show z.toArray.any (xS x)=z.any (xS x) by simp,YH r fs];exact q
theorem PM:NE X (jq .NotIn) (Xk X.K Js):=by intro d s l H x y v u Q I g i h;let#[p,n,rfl,k,fx,fs,q]:=h;cases i;rcases k with k|k;let#[z,r,e,j]:=I.list k;refine SeqAt.notIn_listAt (xS x) e.isList (λw f=>bF g fx r fs w (by simpa using f)) #[.bl _,H,I,rfl,?_];rw[show z.toArray.any (xS x)=z.any (xS x) by simp,YH r fs];exact q;let#[z,r,e,j]:=I.tuple k;refine SeqAt.notIn_tupleAt (xS x) e (λw f=>bF g fx r fs w (by simpa using f)) #[.bl _,H,I,rfl,?_];rw[show z.toArray.any (xS x)=z.any (xS x) by simp,YH r fs];exact q
theorem ON:lD X (.builtin "len") (λxs H Q=>∃p z,xs=[.ref p]/\(uC X.K H p z∨HC X.K H p z)/\Q (.int z.9) H):=by intro d s j H xs l Q I r h;let#[p,z,rfl,w,q]:=h;let#[u,rfl,g]:=UG r;cases g;have n:=rG;rcases w with w|w;let#[f,k,e,i]:=I.list w;have y:=k.9;exact Calls.call_len_list e.isList (by simp only[QU]<;>omega) #[.int z.9,H,I.tok _,#[s.toks+1,by rw[QU,y]],q];let#[f,k,e,i]:=I.tuple w;have y:=k.9;exact len_tuple e (by simp only[QU]<;>omega) #[.int z.9,H,I.tok _,#[s.toks+1,by rw[QU,y]],q]
theorem NN:lD X (.builtin "len") (λxs H Q=>∃z,xs=[.str z]/\z.9<=jx/\Q (.int z.9) H):=by intro d s y H xs w Q I r h;let#[z,rfl,k,q]:=h;let#[u,rfl,t,rfl]:=UG r;have e:=rG;exact len_str () #[.int z.9,H,I.tok _,#[_,rfl],q]
theorem MN:lD X (.type "list") (λxs H Q=>∃p k,xs=[.ref p]/\(uC X.K H p k∨HC X.K H p k)/\∀l,H l=Jr->Q (.ref l) (KA H l (.lst k))):=by
 intro d s E H xs G Q I r h;let#[p,k,rfl,Y,q]:=h;let#[u,rfl,F]:=UG r;cases F;have fin:∀(y:LW),uA k y->k.9<=jx->∀(z:js) (g:Nat),(∀b C,s.1.get? b=Jp C->z.get? b=Jp C) ->
   z.get? s.1.1.size=Jp { cls:=.type "list",dict:=Jr,data:=.seq y.toArray g,slots:=#[] }->EP X d E Q (.ref s.1.1.size) { s with heap:=z }:=λy f j z g i e =>
  #[.ref s.1.1.size,_,I.laid (t':=s.toks) i (QV _) (show ZA X.prog X.w _ z _ (.lst k) from#[j,y,g,f,e]),rfl,q _ (I.hok.fresh (QV _))]
 rcases Y with Y|Y;let#[y,f,W,j]:=I.list Y;have Z:=f.9;let#[o,A,hc,n,B]:=W.isList;exact yz p (.inl rfl) A hc B (λz g i e=>fin y f j z g i e) (by simp only[QU]<;>omega);let#[y,f,W,j]:=I.tuple Y;have Z:=f.9;let#[o,A,hc,n,B]:=W;exact yz p (.inr rfl) A hc B (λz g i e=>fin y f j z g i e) (by simp only[QU]<;>omega)
theorem AK:lD X (.type "tuple") (λxs H Q=>∃p z,xs=[.ref p]/\((uC X.K H p z/\∀l,H l=Jr->Q (.ref l) (KA H l (.tup z)))∨(HC X.K H p z/\Q (.ref p) H))):=by
 intro d s j H xs C Q I r h;let#[p,z,rfl,h]:=h;let#[u,rfl,W]:=UG r;cases W;rcases h with⟨i,q⟩| ⟨i,q⟩
 let#[y,f,g,n]:=I.list i;have Y:=f.9;refine call_tuple_list g.isList (λk A=>?_) (by simp only[QU]<;>omega);have Z:Inv X d j H { s with heap:=k }:=I.kept (t':=s.toks) A;have B:Inv X d j (KA H k.1.size (.tup z)) { s with heap:=k.push { cls:=.type "tuple",data:=.seq y.toArray } } :=
  Z.laid (t':=s.toks) (λb o e=>QI _ e) (QV _) (show ZA X.prog X.w _ _ _ (.tup z) from#[n,y,f,QEE _ _])
 exact#[.ref k.1.size,_,B,rfl,q _ (Z.hok.fresh (QV _))];let#[y,f,g,n]:=I.tuple i;exact call_tuple_same g #[.ref p,H,I,rfl,q]
def NW(K:QE)(T:String)(x:V)(H:Hp):Prop:=match x with
 | .str _=>T="str"|.int _=>T="int"|.ref p=>(T="list"/\∃y,uC K H p y)∨(T="tuple"/\∃o,K.lookup p=Jp o/\o.cls=.type "tuple"/\o.dict=Jr) ∨
   (T="dict"/\((∃h,H p=Jp (.dK h))∨∃z h,H p=Jp (.dT z h)))∨(T="set"/\∃S n,H p=Jp (.set S n))
 |_=>False
theorem uX{σ:St}{H:Hp}{T:String}(I:Inv X d σ H s)(r:lA x v)(ty:NW X.K T x H) :
  s.TypeIs v T/\∀a,v=.ref a->∃g,s.1.get? a=Jp g/\g.dict=none:=by
 cases x with
 |str z=>let#[t,rfl]:=r;cases(show T="str" from ty);exact#[QD6 s z t,λ_ e=>nomatch e]
 |int i=>let#[t,rfl]:=r;cases(show T="int" from ty);exact#[QD7 s i t,λ_ e=>nomatch e]
 |ref p =>
  cases r;rcases ty with⟨rfl,q,l⟩| ⟨rfl,o,hk,hc,w⟩| ⟨rfl,hk⟩| ⟨rfl,S,n,hk⟩
  let#[j,_,f,_]:=I.list l;refine#[f.isList.typeIs,λa e=>?_];cases e;let#[o,n,e,c,w,_]:=f;exact#[o,e,w];refine#[#[o,I.kIn p o hk,hc],λa e=>?_];cases e;exact#[o,I.kIn _ o hk,w];have z:∃o,s.1.get? p=Jp o/\o.ExactDict:=by
   rcases hk with⟨y,hk⟩| ⟨Y,y,hk⟩
   let#[_,_,_,_,o,_,_,e,h,_]:=I.hok p _ hk;exact#[o,e,h];let#[_,_,_,_,o,_,e,h,_]:=I.hok p _ hk;exact#[o,e,h]
  let#[o,e,h]:=z;refine#[#[o,e,h.1],λa k=>?_];cases k;exact#[o,e,h.2.1];let#[o,_,_,_,e,h,_]:=I.hok p _ hk;refine#[#[o,e,h.1],λa k=>?_];cases k;exact#[o,e,h.2.1]
 |_=>exact Qh ty
noncomputable def zk(K:QE)(T:String)(r:V->LV->Hp->VK->Prop)(g:TE):TE:=λy H Q=>g y H λx h=>NW K T x h/\r x [] h Q
noncomputable def Jo(K:QE)(T:String)(r:V->LV->Hp->VK->Prop)(g:TE)(t:TA):TE:=λh H Q=>g h H λx y=>NW K T x y/\t h y λz w=>r x z w Q
end
variable{o e:Expr}{es:List Expr}{g:TE}{t:TA}{name:Str}{apos cpos:Pos}{T id:String}{r:V->LV->Hp->VK->Prop}
theorem zc(p:Yx T)(w:Slot T name id)(k:y3 (.builtin id)=Gu (.type "method_descriptor"))(hm:af X id r)(q:PE X o g)
  (u:Vz o name X.env (kx o X.env)=kx o X.env:=by rfl) (z:(apos.endLine==cpos.line)=true:=by rfl):PE X (.Call (.Attribute o name apos) [] [] cpos) (zk X.K T r g):=by
 intro y s f H Q I h;refine QBt u z (DB (q y s f H _ I h) λv l #[x,W,j,i,ty,n]=>?_);let#[Z,Y]:=uX j i ty;exact#[T,id,p,w,k,Z,Y,QAf rfl (QCm (hm y l f W x [] v [] Q j i .nil n))]
theorem kh(E:Yx T)(k:Slot T name id)(j:y3 (.builtin id)=Gu (.type "method_descriptor"))(hm:af X id r)(F:PE X o g)(ha:PA X (e::es) t)
  (w:Vz o name X.env (kx o X.env)=kx o X.env:=by rfl)
  (f:((Vv cpos (jw (e::es) X.env)).all (λx=>!x.1)&&(backToKw cpos (keywordEach [] X.env)).all (λx=>x.1.isSome)
   && decide ((e::es).9+([]:List v2).9+(if([]:List v2).isEmpty then 0 else 1)<30))=true:=by rfl)
  (u:(apos.endLine==cpos.line)=true:=by rfl) (hs:jw (e::es) X.env=(Jt,kx e X.env)::jw es X.env:=by rfl) (z:(Vv cpos (jw es X.env)).any (·.1)=false:=by rfl) :
  PE X (.Call (.Attribute o name apos) (e::es) [] cpos) (Jo X.K T r g t):=by
 intro y s i H Q I h;refine wpAny_Call_method_late w f u rfl (DB (F y s i H _ I h) λv W #[x,N,p,l,ty,C]=>?_);let#[J,G]:=uX p l ty;refine#[T,id,E,k,j,J,G,?_];have n:=ha cpos y W i N _ p C;rw[hs]at n ⊢;refine QAf (by show(Jt||(Vv cpos (jw es X.env)).any (·.1))=Jt;rw[z]<;>rfl) (Calls.evalArgs_plain ?_);exact DB n λY Z #[q,M,L,A,B]=>hm y Z i M x q v Y Q L l A B
end
def om(X:Cx)(id:String)(r:V->LV->Hp->VK->Prop):Prop :=
 ∀(h:GB) (s:Jq) (y:St) (H:Hp) (x:V) (z:LV) (v:Ju) (u:LW) (Q:VK),Inv X h y H s->lA x v->uA z u->r x z H Q ->
  Jw (jz X.prog X.w) X.A (vt (.builtin id) (v::u)) (EP X h y Q) X.xe s
theorem uA.one:∀{x:V}{us:LW},uA [x] us->∃u,us=[u]/\lA x u
 |_,_,.cons r .nil=>#[_,rfl,r]
theorem uA.zero:∀{us:LW},uA [] us->us=[]
 |_,.nil=>rfl
theorem uA.eraseIdx:∀{xs:LV}{us:LW}(i:Nat),uA xs us->uA (xs.eraseIdx i) (us.eraseIdx i)
 |_,_,_,.nil=>.nil|_,_,0,.cons _ t=>t|_,_,i+1,.cons r t=>.cons r (uA.eraseIdx i t)
theorem uA.reverse{xs:LV}{us:LW}(h:uA xs us):uA xs.reverse us.reverse:=by
 induction h with|nil=>exact .nil|cons r t x=>rw[QAh,QAh];exact uA.append x (.cons r .nil)
theorem uA.rep{xs:LV}{us:LW}(h:uA xs us):∀k:Nat,uA (Q8 k xs).flatten (Q8 k us).flatten
 |0=>.nil|k+1=>by rw[wX,wX,WS,WS];exact uA.append h (uA.rep h k)
theorem Hd{α:Type}(l:List α):l.eraseIdx (l.9 - 1)=l.dropLast:=by
 induction l with
 |nil=>rfl|cons a r h =>
  cases r with
  |nil=>rfl|cons b r =>
   have e:(a::b::r).9 - 1=((b::r).9 - 1)+1:=by have y:(a::b::r).9=r.9+2:=rfl;have x:(b::r).9=r.9+1:=rfl;omega
   rw[e,List.eraseIdx_cons_succ,h]
   all_goals rfl
theorem VL{α:Type}:∀(l:List α) (i:Nat),(l.eraseIdx i).9<=l.9
 |[],_=>QV _|_::_,0=>wn _|_::r,i+1=>QDi (VL r i)
theorem GL(its:LW):∀(k:Nat) (h:LW),
  QD8 (λy x=>y++x) h.toArray (Q8 k its.toArray)=(h++(Q8 k its).flatten).toArray
 |0,h=>by simp|k+1,h=>by
  have e:h.toArray++its.toArray=(h++its).toArray:=by simp
  have z:(h++its)++(Q8 k its).flatten=h++(Q8 (k+1) its).flatten:=by rw[wX,WS,qd]
  rw[<- z,<- GL its k (h++its),<- e,wX,wg]
section
variable{X:Cx}{y:GB}{σ:St}{H:Hp}{s:Jq}{l b:jy}{xs v w:LV}
theorem Inv.lset{its its':LW}{n:Nat}{f:Array Ju->Array Ju}{t':Nat}(I:Inv X y σ H s)(k:H l=Jp (.lst xs))
  (e:s.1.get? l=Jp { cls:=.type "list",data:=.seq its.toArray n }) (z:f its.toArray=its'.toArray) (hv:uA v its') (hz:v.9<=jx) :
  Inv X y σ (KA H l (.lst v)) { s with heap:=s.1.update l (qS f),toks:=t' }:=by
 have q:=PySem.IsL.update e f;rw[z]at q;refine I.write (x:=l) (e:=l) (by rw[k];exact trivial) (.inl rfl) (λa u hb h=>(qA s.1 (qS f) (qB hb)).trans h) #[_,q] ?_;exact#[hz,its',_,hv,q]
theorem Inv.lnew{its:LW}{t':Nat}(I:Inv X y σ H s)(hv:uA v its)(hz:v.9<=jx) :
  Inv X y σ (KA H s.1.1.size (.lst v)) { s with heap:=s.1.push { cls:=.type "list",data:=.seq its.toArray },toks:=t' } :=
 I.laid (λ_ _ q=>QI _ q) (QV _) #[hz,its,0,hv,QO _ rfl]
theorem Inv.fresh(I:Inv X y σ H s):H s.1.1.size=none:=I.hok.fresh (QV _)
theorem Inv.lstM(I:Inv X y σ H s)(h:H l=Jp (.lst xs)):xs.9<=jx/\∃(its:LW) (n:Nat),uA xs its/\xs.9=its.9/\s.1.get? l=Jp { cls:=.type "list",data:=.seq its.toArray n }:=by let#[z,its,n,r,e]:=I.hok l _ h;exact#[z,its,n,r,r.9,e]
theorem jZ{n:Nat}(h:n<=jx):QAN n=false:=by unfold QAN;exact dF ()
end
section
variable{X:Cx}
def rT:V->LV->Hp->VK->Prop:=λx z H Q=>∃l h y,x=.ref l/\z=[y]/\H l=Jp (.lst h)/\h.9<jx/\Q .non (KA H l (.lst (h++[y])))
theorem OV:om X "list.append" rT:=by intro k s i H x m v o Q I b f h;let#[l,j,y,rfl,rfl,a,p,q]:=h;cases b;let#[u,rfl,g]:=f.one;let#[z,w,n,r,hl,e]:=I.lstM a;refine QBf F.slot_list_append #[_,e,rfl] F.entry_list_append (F.args_list_append_2 _ _) (PySem.list_append l w.toArray n u (by rw[QU];omega)) #[e,?_];refine#[.non,_,I.lset (its':=w++[u]) a e (by simp) (r.append (.cons g .nil)) ?_,rfl,q];rw[QN,qE];omega
def Bb:V->LV->Hp->VK->Prop:=λx z H Q=>∃l h i k y,x=.ref l/\z=[.int i]/\H l=Jp (.lst h)/\-(2 ^ 63)<=i/\i<2 ^ 63/\seqIndex? i h.9=Jp k/\h[k]?=Jp y/\Q y (KA H l (.lst (h.eraseIdx k)))
theorem pZ:om X "list.pop" Bb:=by
 intro f s A H x B v C Q I m o h;let#[l,j,i,k,y,rfl,rfl,g,K,W,hk,Y,q]:=h;cases m;let#[u,rfl,p]:=o.one;let#[t,rfl]:=p;let#[z,a,n,r,hl,e]:=I.lstM g;let#[w,Z,b]:=r.get Y;refine QBf F.slot_list_pop #[_,e,rfl] F.entry_list_pop (F.args_list_pop_2 _ _)
  (MeetsSeq.list_pop_at l a.toArray n i t k w (Yy K W) (by rw[QU,<- hl];exact hk) (by rw[<- QX];exact Z) (by rw[QU];omega)) #[e,?_]
 refine#[y,_,I.lset (its':=a.eraseIdx k) g e ?_ (r.eraseIdx k) ?_,b,q];show a.toArray.eraseIdxIfInBounds k=(a.eraseIdx k).toArray;rw[List.eraseIdxIfInBounds_toArray];have:=VL j k;omega
def LO:V->LV->Hp->VK->Prop:=λx y H Q=>∃l h,x=.ref l/\y=[]/\H l=Jp (.lst h)/\Q .non (KA H l (.lst h.reverse))
theorem XR:om X "list.reverse" LO:=by intro w s f H x i v j Q I a b h;let#[l,g,rfl,rfl,k,q]:=h;cases a;have u:=b.zero;subst u;let#[z,y,n,r,hl,e]:=I.lstM k;refine QBf F.slot_list_reverse #[_,e,rfl] F.entry_list_reverse (F.args_list_reverse_1 _) (AutoSeq1.list_reverse_list_0 l y.toArray n (by rw[QU];omega)) #[e,?_];refine#[.non,_,I.lset (its':=y.reverse) k e (by simp) r.reverse ?_,rfl,q];rw[List.length_reverse];omega
def Hg:R2:=λx y H Q=>∃l k h,x=.ref l/\y=.int k/\H l=Jp (.lst h)/\-(2 ^ 63)<=k/\k<2 ^ 63/\h.9 * k.toNat<=jx /\
 ∀p,H p=Jr->Q (.ref p) (KA H p (.lst (Q8 k.toNat h).flatten))
theorem X6{α:Type}(xs:List α)(k:Nat):(Q8 k xs).flatten.9=k * xs.length:=by
 induction k with|zero=>simp|succ k h=>rw[wX,WS,QN,h,QDW,Nat.add_comm]
theorem bc:NE X (Kq .Mult) Hg:=by
 intro Y s J H x y v u Q I A K h;let#[l,k,L,rfl,rfl,B,E,C,Z,q]:=h;cases A;let#[t,rfl]:=K;let#[z,w,n,r,hl,e]:=I.lstM B;have g:w.toArray.size * k.toNat<=sizeLine:=by rw[QU,<- hl];exact Z
 have j:¬ w.toArray.size * k.toNat > (2 ^ 63 - 1) / 8:=by
  have:(jx:Nat)<=(2 ^ 63 - 1) / 8:=by decide
  omega
 have i:¬ (!Builtin.List.listFitsIndex k)=true:=by rw[Yy E C];exact QF
 have b:¬ QAN (w.toArray.size * k.toNat)=true:=by rw[jZ g];exact QF
 have f:QD8 (λp o=>p++o) #[] (Q8 (if w.toArray.isEmpty=Js then 0 else k.toNat) w.toArray)=(Q8 k.toNat w).flatten.toArray:=by
  have G:∀m:Nat,QD8 (λp o=>p++o) #[] (Q8 m w.toArray)=(Q8 m w).flatten.toArray:=λm=>by have:=GL w m [];rw[qD]at this;exact this
  rw[G];cases w with|nil=>simp|cons a M=>rw[Gq (by simp)]
 refine wpAny_binaryOp_repeat_ref (T:="list") (U:="int") (by decide) #[_,e,rfl] (λW=>QD7 W k t) noFill_list_mul F.fills_int_mul QDu repeat_list F.slot_int_index.lookup
  (QBf QDu (QD7 s k t) F.entry_int_rmul (F.args_int_rmul_2 _ _) (int___rmul___int_list k t l w.toArray n)
   #[e,rfl,#[_,e,rfl],QBf F.slot_list_mul #[_,e,rfl] F.entry_list_mul (F.args_list_mul_2 _ _) (AutoListH.list___mul___list_int_3 l w.toArray n k t i j b) #[e,?_]])
 rw[f];exact#[.ref _,_,I.lnew (t':=s.toks) (r.rep k.toNat) (by rw[X6,Nat.mul_comm];exact Z),rfl,q _ I.fresh]
end
end L2
namespace Att
open PySem PySem.W PySem.Calls PyProof.Rows
theorem UI{P:Params}{h:js}:∀(ns:LJ) (vs:LW),WellAll P h vs (ns.map WData.int)->Gs vs ns:=by
 intro ns;induction ns with
 |nil=>intro vs w;rw[wt]at w;cases w;exact .nil|cons n ns x =>
  intro vs w;rw[QT]at w;cases w with|cons a b=>cases a;exact .cons _ _ (x _ b)
theorem script_of{l:OpenLaw}{n:Nat}(j:l.most=Jp n){P:Params}{h:js}{args:List WData}{x:LW}
  (y:l.row.toRowW.claim.pre args=Js) (k:WellAll P h x args) :
  ∃a vs ns,x=[Jv a]/\args=[WData.list (ns.map WData.int)]/\h.get? a=Jp { cls:=.type "list",data:=.seq vs.toArray }/\Gs vs ns/\ns.9<=n:=by
 have b:WShape.hasAll [] args [.list .int]=true:=(pre_splitW y).1;have hc:l.pre.holds [] { args:=args }=true:=(pre_splitW y).2;let#[d,r,rfl,p,o]:=hasAllW_cons b;obtain rfl:=hasAllW_nil o;let#[s,rfl,m]:=hasW_list p;let#[ns,rfl]:=items_int m;have z:ns.9<=n:=by
  unfold OpenLaw.pre at hc;have w:(WTm.not (.lt (.lit (.int (n:Int))) (.len (.arg 0)))).holds [] { args:=[.list (ns.map .int)] }=true:=by have w:=(holds_andW hc).1;rw[j]at w;exact w
  have v:=condW_of w (w_not (w_lt w_lit (w_len_list (w_arg rfl))));rw[QG]at v;refine QB3 λq=>?_;have g:(n:Int)<((ns.9:Nat):Int):=()
  first
   | (rw[dT g]at v;exact gJ v (by decide))
   | (simp at v;omega)
 cases k with
 |cons f e =>
  cases e;cases f with|list i u=>exact#[_,_,ns,rfl,rfl,i,UI ns _ u,z]
theorem post_true(l:OpenLaw)(args:List WData):l.row.toRowW.claim.post args (.bool Js) args=Js :=
 postW_of (r:=l.row.toRowW) (X:=(Js==Js))
  (show WShape.has [] (.bool Js) .bool=Js by first|rfl|decide|simp[WShape.has,WShape.arms,WShape.armsAll])
  (show(WTm.eq .res (.lit (.bool Js))).value [] { args:=args,res:=Jp (.bool Js),after:=args }=Jp (.bool (Js==Js)) from w_eq_bool (w_res rfl) w_lit) rfl
end Att
namespace L2
open PySem PySem.Spec PyProof.Rows
theorem zL:∀{vs:LW}{ns:LJ},Gs vs ns->uA (ns.map V.int) vs
 |_,_,.nil=>.nil|_,_,.cons n t h=>.cons #[t,rfl] (zL h)
def jj(H:Hp):Prop:=∀b,H b=Jr∨∃o h,H b=Jp (.frz o (.lst h))
theorem KZ{P:jv}{w:jr}{K:QE}{X J:Str->Option Ju}{CX:K3}{k:Nat}{O a:jy}{fd:Kr}{x:Str}{R:Sp}{y:Jq}{vs:LW}{ns:LJ}
  (KX:K.In y.1) (A:y.1.Ns jp X) (hb:y.1.Ns xw J) (M:∀x:Str,x≠"__name__"->J x=Kp x) (B:y.1.NoLimit) (hg:y.gens=#[])
  (ha:y.1.get? a=Jp { cls:=.type "list",data:=.seq vs.toArray }) (hi:Gs vs ns) (hl:ns.9<=jx) (hr:Room k Xw)
  (F:∀g:js,K.In g->g.Ns jp X->FnOk P w K X g CX k O fd [x] R) (l:∀(s:Jq) (u:Ju),Xu s fd #[[u],[]] [(x,u)])
  (L:∀H:Hp,jj H->uC K H a (ns.map V.int)->R [.ref a] H (λv _=>v=.bl Js) λ_ _ _=>False)
  (N:∀H e s',CX [] H y (λ_ _ _=>False) e s'->False) :
  vz (jz P w) Xw (.call (.ref O) #[[.ref a],[]]) (λr s'=>r=.ok (.ret (.bool Js))/\OldK y.1 s'.1/\s'.os=y.os/\zz s'.gens) y:=by
 have S:=zL hi;have Y:=hi.9;have j:∀H:Hp,jj H->uC K H a (ns.map V.int)->zJ P w H y.1->(∀b,H b≠Jr->b=a)->(H a≠Jr->K.lookup a=Jr) ->
   vz (jz P w) Xw (.call (.ref O) #[[.ref a],[]]) (λr s'=>r=.ok (.ret (.bool Js))/\OldK y.1 s'.1/\s'.os=y.os/\zz s'.gens) y:=by
  intro H hO hS W hA hK;have f:∀{b:jy}{o:Obj},y.1.get? b=Jp o->H b=Jr->(iN y.1 H).get? b=Jp o:=λe n=>AZ e n;have I:∀{b:jy}{o:Obj}{E:Array Vq}{G:Nat},y.1.get? b=Jp o->o.data=.dict E G->H b=none:=λ{b o E G} e d=>by
   cases q:H b with|none=>rfl|some u=>have Q:b=a:=hA b (by rw[q];simp);subst Q;rw[ha]at e;cases e;have d':Data.seq vs.toArray _=Data.dict E G:=d;cases d'
  have i:∀{b:jy}{m:Str->Option Ju},y.1.Ns b m->(iN y.1 H).Ns b m:=λ{b m} #[o,E,G,e,d,r]=>#[o,E,G,f e (I e d),d,r]
  have C:K.In (iN y.1 H):=λb o e=>f (KX b o e) (by
   cases q:H b with|none=>rfl|some u=>have Q:b=a:=hA b (by rw[q];simp);subst Q;rw[hK (by rw[q];simp)]at e;cases e)
  have hM:Mod K X (iN y.1 H):=#[C,i A,#[J,i hb,M],let#[mc,h1,h2]:=B;#[mc,i h1,h2]]
  have e0:Env0 P w K X (iN y.1 H) Xw [] y H:=#[rfl,hM,λb o e=>z6 e,QAt (cW _ _),trivial,λb hb=>gJ (show b∈([]:List jy) from hb) (by simp),W,.of_eq hg]
  refine QAL ((F _ C (i A)).run Xw [] y H #[[.ref a],[]] [.ref a] [.ref a] _ _ hr e0 (l y (.ref a)) (.cons rfl .nil) (L H hO hS)) λr s' h=>?_;cases r with
  |error e=>exact(N H e s' h).elim|ok fl =>
   cases fl with
   |next=>exact Qh h|brk=>exact Qh h|cont=>exact Qh h|ret u =>
    let#[v,H',os,bare,un,Z,r',q]:=h;have q':v=.bl true:=q;subst q';obtain rfl:u=Value.bool true:=r';refine#[rfl,OldK.of_keep λb o e=>?_,os,bare];cases q:H b with
    |none=>exact un.keep b o e q (by intro z;exact gJ (show b∈([]:List jy) from z) (by simp)) (by simp)|some u =>
     rcases hO b with z|⟨ob,xs,z⟩
     rw[q]at z;cases z;have z2:=un.frzs b ob _ z;let#[e1,_]:=W b _ z;let#[e2,_]:=Z b _ z2;rw[e]at e1;cases e1;exact e2
 cases hk:K.lookup a with
 |some o=>have e:=KX a o hk;rw[ha]at e;cases e;refine j (λ_=>Jr) (λ_=>.inl rfl) (.inr #[_,vs.toArray,_,hk,rfl,rfl,rfl,by rw[QU,Y];exact hl,by simpa using S]) (λb u z=>by have p:(none:Option HO)=Jp u:=z;cases p) (λb z=>gJ rfl z) λz=>gJ rfl z|none =>
  refine j (λb=>if b=a then Jp (.frz { cls:=.type "list",data:=.seq vs.toArray } (.lst (ns.map V.int))) else Jr) (λb=>?_) (.inl (.inr #[{ cls:=.type "list",data:=.seq vs.toArray },Gw rfl])) (λb u z=>?_) (λb z=>?_) λ_=>hk;by_cases hb:b=a
  ·exact .inr #[_,_,Gw hb]
  exact .inl (Gq hb);by_cases hb:b=a
  ·have p:=(Gw hb).symm.trans z
   cases p;subst hb;exact#[ha,by rw[QG];exact hl,vs,_,S,ha]
  have p:=(Gq hb).symm.trans z;cases p;by_cases hb:b=a
  ·exact hb
  exact gJ (Gq hb) z
noncomputable def OC(s:Ku):Arguments:=match s with
 | .FunctionDef _ a _ _ _ _ _ _ _ _=>a|_=>{ posonlyargs:=[],args:=[],vararg:=Jr,kwonlyargs:=[],kw_defaults:=[],kwarg:=Jr,defaults:=[] }
noncomputable def vC(s:Ku):List Stmt:=match s with
 | .FunctionDef _ _ b _ _ _ _ _ _ _=>b|_=>[]
noncomputable def CA(s:Ku):Scope:=match s with
 | .FunctionDef _ _ _ _ _ _ sc _ _ _=>sc|_=>{ kind:=.function,names:=[],isGenerator:=Jt,isCoroutine:=Jt }
noncomputable abbrev AW:K3:=λ_ _ _ _ _ _=>False
noncomputable abbrev E0:XK:=λ_ _ _=>False
theorem vh{X:Cx}:iK AW X E0:=λ_ _ _ _ _ _ _ h=>h.elim
structure Fun(K:QE)(x qual:Str)(st:Ku)(f:jy)(fd:Kr):Prop where
 ex:∃(oc:Ju) (od:Option jy) (kV doc pm:Ju) (an:Option jy) (cdv ct:Ju) (osl:Array (Option Ju)),
  fd=wr x qual (OC st) (vC st) (CA st) .none kV doc pm an cdv ct/\K.lookup f=Jp #[oc,od,.func fd,osl]/\QBU K cdv qual=Js
 kp:Wm K (.ref f)=Js
section
variable{P:jv}{w:jr}{K:QE}{mg:Str->Option Ju}{base:js}
section
variable{x y:Str}{st:Ku}{f:jy}{u:Kr}{z:LS}
theorem Fun.ok{N:LS}{k:Nat}{b:Sp}(F:Fun K x y st f u)(S:FnScope N z (CA st))(len:∀vs H Q E,b vs H Q E->vs.9=z.9)
  (a:∀(v:Ju) (A:ju) (outer:List Env) (s:Jq) (H:Hp) (vs:LV) (Q:VK) (E:XK),Room k (A.deeper (zp y (CA st) s.1.1.size f v))->b vs H Q E ->
   ∃t,XS (cS AW P w K mg base N y (CA st) f v A outer s H E).nox (vC st) t/\t { nx:=λ_ m=>Q .non m,rt:=Q } (nD N vs) H):FnOk P w K mg base AW (k+1) f u z b:=by
 let#[p,o,kV,l,n,X,v,r,i,rfl,lk,g]:=F.ex;refine Th lk g S len λA outer s H vs Q E j e=>?_;let#[t,h,q]:=a v A outer s H vs Q E j e;exact#[t,h.nox,q]
theorem Fun.binds(F:Fun K x y st f u)
  (h:∀(kV v a:Ju) (b:Option jy) (k ct:Ju) (us:LW),us.9=z.9->vu (wr x y (OC st) (vC st) (CA st) .none kV v a b k ct) #[us,[]]=Gu (z.zip us)):cG K u z []:=by
 let#[j,i,kV,v,a,b,k,ct,e,rfl,lk,g]:=F.ex;exact .all (h kV v a b k ct)
theorem Fd{i:Ju}{g e:Option jy}{a:Array (Option Ju)}{kV v b h ct:Ju}(l:K.lookup f=Jp #[i,g,.func (wr x y (OC st) (vC st) (CA st) .none kV v b e h ct),a])
  (c:QBU K h y=Js) (k:Wm K (.ref f)=Js):Fun K x y st f (wr x y (OC st) (vC st) (CA st) .none kV v b e h ct):=#[#[i,g,kV,v,b,e,h,ct,a,rfl,l,c],k]
end
end
section
variable{H f:Hp}{u:Kw}{env:Env}{n:Nat}{x:Str}{c:jy}
def Same(H f:Hp):Prop:=∀b o,H b=Jp o->f b=Jp o
theorem Same.refl(H:Hp):Same H H:=λ_ _ h=>h
theorem Same.trans{z y:Hp}(a:Same H z)(b:Same z y):Same H y:=λc o h=>b c o (a c o h)
theorem Same.free(e:Same H f){l:jy}(h:f l=Option.none):H l=Option.none:=by
 cases q:H l with|none=>rfl|some o=>rw[e l o q]at h;cases h
theorem Same.seq{K:QE}{a:jy}{xs:LV}(e:Same H f)(h:uC K H a xs):uC K f a xs:=by rcases h with(h|⟨o,h⟩)|h;exact .inl (.inl (e _ _ h));exact .inl (.inr #[o,e _ _ h]);exact .inr h
noncomputable def CI(env:Env):List (Str×kf)->List (Str×jy)->List (Str×jy)
 |[],cs=>cs|(n,k)::r,cs=>CI env r (if k==.free then(n,(env.cells.lookup n).getD 0)::cs else cs)
theorem mS(h:∀y∈u.names,y.2=.free->∃c,env.cells.lookup y.1=Jp c):closureFor u env=Gu (CI env u.names []):=by
 have w:∀(l:List (Str×kf)) (v:List (Str×jy)),(∀y∈l,y.2=.free->∃c,env.cells.lookup y.1=Jp c) ->
   (forIn l v λ(x:Str×kf) (r:List (Str×jy))=>(if(x.2==NameKind.free)=Js then(do let c <- cellOf env x.1;Gu (ForInStep.yield ((x.1,c)::r))) else Gu (ForInStep.yield r):Sem (ForInStep (List (Str×jy)))))=Gu (CI env l v):=by
  intro l;induction l with
  |nil=>intro v _;rfl|cons y l b =>
   intro v hl;let#[n,k]:=y;rw[QAT];by_cases hk:k=.free;subst hk;let#[c,hc]:=hl (n,.free) QD rfl;have hc:env.cells.lookup n=Jp c:=hc;simp only[beq_self_eq_true,if_true,cellOf,hc,pure_bind,CI,QDj];exact b _ λz a=>hl z (QC _ a);have hb:(k==NameKind.free)=false:=by simpa using hk
   simp only[hb,qF,if_false,pure_bind,CI];exact b _ λz a=>hl z (QC _ a)
 have e:=w u.names [] h;unfold closureFor;exact(gV (· >>= Gu) e).trans (pure_bind _ _)
theorem OL{env:Env}{x:Str}{c:jy}:∀(l:List (Str×kf)) (cs:List (Str×jy)),(∀y∈l,y.2=.free->∃c,env.cells.lookup y.1=Jp c)->(∀c,cs.lookup x=Jp c->env.cells.lookup x=Jp c) ->
  (CI env l cs).lookup x=Jp c->env.cells.lookup x=Jp c
 |[],cs,_,hc,h=>hc c h|(n,k)::r,cs,hl,hc,h=>by
  refine OL r _ (λz b=>hl z (QC _ b)) (λd v=>?_) h;by_cases hk:k=.free;subst hk;let#[e,w]:=hl (n,.free) QD rfl;have w:env.cells.lookup n=Jp e:=w;simp only[beq_self_eq_true,if_true,w,QDj,wB]at v;cases a:x==n with|true=>rw[a]at v;cases v;rw[qu a];exact w|false=>rw[a]at v;exact hc d v
  have hb:(k==NameKind.free)=false:=by simpa using hk
  simp only[hb,qF,if_false]at v;exact hc d v
theorem fK{env:Env}{x:Str}:∀(l:List (Str×kf)) (cs:List (Str×jy)),((∃c,cs.lookup x=Jp c)∨(x,NameKind.free)∈l)->∃c,(CI env l cs).lookup x=Jp c
 |[],cs,h=>by rcases h with h|h;exact h;cases h
 | (n,k)::r,cs,h=>by
  refine fK r _ ?_;rcases h with⟨c,h⟩| h;refine .inl ?_;split;rw[wB];split;exact#[_,rfl];exact#[c,h];exact#[c,h];rcases QK.mp h with h|h
  ·cases h
   refine .inl ?_;simp
  exact .inr h
noncomputable def tB:List Bool->Nat->LS->LS
 |b::m,j,x::N=>(if b then#[(WZ [46,j])] else x)::tB m (j+1) N|_,_,N=>N
noncomputable def aC:List Bool->St->St
 |b::m,v::σ=>(if b then Jr else v)::aC m σ|_,σ=>σ
theorem RH:∀(m:List Bool) (σ:St),(aC m σ).9=σ.9
 |[],σ=>by unfold aC;rfl|_::_,[]=>by unfold aC;rfl|b::m,v::σ=>by unfold aC;rw[QL,QL,RH m σ]
theorem CL:∀(m:List Bool) (j:Nat) (N:LS),(tB m j N).9=N.9
 |[],_,N=>by unfold tB;rfl|_::_,_,[]=>by unfold tB;rfl|b::m,j,x::N=>by unfold tB;rw[QL,QL,CL m (j+1) N]
theorem RJ:∀(m:List Bool) (j:Nat) (N:LS) (σ:St) (i:Nat) (v:V),(aC m σ)[i]?=Jp (Jp v)->σ[i]?=Jp (Jp v)/\(tB m j N)[i]?=N[i]?
 |[],_,N,σ,i,v,h=>by unfold aC at h;unfold tB;exact#[h,rfl]|_::_,_,N,[],i,v,h=>by unfold aC at h;simp at h|b::m,j,[],w::σ,i,v,h=>by
  unfold aC at h;cases i with
  |zero =>
   cases b with|true=>simp at h|false=>simp at h;subst h;exact#[by simp,by unfold tB;rfl]
  |succ i=>have q:=(RJ m (j+1) [] σ i v (by simpa using h)).1;exact#[by simpa using q,by unfold tB;rfl]
 |b::m,j,x::N,w::σ,0,v,h=>by
  unfold aC at h;cases b with|true=>simp at h|false=>simp at h;subst h;exact#[by simp,by unfold tB;simp]
 |b::m,j,x::N,w::σ,i+1,v,h=>by unfold aC at h;have q:=RJ m (j+1) N σ i v (by simpa using h);unfold tB;exact#[by simpa using q.1,by simpa using q.2]
noncomputable def eJ(u sc:Kw):Kw :=
  { u with names:=u.names.map λ(n,k)=>if(k==.free&&sc.kind==.function&&sc.names.lookup n==Jp .cell) then(n,.cell) else(n,k) }
theorem pC(sc:Kw)(x:Str):∀(l:List (Str×kf)),
  (l.map λ(n,k)=>if(k==NameKind.free&&sc.kind==.function&&sc.names.lookup n==Jp .cell) then(n,NameKind.cell) else(n,k)).lookup x =
   (l.lookup x).map λk=>if(k==NameKind.free&&sc.kind==.function&&sc.names.lookup x==Jp .cell) then NameKind.cell else k
 |[]=>rfl|(n,k)::r=>by
  rw[QT];have e:(if(k==NameKind.free&&sc.kind==.function&&sc.names.lookup n==Jp .cell)=Js then(n,NameKind.cell) else(n,k)) =
    (n,if(k==NameKind.free&&sc.kind==.function&&sc.names.lookup n==Jp .cell)=Js then NameKind.cell else k):=by split<;>rfl
  show Wu x ((if(k==NameKind.free&&sc.kind==.function&&sc.names.lookup n==Jp .cell)=Js then(n,NameKind.cell) else(n,k))::_)=_;rw[e,wB,wB];cases h:x==n with|true=>rw[qu h];simp|false=>exact pC sc x r
structure CompSt(N:LS)(sc u:Kw)(tgs:LS)(mask:List Bool):Prop where
 kind:u.kind=.function
 cel:∀y∈u.names,y.2=.cell->y.1∈tgs
 names:∀y∈u.names,y.2=.local->u.names.lookup y.1=Jp .local
 free:∀y∈u.names,y.2=.free->sc.names.lookup y.1=Jp .cell∨sc.names.lookup y.1=Jp .free
 loc:∀y∈u.names,y.2=.local->y.1∈tgs∨y.1=(".0":Str)
 nd:(tgs++tB mask 0 N).Nodup
 no0:(".0":Str)∉tgs++tB mask 0 N
def C1(env:Env)(u:Kw)(n:Nat):List (Str×jy):=Kv (n+1) u.names (CI env u.names [])
theorem aG:∀(names:List (Str×kf)) (n:Nat) (h:List (Str×jy)),Kv n names h=Kv n names []++h
 |[],_,_=>rfl|(x,k)::r,n,h=>by unfold Kv;split;rw[aG r (n+1) ((x,n)::h),aG r (n+1) [(x,n)],qd];rfl;exact aG r n h
theorem rS{x:Str}{c:jy}:∀(names:List (Str×kf)) (n:Nat) (v:List (Str×jy)),(x,c)∈Kv n names v->(x,NameKind.cell)∈names∨(x,c)∈v
 |[],_,_,h=>.inr h|(y,k)::r,n,v,h=>by
  unfold Kv at h;split at h;rename_i hk;rcases rS r _ _ h with z|z;exact .inl (QC _ z);rcases QK.mp z with e|z
  ·cases e
   rw[qu hk];exact .inl QD
  exact .inr z;rcases rS r _ _ h with z|z
  ·exact .inl (QC _ z)
  exact .inr z
theorem tF(h:(C1 env u n).lookup x=Jp c):(Kv (n+1) u.names []).lookup x=Jp c∨(CI env u.names []).lookup x=Jp c:=by
 unfold C1 at h;rw[aG,QAU]at h;cases e:(Kv (n+1) u.names []).lookup x with|none=>rw[e]at h;exact .inr h|some d=>rw[e]at h;exact .inl h
theorem K7(h:(x,NameKind.free)∈u.names∨u.names.lookup x=Jp .cell):∃c,(C1 env u n).lookup x=Jp c:=by
 rcases h with h|h;let#[c,hc]:=fK (env:=env) (x:=x) u.names [] (.inr h);unfold C1;rw[aG,QAU,hc];cases(Kv (n+1) u.names []).lookup x with
 |none=>exact#[_,rfl]|some d=>exact#[d,rfl]
 exact WP.mp (Wn _ _ _ (.inl h))
theorem Z7(y:(x,NameKind.cell)∉u.names)(h:(CI env u.names []).lookup x=Jp c):(C1 env u n).lookup x=Jp c:=by
 unfold C1;rw[aG,QAU,h];cases e:(Kv (n+1) u.names []).lookup x with|none=>rfl|some d=>exact gJ ((rS _ _ _ (Q4 e)).resolve_right λz=>nomatch z) y
noncomputable def IG(h:js)(u:Kw):Heap:=pushCells (h.push { cls:=.type "dict",data:=.dict #[] }) u.names
theorem NJ{M:Zp}{A:ju}{E:pB}{s:Jq}{g b:jy}{h:Str}{Q:Env->Jq->Prop}
  (w:Q (newEnv u s.1.1.size g (C1 env u s.1.1.size) h Jr .none (Jp env) b) { s with heap:=IG s.1 u,toks:=s.toks }) :
  Jw M A (Yz u g (CI env u.names []) [] h Jr .none (Jp env) b) Q E s:=by
 simp only[Yz,QC3,if_true];refine QA (wpAny_alloc ?_);refine QA (wpAny_layCells _ (λv y cells=>by cases z:y==NameKind.cell<;>simp[z]) _ _ _ _ ?_);rw[show({ s with heap:=s.1.push { cls:=.type "dict",data:=.dict #[] } }:Jq).1.objs.size=s.1.1.size+1 from qz ..];rw[QBV];exact QA (QH (QH w))
def DA(X:Cx)(u:Kw)(h:LS)(mask:List Bool)(s:Jq)(H:Hp)(ex:List jy):Cx :=
  { X with N:=h++tB mask 0 X.N,s₀:=s,H₀:=H,env:=compEnvC u (C1 X.env u s.1.1.size) s.1.1.size X.env,outer:=X.stack,stack:=X.stack,ex:=ex,fn:=λx=>u.names.lookup x==Jp .cell,pn:=[],xe:=λ_ _=>False }
def sH(k:Nat)(mask:List Bool)(σ:St):St:=Q8 k Jr++aC mask σ
end
section
variable{X:Cx}{g:GB}{σ:St}{H:Hp}{s:Jq}{w:Kw}{f:LS}{mask:List Bool}{ex:List jy}
theorem CompSt.cells(C:CompSt X.N X.env.scope w f mask)(ok:X.Ok):∀y∈w.names,y.2=.free->∃c,X.env.cells.lookup y.1=Jp c:=λy h x =>
 ok.has y.1 (C.free y h x)
theorem CompSt.kindCF(C:CompSt X.N X.env.scope w f mask){x:Str}(h:(Xx w X.env).names.lookup x=Jp .cell∨(Xx w X.env).names.lookup x=Jp .free):(x,NameKind.free)∈w.names∨w.names.lookup x=Jp .cell:=by
 have e:=pC X.env.scope x w.names;have y:(Xx w X.env).names.lookup x=(w.names.lookup x).map λk=>if(k==NameKind.free&&X.env.scope.kind==.function&&X.env.scope.names.lookup x==Jp .cell) then NameKind.cell else k:=e
 rw[y]at h;cases q:w.names.lookup x with
 |none=>rw[q]at h;simp at h|some k =>
  have hm:=Q4 q;cases k with|free=>exact .inl hm|cell=>exact .inr rfl|«local»=>rw[q]at h;simp at h|_=>rw[q]at h;simp at h
theorem dS(I:Inv X g σ H s)(C:CompSt X.N X.env.scope w f mask)(K:∀b∈ex,BH X g H b/\b<s.1.1.size){t':Nat} :
  Inv (DA X w f mask s H ex) [] (sH f.9 mask σ) H { s with heap:=IG s.1 w,toks:=t' }:=by
 have kept:∀b u,s.1.get? b=Jp u->(IG s.1 w).get? b=Jp u:=λb u e=>QCI _ _ _ _ (QI _ e);have hn:(IG s.1 w).Ns s.1.1.size (λ_=>Jr):=(Heap.Ns.new s.1 (.type "dict")).keeps (QCI _ _);have P:CellsOk (IG s.1 w) (s.1.1.size+1) (Kv (s.1.1.size+1) w.names []):=by
  have:=cellsFrom_ok w.names (s.1.push { cls:=.type "dict",data:=.dict #[] }) (s.1.1.size+1) [] #[λ_ _ z=>(nomatch z),QEB.nil] (by rw[qz];exact QV _)
  rwa [qz]at this
 have look:∀x c,(CI X.env w.names []).lookup x=Jp c->X.env.cells.lookup x=Jp c:=λx c e=>OL w.names [] (C.cells I.ok) (λc z=>by simp at z) e;have J:∀x c,X.env.cells.lookup x=Jp c->c<s.1.1.size:=λx c e=>by let#[_,_,Y,_]:=I.cell x c e;exact QS Y
 have j:∀x c,(Kv (s.1.1.size+1) w.names []).lookup x=Jp c->(IG s.1 w).IsCell c Jr/\s.1.1.size+1<=c:=λx c e=>P.empty x c (Q4 e);have nofs:∀b∈ex,b∉lW X.stack:=λb hb z=>by let#[#[_,f1,f2,_],_]:=K b hb;rcases QK.mp (I.stkSub b z) with e|e;exact f1 e;exact f2 e
 refine#[#[I.ok.mod,C.kind,I.ok.glob,I.ok.blt,QV _,λx y c E W=>?inj,λx hx=>?_,λx c hf hc=>?cab,I.ok.hd,I.ok.frames,.inl rfl,λb hb=>?_,I.bs,Qc I.ok.bsz I.sz,λb o e hb=>?_,nofs,I.stack,I.stkFree],
  rfl,I.bare,Un.kept kept,#[_,hn,λi x v E W h3=>?_],λx c h=>?_,I.hok.fresh (QV _),λx c h=>?frC,λp S=>gJ (show p∈([]:GB) from S) (by simp),I.hok.kept kept,?_]
 case inj =>
  rcases tF E with a|a<;>rcases tF W with b|b;have ma:=Q4 a;have mb:=Q4 b;refine qK λne=>?_;have:∀{l:List (Str×jy)},l.Pairwise (λx y=>x.2≠y.2)->(x,c)∈l->(y,c)∈l->False:=by
   intro l S E W;induction S with|nil=>cases E|cons hh _ ih=>rcases QK.mp E with O|O<;>rcases QK.mp W with Y|Y;rw[<- O]at Y;cases Y;exact ne rfl;exact hh _ Y (by rw[<- O]);exact hh _ O (by rw[<- Y]);exact ih O Y
  exact this P.apart ma mb;exact gJ (Ql (qM (J y c (look y c b))) (j x c a).2) (wJ _);exact gJ (Ql (qM (J x c (look x c a))) (j y c b).2) (wJ _);exact I.ok.inj x y c (look x c a) (look y c b)
 case cab=>have hs:((Kv (s.1.1.size+1) w.names []).lookup x).isSome=true:=Wn _ _ _ (.inl (qu hf));let#[d,F]:=WP.mp hs;have hc:(C1 X.env w s.1.1.size).lookup x=Jp c:=hc;unfold C1 at hc;rw[aG,QAU,F]at hc;cases hc;exact QDH (j x _ F).2
 case frC=>rcases tF h with z|z;exact I.hok.fresh (QDH (j x c z).2);exact I.freeC x c (look x c z)
 exact K7 (C.kindCF hx);let#[#[_,_,_,_,f4,_],lt]:=K b hb;refine#[Qe lt,λx c e=>?_];rcases tF e with z|z;exact wQ (Ql (qM lt) (j x c z).2);exact f4 x c (look x c z);let#[#[_,_,_,f3,_],_]:=K b hb;rcases f3 with z|z;exact I.ok.noex b o e z;exact gJ (Ql (QS (I.ok.bs b o e).1) z) (wJ _)
 ·
  have hi:f.9<=i:=by rcases QCJ i f.9 with z|z;unfold sH at W;rw[qJ (by simpa using z),Wb]at W;split at W<;>cases W;exact z
  have B:(tB mask 0 X.N)[i - f.9]?=Jp x:=by have:(f++tB mask 0 X.N)[i]?=Jp x:=E;rw[Qx hi]at this;exact this
  have h2':(aC mask σ)[i - f.9]?=Jp (Jp v):=by unfold sH at W;rw[Qx (by simpa using hi)]at W;simpa using W
  let#[g1,g2]:=RJ mask 0 X.N σ _ v h2';rw[g2]at B;have L:x∈f++tB mask 0 X.N:=Qq (show(f++tB mask 0 X.N)[i]?=Jp x from E);have Z:x∉f:=λz=>by have nd:=C.nd;rw[qT]at nd;exact nd.2.2 x z x (Qq (by rw[g2];exact B)) rfl
  have n:(x,NameKind.free)∈w.names:=by
   rcases h3 with z|z|z;exfalso;have e:(Xx w X.env).names.lookup x=Jp .local:=z;have Y:=pC X.env.scope x w.names;have e3:(Xx w X.env).names.lookup x=(w.names.lookup x).map λk=>if(k==NameKind.free&&X.env.scope.kind==.function&&X.env.scope.names.lookup x==Jp .cell) then NameKind.cell else k:=Y
   rw[e3]at e;cases q:w.names.lookup x with
   |none=>rw[q]at e;cases e|some k =>
    rw[q]at e;have hm:=Q4 q;have R:k=.local:=by
     cases k with|«local»=>rfl|free=>simp at e;split at e<;>cases e|_=>simp at e
    subst R;rcases C.loc _ hm rfl with z|z;exact Z z;exact C.no0 (z▸L)
   exact(C.kindCF (.inl z)).resolve_right λy=>Z (C.cel _ (Q4 y) rfl);exact(C.kindCF (.inr z)).resolve_right λy=>Z (C.cel _ (Q4 y) rfl)
  let#[m,hnm,hl]:=I.loc;have Q:Ni X.env.scope x:=.inr (C.free _ n rfl);let#[u,r,l]:=hl _ x v B g1 Q;refine#[u,r,?_];rcases l with⟨k,_⟩| ⟨_,c,hc,A⟩
  exfalso;have k':X.env.scope.names.lookup x=Jp .local:=k;rcases C.free _ n rfl with z|z;have G:X.env.scope.names.lookup x=Jp .cell:=z;rw[k']at G;cases G;have G:X.env.scope.names.lookup x=Jp .free:=z;rw[k']at G;cases G;let#[c',M]:=fK (env:=X.env) w.names [] (.inr n);have:c'=c:=by have:=look x c' M;rw[hc]at this;exact(Qy this).symm
  subst this;refine .inr #[?_,c',Z7 (λy=>Z (C.cel _ y rfl)) M,?_];rcases h3 with z|z|z
  ·exfalso
   have e:(Xx w X.env).names.lookup x=Jp .local:=z;have Y:=pC X.env.scope x w.names;have e3:(Xx w X.env).names.lookup x=(w.names.lookup x).map λk=>if(k==NameKind.free&&X.env.scope.kind==.function&&X.env.scope.names.lookup x==Jp .cell) then NameKind.cell else k:=Y
   rw[e3]at e;cases q:w.names.lookup x with
   |none=>rw[q]at e;cases e|some k =>
    rw[q]at e;have hm:=Q4 q;have R:k=.local:=by
     cases k with|«local»=>rfl|free=>simp at e;split at e<;>cases e|_=>simp at e
    subst R;rcases C.loc _ hm rfl with z|z;exact Z z;exact C.no0 (z▸L)
  exact .inl z;exact .inr z;let#[o,ho,F]:=A;exact#[o,kept _ _ ho,F]
 rcases tF h with z|z
 ·exact#[Jr,(j x c z).1]
 let#[v,o,ho,F]:=I.cell x c (look x c z);exact#[v,o,kept _ _ ho,F];show(sH f.9 mask σ).9=(f++tB mask 0 X.N).9;unfold sH;rw[QN,QN,wF,RH,CL,I.len]
end
section
variable{X:Cx}{h:GB}{σ k:St}{H w:Hp}{s s':Jq}{x:Kw}{a:LS}{mask:List Bool}{ex:List jy}{D:jy}{y:LV}{its:LW}
theorem gS(I:Inv X h σ H s)(m:∀b∈ex,BH X h H b/\b<s.1.1.size)(W:D∈ex)(J:Inv (DA X x a mask s H ex) [] k w s')(f:w D=Jr)(hv:uA y its)(hz:y.9<=jx)
  (hl:s'.1.PlainList D its.toArray) {g:js}(hs:qZ s.1.1.size s'.1 g):Inv X h σ (KA w D (.lst y)) { s' with heap:=g }:=by
 have un:Un (lW X.stack) ex H w s.1 s'.heap:=J.base;have j:∀b o,s.1.get? b=Jp o->b≠s.1.1.size:=λb o e=>Qe (QS e);have C:=m D W;have Z:w s.1.1.size=none:=J.free;have M:D≠s.1.1.size:=Qe C.2;have p:∀b u,b≠s.1.1.size->s'.1.get? b=Jp u->g.get? b=Jp u:=λb u B e=>hs.extBut b u B e;refine I.call' (s':={ s' with heap:=g }) (ch:=ex) J.os #[λb o e n hb i=>?_,λb o e n hb i=>?_,λb o e n i=>?_,λb o e i=>?_,λb r e=>?_,λb o u e=>?_,λb A e=>?_] ?_ J.bare λb hb=>?_;exact p b o (j b o e) (un.keep b o e n hb i);let#[K,q]:=un.slot b o e n hb i;exact#[K,p b _ (j b o e) q];have q:=un.free b o e n i;rw[vA (λ(z:b=D)=>i (by rw[z];exact W))];exact q;let#[Y,q]:=un.there b o e i;exact#[Y,p b Y (j b o e) q];rw[vA (aA (un.tups b r e) f)];exact un.tups b r e;rw[vA (aA (un.frzs b o u e) f)];exact un.frzs b o u e;let#[l,q]:=un.tbls b A e;exact#[l,by rw[vA (aA q f)];exact q];intro b u e;by_cases hb:b=D;subst hb;rw[YA]at e;cases e;let#[n,q]:=hl;exact#[hz,its,n,hv,p _ _ M q];rw[vA hb]at e;refine(J.hok b u e).stay (λc v hc q=>p c v ?_ q) (λc q=>?_) λc r q=>?_;rintro rfl;rcases hc with z|z;subst z;rw[Z]at e;cases e;rw[Z]at z;cases z;rw[vA (aA q f)];exact q;rw[vA (aA q f)];exact q;let#[#[O,L,N,G,F,E],_]:=m b hb;exact#[G,L,F,E]
end
section
variable{X:Cx}{s:Jq}{U Y V:Expr}{Z:List Expr}{d:Kw}{pos:Pos}{K:TI}{g:TG}{tc:TT}{te:TE}{l:LS}{mask:List Bool}{j:GB}
def Ii(X:Cx)(Z:List Expr)(t:TT):Prop:=∀(j:GB) (s:Jq) (h:St) (H:Hp) (Q:Bool->Hp->Prop),Inv X j h H s->t h H Q ->
 Jw (jz X.prog X.w) X.A (forIn Z Js λc r=>if r=Js then do let ok <- isTrue c X.env (kx c X.env);Gu (ForInStep.yield ok) else Gu (ForInStep.yield r)) (TP X j h Q) X.xe s
theorem VT:Ii X [] (λ_ H Q=>Q Js H):=λj s x H Q I h=>by rw[QBV];exact QH #[H,I,h]
theorem KT{c:Expr}{t:TT}(hc:PT X c t):Ii X [c] t:=λj s x H Q I h=>by rw[QAT];simp only[if_true];refine QA (QA (DB (hc j s x H Q I h) λb y q=>QH ?_));dsimp only;rw[QBV];exact QH q
theorem EF{prog:jv}{w:jr}{A:ju}{R:Result->Jq->Prop}{y:Expr}{it q:Ju}{env:Env}(I:Nat->Jq->Prop)
  (W:∀n s,I n s->Jw (jz prog w) A (ku it) (λr k=>match r with
   |none=>R (.ok .next) k|some v=>Jw (jz prog w) A (kd y it v) (λ_ u=>Jw (jz prog w) A (vr y env v) (λ_ f =>
     Jw (jz prog w) A (forIn Z Js λc r=>if r=Js then do let ok <- isTrue c env (kx c env);Gu (ForInStep.yield ok) else Gu (ForInStep.yield r)) (λok z =>
      if ok=Js then Jw (jz prog w) A (kx U env) (λx e =>
       Jw (jz prog w) A (vt (.builtin "list.append") [q,x]) (λ_ b=>∃m,m<n/\I m b) (λ_ _=>False) e) (λ_ _=>False) z
      else ∃m,m<n/\I m z) (λ_ _=>False) f) (λ_ _=>False) u) (λ_ _=>False) k) (λ_ _=>False) s)
  (n:Nat) (h:I n s) :
  vz (jz prog w) A (.compLoop (.ListComp U [#[y,Y,Z,0]] d pos) 0 it q env) R s:=by
 refine codeAny_loop rfl I (λn s F=>?_) n h;show Jw _ A ((compTurn (.ListComp U [#[y,Y,Z,0]] d pos) 0 it q env).onRaise (λx=>do noteFrame x env;theTreesLotGoes x)) _ _ s;refine wpAny_noted ?_;rw[compTurn_list];refine QA (QC0 (QA (WE (W n s F) (λr k o=>?_) λ_ _ a=>a.elim)));cases r with
 |none=>exact QH o|some v =>
  refine QA (WE o (λ_ u p=>?_) λ_ _ a=>a.elim);refine QA (WE p (λ_ f E=>QA (WE E (λok z i=>?_) λ_ _ a=>a.elim)) λ_ _ a=>a.elim);cases ok with|false=>exact QH #[rfl,i]|true=>exact QA (QA (WE i (λx e C=>QA (WE C (λ_ b B=>QH (QH #[rfl,B])) λ_ _ a=>a.elim)) λ_ _ a=>a.elim))
def mX(K:TI)(g:TG)(tc:TT)(te:TE)(k:Nat)(mask:List Bool):TE:=λa H Q=>K a H λJ q=>∃W:Nat->Nat->LV->St->Hp->Prop,(∃m,W 0 m [] (sH k mask a) q) /\
 ∀i m h v u,W i m h v u->(J.stop i u/\h.9<=jx/\∀p,u p=Jr->Q (.ref p) (KA u p (.lst h))) ∨
  (J.go i u/\∀x f,J.yld i u x f->g x v f λz o=>tc z o λb e=>if b=Js then te z e λy n=>h.9<jx/\∃w,w < m/\W (i+1) w (h++[y]) z n else ∃w,w < m/\W (i+1) w h z e)
def cj(X:Cx)(j:GB)(H:Hp)(s:Jq)(C:jy):Prop :=
 H C=Jr/\C≠X.env.locals/\X.s₀.1.1.size<=C/\(∀x c,X.env.cells.lookup x=Jp c->c≠C)/\(∀p∈X.pn++j,p.1≠C)/\∃m,s.1.Ns C m
theorem yQ{pos':Pos}{use:Option (Ju->Sem Unit)}(hc:X.calm=Js)(hi:PI X V Y K)(C:CompSt X.N X.env.scope d l mask)
  (inner:∀s H ex,PG (DA X d l mask s H ex) V g/\Ii (DA X d l mask s H ex) Z tc/\PE (DA X d l mask s H ex) U te)
  (hs:∀x,ky Y X.env x=Gu x) {σ:St}{H:Hp}{Q:VK}{QQ:pB}(I:Inv X j σ H s) (h:mX K g tc te l.9 mask σ H Q)
  (fin:∀(D:jy) (f:Hp) (s6:Jq) (F:jy),Inv X j σ f s6->cj X j f s6 F->Q (.ref D) f->compPost (jz X.prog X.w) X.A X.xe use QQ (.ref D) F (.ok .next) s6) :
  Jw (jz X.prog X.w) X.A (yp (.ListComp U [#[V,Y,Z,0]] d pos) d X.env pos' (y4 []) Jt (kx Y X.env) use) QQ X.xe s:=by
 refine wpAny_comprehension_free (use:=use) rfl hs (mS (C.cells I.ok)) C.kind C.names (DB (hi j s σ H _ I h) λv s1 h1=>DB h1 λitv s2 h2=>?_);let#[it,a,tn,J,B,e,I2,T,st2,f2,W,#[m0,w0],turn]:=h2;subst e;refine Qu ?_;have I3:Inv X j σ B { s2 with heap:=s2.1.push { cls:=.type "list",data:=.seq ([]:LW).toArray } }:=I2.kept (t':=s2.toks) λb o e=>QI _ e;generalize hS:({ s2 with heap:=s2.1.push { cls:=.type "list",data:=.seq ([]:LW).toArray } }:Jq)=s3 at I3;have sz3:s3.1.1.size=s2.1.1.size+1:=by rw[<- hS];exact qz ..
 have lst3:s3.1.PlainList s2.1.1.size ([]:LW).toArray:=#[0,by rw[<- hS];exact QO _ rfl]
 have old3:∀b o,s2.1.get? b=Jp o->s3.1.get? b=Jp o:=λb o e=>by rw[<- hS];exact QI _ e
 generalize hDd:s2.1.1.size=D at sz3 lst3;have fD:BH X j B D:=by rw[<- hDd];exact I2.fpOk (QV _) (I2.hok.fresh (QV _))
 have fpl:∀b∈a,b<D:=λb hb=>by let#[o,e,_]:=T.obj _ _ st2 b hb;rw[<- hDd];exact QS e
 have hex:∀b∈D::a,BH X j B b/\b<s3.1.1.size:=λb hb=>by rcases QK.mp hb with z|z;subst z;exact#[fD,by rw[sz3];exact QAG _];exact#[f2 b z,by rw[sz3];exact qM (fpl b z)]
 refine NJ ?_;have J0:Inv (DA X d l mask s3 B (D::a)) [] (sH l.9 mask σ) B { s3 with heap:=IG s3.1 d,toks:=s3.toks }:=dS I3 C hex;have kept:∀b u,s3.1.get? b=Jp u->(IG s3.1 d).get? b=Jp u:=λb u e=>QCI _ _ _ _ (QI _ e);generalize IG s3.1 d=h' at J0 kept ⊢;let#[pg,pf,pl]:=inner s3 B (D::a);have loop:∀s4:Jq,s4={ s3 with heap:=h',toks:=s3.toks } ->
   vz (jz X.prog X.w) X.A (.compLoop (.ListComp U [#[V,Y,Z,0]] d pos) 0 (.ref it) (.ref D) (compEnvC d (C1 X.env d s3.1.1.size) s3.1.1.size X.env))
    (compPost (jz X.prog X.w) X.A X.xe use QQ (.ref D) s3.1.1.size) s4:=by
  rintro s4 rfl;have S:∀{f:Hp},(∀b∈D::a,f b=Jr)->∀(pp:GB),(∀p∈pp,p.1∉a)->∀b∈a,BH (DA X d l mask s3 B (D::a)) pp f b:=λ{f} hn pp hpp b hb=>by have g:=J0.ok.exf b (QC _ hb);exact#[hn b (QC _ hb),g.1,J0.ok.exfs b (QC _ hb),.inl (QC _ hb),g.2,λp E z=>hpp p (by simpa[DA]using E) (z▸hb)]
  have DX:=J0.ok.exf D QD;have Dfp:D∉a:=λz=>wJ _ (fpl D z);refine EF (λn L=>∃i m f G k,Inv (DA X d l mask s3 B (D::a)) [] m f L/\tn i L.1/\(∀b∈D::a,f b=Jr)/\uA G k/\L.1.PlainList D k.toArray/\W i n G m f) ?_ m0
   #[0,_,B,[],[],J0,T.keep _ _ _ (T.keep _ _ _ st2 λb hb o e=>old3 b o e) λb hb o e=>kept b o e,λb hb=>((hex b hb).1).1,.nil,lst3.at λo e=>kept _ _ e,w0]
  rintro n s5 ⟨i,O,H5,G,k,I5,st5,R,va5,ls5,w5⟩;let#[nL,lo]:=id ls5;have pinD:∀{m:St}{f:Hp}{L:Jq},Inv (DA X d l mask s3 B (D::a)) [] m f L->(∀b∈D::a,f b=Jr)->L.1.get? D=Jp { cls:=.type "list",dict:=Jr,data:=.seq k.toArray nL } ->
    Inv (DA X d l mask s3 B (D::a)) [(D,{ cls:=.type "list",dict:=Jr,data:=.seq k.toArray nL })] m f L:=λ{m f L} I' fr' e' =>
   I'.pins_of λp E=>by
    have e:p=(D,{ cls:=.type "list",dict:=Jr,data:=.seq k.toArray nL }):=by simpa using E
    subst e;exact#[e',fr' D QD,DX.1,J0.ok.exfs D QD,λv z=>by cases z]
  have P:∀p∈[(D,({ cls:=.type "list",dict:=Jr,data:=.seq k.toArray nL }:Obj))],p.1∉a:=λp E=>by
   have e:p=(D,{ cls:=.type "list",dict:=Jr,data:=.seq k.toArray nL }):=by simpa using E
   subst e;exact Dfp
  have I5':=pinD I5 R lo;rcases turn i n G O H5 w5 with⟨stop,hz,qn⟩| ⟨go,step⟩
  refine DB (T.done (DA X d l mask s3 B (D::a)) rfl rfl rfl hc i _ s5 O H5 (λ_ _=>False) I5' (S R _ P) st5 stop) λr s6 #[hr,I6]=>?_;subst hr;let#[m6,hn6,_]:=I6.loc;have l6:s6.1.PlainList D k.toArray:=#[nL,(I6.pin _ (QR _ (QJ.mpr rfl))).1]
  have I6':Inv (DA X d l mask s3 B (D::a)) [] O H5 s6:=I6.pins_of λp E=>by simp at E
  have Iout:Inv X j σ (KA H5 D (.lst G)) s6:=gS I3 hex QD I6' (R D QD) va5 hz l6 (QBg _ _);have lC:H5 s3.1.1.size=none:=I6'.free;refine fin D _ s6 s3.1.1.size Iout #[?_,wQ I3.lt,I3.sz,λx c e z=>?_,λp E z=>?_,m6,hn6] (qn D (R D QD));rw[vA (λ(z:s3.1.1.size=D)=>gJ (hex D QD).2 (by rw[z];exact wJ _))];exact lC;let#[v,q]:=I3.cell x c e;exact gJ q.lt (by rw[z];exact wJ _);exact gJ (QS (I3.pin p E).1) (by rw[z];exact wJ _);refine DB (T.item (DA X d l mask s3 B (D::a)) rfl rfl rfl hc i _ s5 O H5 (λ_ _=>False) I5' (S R _ P) st5 go) λr s6 #[u,hr,h6]=>?_;subst hr;refine DB h6 λ_ s7 #[x,H7,I7,r7,y7,st7,fr7]=>?_;have hD7:=(I7.pin _ (QR _ (QJ.mpr rfl)))
  have fr7':∀b∈D::a,H7 b=none:=λb hb=>by rcases QK.mp hb with z|z;subst z;exact hD7.2.1;exact fr7 b z
  have I7':=I7.pinned (S fr7' _ P) (T.obj _ _ st7);have bk:∀{m:St}{f:Hp}{L:Jq},Inv (DA X d l mask s3 B (D::a)) ([(D,{ cls:=.type "list",dict:=Jr,data:=.seq k.toArray nL })]++UJ a s7.1) m f L ->
    L.1.get? D=Jp { cls:=.type "list",dict:=Jr,data:=.seq k.toArray nL }/\tn (i+1) L.1/\(∀b∈D::a,f b=Jr):=λ{m f L} I'=>by
   have hD:=I'.pin (D,{ cls:=.type "list",dict:=Jr,data:=.seq k.toArray nL }) (QR _ (Qd _ (QJ.mpr rfl)));refine#[hD.1,T.keep _ _ _ st7 λb hb o e=>(I'.pin (b,o) (QR _ (QR _ (oE hb e)))).1,λb hb=>?_];rcases QK.mp hb with z|z;subst z;exact hD.2.1;let#[o,e,_]:=T.obj _ _ st7 b z;exact(I'.pin (b,o) (QR _ (QR _ (oE z e)))).2.1
  refine DB (pg _ s7 O H7 x u _ I7' r7 (step x H7 y7)) λ_ s8 #[M,H8,I8,q8]=>?_;refine DB (pf _ s8 M H8 _ I8 q8) λok s9 #[H9,I9,q9]=>?_;cases ok with
  |false=>let#[m',hm,w']:=q9;let#[b1,b2,b3]:=bk I9;exact#[m',hm,i+1,M,H9,G,k,I9.pins_of λp E=>by simp at E,b2,b3,va5,#[nL,b1],w']|true =>
   refine DB (pl _ s9 M H9 _ I9 q9) λy s10 #[yv,H10,I10,r10,hz,m',hm,w']=>?_;let#[b1,b2,b3]:=bk I10;have hlen:=va5.9;refine wpAny_list_append_plain (hsz:=by rw[QU];omega) (show s10.1.PlainList D k.toArray from#[nL,b1]) λh11 hl11 hs11=>?_;refine#[m',hm,i+1,M,H10,G++[yv],k++[y],?_,T.keep _ _ _ b2 λb hb o e=>(hs11.2 b (λz=>Dfp (z▸hb))).trans e,b3,va5.append (.cons r10 .nil),by simpa using hl11,w'];have I10':Inv (DA X d l mask s3 B (D::a)) [] M H10 s10:=I10.pins_of λp E=>by simp at E
   exact I10'.turned (t':=s10.toks) (λb o hb e=>(hs11.2 b hb).trans e) (b3 D QD) DX.1 (.inl QD) DX.2 λp E=>by simp[DA]at E
 refine codeAny_compStart_list (loop _ rfl) (T.self X.A 0 _ _ _ (T.keep _ _ _ (T.keep _ _ _ st2 λb hb o e=>old3 b o e) λb hb o e=>kept b o e) (loop _ rfl))
theorem jK{σ:St}{H:Hp}{F:jy}(I:Inv X j σ H s)(f:cj X j H s F){h':js}(hs:qZ F s.1 h'):Inv X j σ H { s with heap:=h' }:=by let#[u,z,y,x,h,_]:=f;exact I.turned (t':=s.toks) (λb o hb e=>(hs.2 b hb).trans e) u z (.inr y) x h
theorem Z5(hc:X.calm=Js)(v:PI X V Y K)(C:CompSt X.N X.env.scope d l mask)
  (y:∀s H ex,PG (DA X d l mask s H ex) V g/\Ii (DA X d l mask s H ex) Z tc/\PE (DA X d l mask s H ex) U te)
  (hs:∀x,ky Y X.env x=Gu x:=by intro _;rfl):PE X (.ListComp U [#[V,Y,Z,0]] d pos) (mX K g tc te l.9 mask):=by
 intro j s a H Q I h;rw[eval_ListComp];refine yQ hc v C y hs I h λD k b F w f q=>?_;let#[m,u]:=f.2.2.2.2.2;exact#[m,u,λe z=>#[.ref D,k,jK w f z,rfl,q]]
theorem z5{cpos u:Pos}{i:Nat}{x:Str}(hc:X.calm=Js)(Q:X.N.Nodup)(n:X.N[i]?=Jp x)(p:X.env.scope.names.lookup x=Jp .local)
  (O:PI X V Y K) (C:CompSt X.N X.env.scope d l mask)
  (y:∀s H ex,PG (DA X d l mask s H ex) V g/\Ii (DA X d l mask s H ex) Z tc/\PE (DA X d l mask s H ex) U te)
  (hs:∀x,ky Y X.env x=Gu x) (k:Vu (.ListComp U [#[V,Y,Z,0]] d cpos) (Jp (.Name x u)) pos.line X.env=Gu Js) :
  PS X (.Assign [.Name x u] (.ListComp U [#[V,Y,Z,0]] d cpos) pos) (yb (mX K g tc te l.9 mask) (pU i)):=by
 intro j s σ H D0 I h;rw[exec_Assign_Name_used _ _ _ _ k];refine QA (QC0 (QA ?_));show Jw _ X.A (do let _ <- yp (.ListComp U [#[V,Y,Z,0]] d cpos) d X.env _ (y4 []) Jt (kx Y X.env) (Jp (vr (.Name x u) X.env))) _ _ s;refine QA (WE (yQ (use:=Jp (vr (.Name x u) X.env)) (QQ:=λ_ o=>SP X j D0 .next o) hc O C y hs I h λD H' G F I6 f q=>?_) (λ_ o L=>QH (QH L)) λ_ _ e=>e);show Jw _ X.A (vr (.Name x u) X.env (.ref D)) _ _ G;refine QDE (kL I6 Q n (.inl p) (v:=.ref D) rfl (λE I7 #[a,B,P]=>?_) (.inr p));let#[f0,W,S,r,R,m,M]:=f;have J:F≠a:=by rcases P with z|z;rw[z];exact W;exact λe=>r x a z e.symm
 have w:E.1.Ns F m:=M.sameBut B J;exact#[m,w,λh' b=>#[_,H',jK I7 #[f0,W,S,r,R,m,w] b,q]]
end
end L2
namespace L2.L3
open PySem PySem.Spec PyProof.Rows
def Eg(K:QE):R2:=λx y H Q=>match x,y with
 | .int i,.int j=>Q (.int (i+j)) H|.str a,.str b=>a.9+b.9<=jx/\Q (.str (a++b)) H|.ref a,.ref b=>(∃z h,uC K H a z/\uC K H b h/\z.9+h.9<=jx/\∀p,H p=Jr->Q (.ref p) (KA H p (.lst (z++h))))∨f8 K (.ref a) (.ref b) H Q|_,_=>False
noncomputable def Ug:R2:=λx y H Q=>match x,y with
 | .int i,.int j=>Q (.int (i - j)) H|_,_=>False
def RG(x:Str)(n:Int):Str:=Txt.mul x n
def Lg(K:QE):R2:=λx y H Q=>match x,y with
 | .int i,.int j=>Xs i j/\Q (.int (i * j)) H|.str a,.int k=>(-(2 ^ 31)<=k/\k<2 ^ 31/\a.9 * k.toNat<=jx)/\Q (.str (RG a k)) H|.ref a,.int k=>Hg (.ref a) (.int k) H Q|_,_=>False
noncomputable def d8:R2:=λx y H Q=>match x,y with
 | .int i,.int j=>(0<j/\j<2 ^ 200)/\Q (.int (i / j)) H|_,_=>False
noncomputable def Mg:R2:=λx y H Q=>match x,y with
 | .int i,.int j=>0<j/\Q (.int (i % j)) H|_,_=>False
section
variable{X:Cx}
theorem op_add:NE X (Kq .Add) (Eg X.K):=by
 intro z s g H x y v u Q I f e h;cases x with
 |int i =>
  cases y with|int j=>exact _root_.L2.op_add z s g H _ _ v u Q I f e #[i,j,rfl,rfl,h]|_=>exact Qh h
 |str a =>
  cases y with|str b=>exact mR z s g H _ _ v u Q I f e #[a,b,rfl,rfl,h.1,h.2]|_=>exact Qh h
 |ref a =>
  cases y with
  |ref b =>
   rcases h with⟨xs,ys,N,M,hz,q⟩| h;cases f;cases e;let#[k,r,#[#[S,R,A,G],L,W,E,d1,p],z1]:=I.list N;let#[w,Y,#[#[B,m,n,l],J,Z,C,d2,o],z2]:=I.list M;simp only at E p C o;subst E p C o;have hl:=r.9;have O:=Y.9;refine QDU #[_,W,rfl] #[_,Z,rfl] noFill_list_add seq_list_add PySem.F.slot_list_add PySem.F.entry_list_add (PySem.F.args_list_add_2 _ _) (list_addW a b k.toArray w.toArray L J R m G l (by simp;omega)) #[W,Z,?_];have P:k.toArray++w.toArray=(k++w).toArray:=by simp
   rw[P];exact#[.ref _,_,I.lnew (t':=s.toks) (r.append Y) (by rw[QN];omega),rfl,q _ I.fresh];exact G5 z s g H _ _ v u Q I f e h
  |_=>exact Qh h
 |_=>exact Qh h
theorem op_sub:NE X (Kq .Sub) Ug:=by
 intro z s w H x y v u Q I a k h;cases x with
 |int i =>
  cases y with|int j=>exact _root_.L2.op_sub z s w H _ _ v u Q I a k #[i,j,rfl,rfl,h]|_=>exact Qh h
 |_=>exact Qh h
theorem F5:NE X (Kq .FloorDiv) d8:=by
 intro z s a H x y v u Q I k w h;cases x with
 |int i =>
  cases y with
  |int j =>
   let#[t,rfl]:=k;let#[b,rfl]:=w;let#[#[f,e],q]:=h;refine floordiv_int () ?_ (.inl (PyProof.noPylong_of_log2 ?_));rw[Int.fdiv_eq_ediv_of_nonneg i ()];exact#[.int _,H,I.tok _,#[_,rfl],q];have:j.natAbs<2 ^ 200:=()
   have:=(Nat.log2_lt (show j.natAbs≠0 by omega)).mpr this;omega
  |_=>exact Qh h
 |_=>exact Qh h
theorem op_mod:NE X (Kq .Mod) Mg:=by
 intro z s w H x y v u Q I a k h;cases x with
 |int i =>
  cases y with|int j=>exact _root_.L2.op_mod z s w H _ _ v u Q I a k #[i,j,rfl,rfl,h.1,h.2]|_=>exact Qh h
 |_=>exact Qh h
theorem cc:NE X (Kq .Mult) (Lg X.K):=by
 intro z s l H x y v u Q I f w h;cases x with
 |int i =>
  cases y with|int j=>let#[t,rfl]:=f;let#[g,rfl]:=w;exact mul_int #[.int _,H,I.tok _,#[_,rfl],h.2] h.1|_=>exact Qh h
 |str a =>
  cases y with
  |int k =>
   let#[t,rfl]:=f;let#[g,rfl]:=w;let#[#[Y,r,p],q]:=h;refine SB.mul #[?_,λ_ _=>?_,λ_ _=>?_] λg o=>#[.str (RG a k),H,I.tok _,#[_,rfl],q]
   have n:decide (k < -(2 ^ 63:Int))=false:=dF ();have m:decide (k ≥ 2 ^ 63)=false:=dF ();rw[n,m];rfl;have e:(a.9:Int) * k=((a.9 * k.toNat:Nat):Int):=by rw[Int.natCast_mul,Int.toNat_of_nonneg ()]
   have:=Int.le_ediv_of_mul_le (a:=(a.9:Int)) (b:=2 ^ 63 - 1) (c:=k) () (by rw[e];omega);omega;unfold Builtin.Str.tooLong;exact dF ()
  |_=>exact Qh h
 |ref a =>
  cases y with|int k=>exact bc z s l H _ _ v u Q I f w h|_=>exact Qh h
 |_=>exact Qh h
end
end L2.L3
namespace L2
open PySem PySem.Spec PyProof.Rows
section
variable{κ:Type}[DecidableEq κ]
section
variable{p:κ×V}{r kvs:List (κ×V)}{vs:List (κ×Ju)}{u:Ju}
noncomputable def bJ(kvs:List (κ×V))(k:κ):Option V:=(kvs.find? λh=>decide (h.1=k)).map (·.2)
noncomputable def bR(kvs:List (κ×V))(k:κ)(v:V):List (κ×V) :=
 if(kvs.any λh=>decide (h.1=k))=Js then kvs.map (λh=>if h.1=k then(h.1,v) else h) else kvs++[(k,v)]
theorem xJ{k:κ}(e:p.1=k):bJ (p::r) k=Jp p.2:=by simp[bJ,wy,e]
theorem uJ{k:κ}(e:¬ p.1=k):bJ (p::r) k=bJ r k:=by simp[bJ,wy,e]
theorem mO(k:κ):∀kvs:List (κ×V),(kvs.any λh=>decide (h.1=k))=(bJ kvs k).isSome
 |[]=>rfl|p::r=>by rw[Wz];by_cases e:p.1=k;simp only[xJ e,dT e,QDS,QC3];rw[uJ e,dF e,QBr];exact mO k r
theorem aP(kvs:List (κ×V))(k:κ)(v:V):(bR kvs k v).9<=kvs.9+1:=by unfold bR;split;rw[QG];omega;rw[QN,QL,Qm];omega
theorem eQ.isSome_eq{o:Option V}{u:Option Ju}(r:eQ o u):o.isSome=u.isSome:=by
 cases o with
 |none=>cases u with|none=>rfl|some _=>exact(show False from r).elim
 |some _=>cases u with|none=>exact(show False from r).elim|some _=>rfl
theorem KV.val(r:KV kvs vs)(k:κ):eQ (bJ kvs k) (Xy vs k):=by
 unfold KV at r;induction r with
 |nil=>exact True.intro|@cons p q f x h t w =>
  let#[v,a]:=h;by_cases e:p.1=k;have y:q.1=k:=v.symm.trans e;have b:Xy (q::x) k=Jp q.2:=by simp[Xy,wy,y]
  rw[xJ e,b];exact a;have y:¬ q.1=k:=λz=>e (v.trans z);have b:Xy (q::x) k=Xy x k:=by simp[Xy,wy,y]
  rw[uJ e,b];exact w
theorem KV.any(r:KV kvs vs)(k:κ):(kvs.any λx=>decide (x.1=k))=vs.any λx=>decide (x.1=k):=by
 unfold KV at r;induction r with|nil=>rfl|cons h t y=>rw[Wz,Wz,y,h.1]
theorem KV.repl(r:KV kvs vs)(k:κ){y:V}(w:lA y u) :
  KV (kvs.map λx=>if x.1=k then(x.1,y) else x) (vs.map λx=>if x.1=k then(x.1,u) else x):=by
 unfold KV at r ⊢;induction r with|nil=>exact .nil|@cons p q g f h t a=>rw[QT,QT];refine .cons ?_ a;let#[v,b]:=h;by_cases e:p.1=k;rw[Gw e,Gw (v.symm.trans e)];exact#[v,w];rw[Gq e,Gq (λz=>e (v.trans z))];exact#[v,b]
theorem KV.put(r:KV kvs vs)(k:κ){y:V}(h:lA y u):KV (bR kvs k y) (stored vs k u):=by unfold bR stored;rw[r.any k];by_cases e:(vs.any λx=>decide (x.1=k))=Js;rw[Gw e,Gw e];exact r.repl k h;rw[Gq e,Gq e];exact Paired.snoc r #[rfl,h]
theorem KV.length(r:KV kvs vs):kvs.9=vs.length:=qq r
end
end
theorem pI{P:jv}{w:jr}{k:Key}{u:Ju}(r:lA (kV k) u):(yB P w).is k u=true:=by
 cases k with|inl i=>let#[t,e]:=(show ∃t,u=Value.int i t from r);subst e;exact nP P w i t|inr x=>let#[t,e]:=(show ∃t,u=Value.str x t from r);subst e;exact mP P w x t
theorem BL{P:jv}{w:jr}:∀{ks:List Key}{us:LW},uA (ks.map kV) us->ItemsAre (yB P w) ks us
 |[],_,r=>by rw[wt]at r;cases r;exact .nil|k::ks,_,r=>by
  rw[QT]at r;cases r with|cons h t=>exact .cons (pI h) (BL t)
end L2
namespace L2.L3
open PySem PySem.Spec PyProof.Rows
section
variable{r kvs:List KE}{k:List Key}{xs:List (List Key×jy×Ju)}
noncomputable abbrev KE:=List Key×jy×V
noncomputable def TF(kvs:List KE)(k:List Key):Option V:=(kvs.find? λp=>decide (p.1=k)).map (·.2.2)
def JJ(kvs:List KE)(k:List Key)(b:jy)(v:V):List KE :=
 if(TF kvs k).isSome=Js then kvs.map (λp=>if p.1=k then(p.1,p.2.1,v) else p) else kvs++[(k,b,v)]
noncomputable abbrev KD:List KE->List (List Key×jy×Ju)->Prop:=Kx λ(p:List Key×jy×V) (q:List Key×jy×Ju)=>p.1=q.1/\p.2.1=q.2.1/\lA p.2.2 q.2.2
theorem nO{p:KE}(e:p.1=k):TF (p::r) k=Jp p.2.2:=by simp[TF,wy,e]
theorem oO{p:KE}(e:¬ p.1=k):TF (p::r) k=TF r k:=by simp[TF,wy,e]
theorem KD.val(r:KD kvs xs)(k:List Key):eQ (TF kvs k) ((vp xs k).map (·.2)):=by
 induction r with
 |nil=>exact True.intro|@cons p q a x h t v =>
  let#[u,_,w]:=h;by_cases e:p.1=k;have y:q.1=k:=u.symm.trans e;have b:vp (q::x) k=Jp q.2:=by simp[vp,wy,y]
  rw[nO e,b];exact w;have y:¬ q.1=k:=λz=>e (u.trans z);have b:vp (q::x) k=vp x k:=by simp[vp,wy,y]
  rw[oO e,b];exact v
theorem KD.put(r:KD kvs xs)(k:List Key)(b:jy){y:V}{u:Ju}(v:lA y u):KD (JJ kvs k b y) (Zv xs k b u):=by
 have e:(TF kvs k).isSome=(vp xs k).isSome:=by rw[(r.val k).isSome_eq,QBh]
 unfold JJ Zv;rw[e];by_cases q:(vp xs k).isSome=Js;rw[Gw q,Gw q];clear e q;induction r with|nil=>exact .nil|@cons p q i g h t a=>rw[QT,QT];refine .cons ?_ a;let#[x,w,f]:=h;unfold putAt;by_cases e:p.1=k;rw[Gw e,Gw (x.symm.trans e)];exact#[x,w,v];rw[Gq e,Gq (λz=>e (x.trans z))];exact#[x,w,f]
 rw[Gq q,Gq q];exact Paired.snoc r #[rfl,rfl,v]
theorem eP(kvs:List KE)(k:List Key)(b:jy)(v:V):(JJ kvs k b v).9<=kvs.9+1:=by unfold JJ;split;rw[QG];omega;rw[QN,QL,Qm];omega
def JF(K:QE)(H:Hp)(kvs:List KE):Prop:=∀p∈kvs,HC K H p.2.1 (p.1.map kV)
theorem Inv.big{X:Cx}{x:GB}{σ:St}{H:Hp}{s:Jq}(I:Inv X x σ H s):Kz<s.1.1.size:=by have h:jp<s.1.1.size:=(I.mod.glob.keeps I.bk).lt;exact QDX (by decide) h
end
section
variable{X:Cx}{u:GB}{σ:St}{H:Hp}{s:Jq}{a b:jy}
theorem HR{k:List Key}(I:Inv X u σ H s)(h:HC X.K H b (k.map kV)):(Vy (yB X.prog X.w)).is s.1 k b:=by let#[x,r,#[o,v,z,n,y],_]:=I.tuple h;exact#[o,x.toArray,n,v,z,y,by simpa using BL r]
theorem aI{ep:Nat}{kvs:List KE}(I:Inv X u σ H s)(e:H a=Jp (.dT ep kvs))(hk:JF X.K H kvs):kvs.9<=jx/\(a==Kz)=Jt/\∃xs,KD kvs xs/\s.1.DictOfH (Vy (yB X.prog X.w)) a xs:=by
 let#[z,y,xs,r,o,n,m,l,j,f,k]:=(show ZA X.prog X.w H s.1 a (.dT ep kvs) from I.hok a _ e)
 refine#[z,y,xs,r,o,n,ep,m,l,j,f,?_,k];clear f k z e;induction r with
 |nil=>intro x h;exact nomatch h
 |@cons p q Z Y v t g=>intro x h;rcases QK.mp h with e|h;subst e;rw[<- v.1,<- v.2.1];exact HR I (hk p QD);exact g (λp i=>hk p (QC _ i)) x h
theorem PP{kvs:List (Key×V)}(I:Inv X u σ H s)(e:H a=Jp (.dK kvs)):kvs.9<=jx/\(a==Kz)=Jt/\∃vs,KV kvs vs/\s.1.DictOf (yB X.prog X.w) a vs :=
 show ZA X.prog X.w H s.1 a (.dK kvs) from I.hok a _ e
end
theorem u1{X:Cx}{h:GB}{σ:St}{H:Hp}{s:Jq}{a:jy}{ep:Nat}(I:Inv X h σ H s)(e:H a=Jp (.dT ep [])):(a==Kz)=Jt/\s.1.DictOf (yB X.prog X.w) a []:=by
 let#[z,y,g,r,o,f,b,k,v,u,i]:=(show ZA X.prog X.w H s.1 a (.dT ep []) from I.hok a _ e)
 cases r;have x:f=#[]:=by apply QAy.mp;simpa using u
 subst x;exact#[y,o,#[],ep,b,k,v,λe x=>by simp at x,.nil,Qt]
def kD:Key->Ky
 | .inl i=>.int i|.inr x=>.str x
def tD(k:List Key):PyData:=.tuple (k.map kD)
theorem LR{a b:Key}(e:kD a=kD b):a=b:=by
 cases a with
 |inl i=>cases b with|inl j=>injection e with e;rw[e]|inr y=>exact nomatch (show Jy i=Jx y from e)
 |inr x=>cases b with
  |inl j=>exact nomatch (show Jx x=Jy j from e)
  |inr y=>injection e with e;rw[e]
theorem cU:∀{a b:List Key},a.map kD=b.map kD->a=b
 |[],[],_=>rfl|[],_::_,e=>by simp at e|_::_,[],e=>by simp at e|x::xs,y::ys,e=>by rw[QT,QT]at e;injection e with e1 e2;rw[LR e1,cU e2]
theorem lX{a b:List Key}(e:tD a=tD b):a=b:=by injection e with e;exact cU e
def dI(K:QE)(H:Hp)(b:Bool)(o:HO)(ks:List Ky)(vs:LV):Prop:=match b with
 |true=>∃x,∃h:List KE,o=.dT x h/\ks=h.map (λp=>tD p.1)/\vs=h.map (·.2.2)/\JF K H h/\(h.map (·.1)).Nodup|false=>(∃h:List (Key×V),h≠[]/\o=.dK h/\ks=h.map (λp=>kD p.1)/\vs=h.map (·.2)/\(h.map (·.1)).Nodup)∨∃x,o=.dT x []/\ks=[]/\vs=[]
theorem dI.len{K:QE}{H:Hp}{b:Bool}{o:HO}{ks:List Ky}{vs:LV}(h:dI K H b o ks vs):ks.9=vs.length:=by
 cases b with|true=>let#[y,x,_,rfl,rfl,_]:=h;simp|false=>rcases h with⟨x,_,_,rfl,rfl,_⟩| ⟨_,_,rfl,rfl⟩<;>simp
def uO(K:QE)(H:Hp)(a:jy)(y:V)(r:Option V):Prop:=match y with
 | .str z=>(∃h,H a=Jp (.dK h)/\r=bJ h (.inr z))∨∃x,H a=Jp (.dT x [])/\r=Jr|.ref b=>∃x h k,H a=Jp (.dT x h)/\JF K H h/\HC K H b (k.map kV)/\r=TF h k|_=>False
def bf(K:QE)(H:Hp)(a:jy)(y v:V)(Q:Hp->Prop):Prop:=match y with
 | .str z=>(∃h,H a=Jp (.dK h)/\h.9<jx/\Q (KA H a (.dK (bR h (.inr z) v))))∨∃u,H a=Jp (.dT u [])/\Q (KA H a (.dK [(.inr z,v)]))|.ref b=>∃u h k,H a=Jp (.dT u h)/\JF K H h/\HC K H b (k.map kV)/\h.9<jx/\∀x,Q (KA H a (.dT x (JJ h k b v)))|_=>False
theorem mL{v:V}{o:Option Ju}(r:eQ (Jp v) o):∃w,o=Jp w/\lA v w:=by
 cases o with|none=>exact(show False from r).elim|some w=>exact#[w,rfl,r]
section
variable{X:Cx}
section
variable{c:GB}{s:Jq}{σ:St}{H:Hp}{a:jy}{u:Ju}{o:Option V}{h':js}{pos:Pos}
theorem L6(O:X.A.units+66<Ks):j3 X (λx y H Q=>∃a v,x=.ref a/\uO X.K H a y (Jp v)/\Q v H):=by
 intro n Y c s σ H x y v u Q I G C h hs;let#[a,r,rfl,g,q]:=h;cases G;cases y with
 |str z =>
  rcases g with⟨W,e,l⟩| ⟨M,e,l⟩
  rotate_left
  cases l;let#[_,L,F,f,m]:=PP I e;let#[i,B,w]:=mL (v:=r) (o:=Xy F (.inr z)) (by rw[l];exact f.val _);exact Wo (x:=i) m.typeIs QBW.lookup
   (wpAny_getItem_of (Q:=λr Z=>r=i/\EP X c σ Q r Z) (pI (k:=.inr z) C) m.mapOf B #[rfl,r,H,I.tok _,w,q]) hs
 |ref b =>
  let#[M,W,k,e,hk,N,l]:=g;cases C;let#[_,L,E,f,m]:=aI I e hk;let#[i,B,w]:=mL (v:=r) (o:=(vp E k).map (·.2)) (by rw[l];exact f.val _);let#[p,J,j]:=w9.mp B;refine Wo (x:=i) m.typeIs QBW.lookup
   (wpAny_getItem_heap (Q:=λr Z=>r=i/\EP X c σ Q r Z) (Wq ()) (HR I N) m J ?_) hs
  exact#[j,r,H,I.tok _,by rw[j];exact w,q]
 |_=>exact Qh g
theorem T6(r:X.A.units+66<Ks){y:V}{Q:VK}(I:Inv X c σ H s)(f:lA y u)(g:uO X.K H a y o)(q:Q (.bl o.isSome) H) :
  Jw (jz X.prog X.w) X.A (jq .In u (.ref a)) (EP X c σ Q) X.xe s:=by
 cases y with
 |str z =>
  rcases g with⟨i,e,l⟩| ⟨j,e,l⟩
  rotate_left
  subst l;let#[x,v]:=u1 I e;exact wpAny_in_of (pI (k:=.inr z) f) x v.mapOf #[.bl Jt,H,I.tok _,rfl,q];let#[_,x,p,h,v]:=PP I e;refine wpAny_in_of (pI (k:=.inr z) f) x v.mapOf #[.bl o.isSome,H,I.tok _,?_,q];rw[<- (h.val (.inr z)).isSome_eq,<- l];rfl
 |ref b=>let#[j,i,k,e,hk,m,l]:=g;cases f;let#[_,x,n,h,v]:=aI I e hk;refine wpAny_in_heap (Wq ()) (HR I m) x v #[.bl o.isSome,H,I.tok _,?_,q];have q:=(h.val k).isSome_eq;rw[QBh]at q;rw[<- q,<- l];rfl|_=>exact Qh g
theorem aR(r:X.A.units+66<Ks){y:V}{Q:VK}(I:Inv X c σ H s)(f:lA y u)(g:uO X.K H a y o)(q:Q (.bl (!o.isSome)) H) :
  Jw (jz X.prog X.w) X.A (jq .NotIn u (.ref a)) (EP X c σ Q) X.xe s:=by
 cases y with
 |str z =>
  rcases g with⟨i,e,l⟩| ⟨j,e,l⟩
  rotate_left
  subst l;let#[x,v]:=u1 I e;exact Yv (pI (k:=.inr z) f) x v.mapOf #[.bl Js,H,I.tok _,rfl,q];let#[_,x,p,h,v]:=PP I e;refine Yv (pI (k:=.inr z) f) x v.mapOf #[.bl (!o.isSome),H,I.tok _,?_,q];rw[<- (h.val (.inr z)).isSome_eq,<- l];rfl
 |ref b=>let#[j,i,k,e,hk,m,l]:=g;cases f;let#[_,x,n,h,v]:=aI I e hk;refine wpAny_notIn_heap (Wq ()) (HR I m) x v #[.bl (!o.isSome),H,I.tok _,?_,q];have q:=(h.val k).isSome_eq;rw[QBh]at q;rw[<- q,<- l];rfl|_=>exact Qh g
theorem XN{t':Nat}{h:HO}(I:Inv X c σ H s)(y:tf (H a))(hs:qZ a s.1 h')(v:∃q,h'.get? a=Jp q)(new:ZA X.prog X.w (KA H a h) h' a h) :
  Inv X c σ (KA H a h) { s with heap:=h',toks:=t' } :=
 I.write (x:=a) (e:=a) y (.inl rfl) (λb q hb z=>(hs.2 b hb).trans z) v new
theorem xK{t':Nat}{kvs:List KE}{xs:List (List Key×jy×Ju)}(I:Inv X c σ H s)(y:tf (H a))(z:(a==Kz)=Jt)(hz:kvs.9<=jx)(h:KD kvs xs)
  (g:h'.DictOfH (Vy (yB X.prog X.w)) a xs) (hs:qZ a s.1 h'):∃ep,Inv X c σ (KA H a (.dT ep kvs)) { s with heap:=h',toks:=t' }:=by
 let#[q,f,ep,x,e,b,k,_,v]:=g;exact#[ep,XN I y hs #[q,x] #[hz,z,xs,h,q,f,x,e,b,k,v]]
def setD(K:QE)(o y v:V)(H:Hp)(Q:Hp->Prop):Prop:=match o with
 | .ref a=>bf K H a y v Q|_=>False
theorem XO(L:X.A.units+66<Ks):R7 X (setD X.K):=by
 intro c s σ H o y v G J u Q I Z m j h;cases o with
 |ref a =>
  cases Z;cases y with
  |str z =>
   rcases h with⟨f,e,l,q⟩| ⟨W,e,q⟩
   rotate_left
   let#[g,i]:=u1 I e;refine QCn (hsz:=Q3 _) (pI (k:=.inr z) m) i λh' x hs=>#[_,?_,q]
   have r:∃q,h'.get? a=Jp q:=let#[q,_,_,p,_]:=x;#[q,p]
   exact XN I (by rw[e];exact True.intro) hs r #[by simp;decide,g,_,.cons #[rfl,j] .nil,x];let#[n,g,F,w,i]:=PP I e;have hl:(bR f (.inr z) v).9<=sizeLine:=by have:=aP f (.inr z) v;omega
   refine QCn (hsz:=by rw[<- w.9];exact n) (pI (k:=.inr z) m) i λh' x hs=>#[_,?_,q]
   have r:∃q,h'.get? a=Jp q:=let#[q,_,_,p,_]:=x;#[q,p]
   exact XN I (by rw[e];exact True.intro) hs r #[hl,g,_,w.put _ j,x]
  |ref b =>
   let#[W,f,k,e,hk,B,l,q]:=h;cases m;let#[n,g,E,w,i]:=aI I e hk;have hl:(JJ f k b v).9<=sizeLine:=by have:=eP f k b v;omega
   refine wpAny_setItem_heap (hsz:=by rw[<- qq w];exact n) (Wq ()) (HR I B) i λh' x hs=>?_;let#[Y,C]:=xK (t':=_) I (by rw[e];exact True.intro) g hl (w.put k b j) x hs;exact#[_,C,q Y]
  |_=>exact Qh h
 |_=>exact Qh h
theorem y9{P:jv}{w:jr}(h:js)(hb:Kz<h.1.size):ZA P w H (h.push { cls:=.type "dict",data:=.dict #[] }) h.1.size (.dT 0 []) :=
 #[Q3 _,beq_eq_false_iff_ne.mpr (qB (Qe hb)),[],.nil,_,#[],QO _ rfl,#[rfl,rfl,rfl],rfl,rfl,Qt]
theorem Y5:PE X (.Dict [] [] pos) (λ_ H Q=>∀p,H p=Jr->Q (.ref p) (KA H p (.dT 0 []))):=λc s σ H Q I h =>
 wpAny_Dict_empty #[.ref s.1.1.size,_,I.laid (a:=s.1.1.size) (o:=.dT 0 []) (t':=s.toks) (λ_ _ q=>QI _ q) (QV _) (y9 s.1 (Inv.big I)),rfl,h _ (I.hok.fresh (QV _))]
theorem J5(S:X.A.units+66<Ks){k v:Expr}{l j:TE}(hk:PE X k l)(hv:PE X v j) :
  PE X (.Dict [Jp k] [v] pos) (λσ H Q=>∀p,H p=Jr->l σ (KA H p (.dT 0 [])) λy i=>j σ i λv h=>h p=Jp (.dT 0 [])/\∃b ks,y=.ref b/\HC X.K h b (ks.map kV)/\∀ep,Q (.ref p) (KA h p (.dT ep [(ks,b,v)]))):=by
 intro c s σ H Q I q;have C:=I.hok.fresh (QV s.1.1.size);have M:=I.laid (a:=s.1.1.size) (o:=.dT 0 []) (h':=s.1.push { cls:=.type "dict",data:=.dict #[] }) (t':=s.toks) (λ_ _ q=>QI _ q) (QV _) (y9 s.1 (Inv.big I));refine wpAny_Dict_any rfl rfl (by simp) (by simp) (pairTrees_cons_walk (DB (hk c _ σ _ _ M (q _ C)) λu n #[y,i,L,Y,W]=>DB (hv c n σ i _ L W) λm P #[z,h,g,r,e,b,ks,F,G,Z]=>pairTrees_nil_walk ?_));subst F;cases Y;let#[R,E,O,x,J]:=aI g e (λp B=>nomatch B);cases x;show Jw _ _ (forIn [(Jv b,m)] PUnit.unit _) _ _ _;rw[QAT];refine QA (QA (wpAny_dictSet_heap (hsz:=Q3 _) (show X.A.units<Ks by omega) (HR g G) J λh' f hs=>QH ?_));show Jw _ _ (forIn ([]:List (Ju×Ju)) _ _) _ _ _;rw[QBV];let#[w,N]:=xK (t':=_) (kvs:=[(ks,b,z)]) g (by rw[e];exact True.intro) E (by simp;decide) (.cons #[rfl,rfl,r] .nil) f hs;exact QH #[.ref _,_,N,rfl,Z w]
end
end
mutual
inductive Rep(K:QE)(H:Hp):V->Ky->Prop where
 |non:Rep K H .non .none
 |bl (b:Bool):Rep K H (.bl b) (.bool b)
 |int (i:Int):Rep K H (.int i) (.int i)
 |str (x:Str):Rep K H (.str x) (.str x)
 |lst {a:jy}{xs:LV}{ds:List Ky}:uC K H a xs->Reps K H xs ds->Rep K H (.ref a) (.list ds)
 |tup {a:jy}{xs:LV}{ds:List Ky}:HC K H a xs->Reps K H xs ds->Rep K H (.ref a) (.tuple ds)
 |dct {b:Bool}{a:jy}{o:HO}{ks:List Ky}{xs:LV}{ds:List Ky}:H a=Jp o->dI K H b o ks xs->Reps K H xs ds->Rep K H (.ref a) (.dict (ks.zip ds))
inductive Reps(K:QE)(H:Hp):LV->List Ky->Prop where
 |nil:Reps K H [] []
 |cons {x:V}{d:Ky}{xs:LV}{ds:List Ky}:Rep K H x d->Reps K H xs ds->Reps K H (x::xs) (d::ds)
end
section
variable{K:QE}{H:Hp}{R:LV->List Ky->Prop}{xs:LV}{ds:List Ky}
theorem Rep.both{P:V->Ky->Prop}(z:P .non .none)(v:∀b,P (.bl b) (.bool b))(int:∀i,P (.int i) (.int i))(str:∀x,P (.str x) (.str x))
    (lst:∀{a:jy}{xs:LV}{ds:List Ky},uC K H a xs->Reps K H xs ds->R xs ds->P (.ref a) (.list ds))
    (tup:∀{a:jy}{xs:LV}{ds:List Ky},HC K H a xs->Reps K H xs ds->R xs ds->P (.ref a) (.tuple ds))
    (dct:∀{b:Bool}{a:jy}{o:HO}{ks:List Ky}{xs:LV}{ds:List Ky},H a=Jp o->dI K H b o ks xs->Reps K H xs ds->R xs ds->P (.ref a) (.dict (ks.zip ds)))
    (u:R [] []) (y:∀{x:V}{d:Ky}{xs:LV}{ds:List Ky},Rep K H x d->Reps K H xs ds->P x d->R xs ds->R (x::xs) (d::ds)) :
    (∀{x:V}{d:Ky},Rep K H x d->P x d)/\∀{xs:LV}{ds:List Ky},Reps K H xs ds->R xs ds :=
  #[λh=>Rep.rec (motive_1:=λx d _=>P x d) (motive_2:=λx d _=>R x d) z v int str @lst @tup @dct u @y h,
   λh=>Reps.rec (motive_1:=λx d _=>P x d) (motive_2:=λx d _=>R x d) z v int str @lst @tup @dct u @y h]
theorem Reps.ind(z:R [] [])(y:∀{x:V}{d:Ky}{xs:LV}{ds:List Ky},Rep K H x d->R xs ds->R (x::xs) (d::ds))(h:Reps K H xs ds):R xs ds :=
 (Rep.both (P:=λ_ _=>True) trivial (λ_=>trivial) (λ_=>trivial) (λ_=>trivial) (λ_ _ _=>trivial) (λ_ _ _=>trivial) (λ_ _ _ _=>trivial) z λh _ _ r=>y h r).2 h
theorem Reps.length(h:Reps K H xs ds):xs.9=ds.length:=Reps.ind (R:=λxs ds=>xs.9=ds.9) rfl (λ_ e=>gV Nat.succ e) h
end
section
variable{X:Cx}{l:GB}{σ:St}{H:Hp}{s:Jq}
section
variable{kvs:List (Key×V)}{xs:List (List Key×jy×Ju)}{vs:List (Key×Ju)}
theorem xR{k:List Key}:∀{us:LW},uA (k.map kV) us->∃as,vq s.1 us (k.map kD) as:=by
 induction k with
 |nil=>intro us h;cases h;exact#[_,.nil]|cons x k y =>
  intro us h;cases h with
  |cons e r =>
   let#[as,q]:=y r;cases x with|inl i=>let#[t,rfl]:=e;exact#[_,.cons (.int i t) q]|inr x=>let#[t,rfl]:=e;exact#[_,.cons (.str x t) q]
theorem AX(I:Inv X l σ H s){kvs:List KE}(r:KD kvs xs)(hk:JF X.K H kvs):∃as,vq s.1 (xs.map λx=>.ref x.2.1) (kvs.map λp=>tD p.1) as:=by
 induction r with|nil=>exact#[_,.nil]|@cons p x _ _ h t v=>let#[as,q]:=v λp w=>hk p (QC _ w);let#[u,y,#[o,e,c,n,d],_]:=I.tuple (hk p QD);let#[bs,z]:=xR (s:=s) y;rw[h.2.1]at e;exact#[_,.cons (.tuple e c d (by simpa using z)) q]
theorem GO{P:jv}{w:jr}{es:List Vq}(hk:KV kvs vs)(u:Pairs (yB P w) es vs):(∃as,vq s.1 (es.map (·.key)) (kvs.map λp=>kD p.1) as)/\es.map (·.val)=vs.map (·.2):=by
 unfold KV at hk;induction hk generalizing es with
 |nil=>cases u;exact#[#[_,.nil],rfl]|cons h t k =>
  cases u with
  |cons a b c =>
   let#[#[as,q],v]:=k c;refine#[?_,by rw[QT,QT,v,b]];rw[QT,QT];rw[<- h.1]at a;rcases GA a with⟨i,t,z,y⟩| ⟨x,t,z,y⟩
   rw[z,y];exact#[_,.cons (.int i t) q];rw[z,y];exact#[_,.cons (.str x t) q]
theorem v4{kvs:List KE}(r:KD kvs xs):uA (kvs.map (·.2.2)) (xs.map (·.2.2)):=by
 induction r with|nil=>exact .nil|cons h _ x=>exact .cons h.2.2 x
theorem k4(r:KV kvs vs):uA (kvs.map (·.2)) (vs.map (·.2)):=by
 induction r with|nil=>exact .nil|cons h _ x=>exact .cons h.2 x
theorem rW(I:Inv X l σ H s){b:Bool}{a:jy}{o:HO}{ks:List Ky}{xs:LV}(h:H a=Jp o)(q:dI X.K H b o ks xs):∃y es ep us,s.1.get? a=Jp y/\y.cls=.type "dict"/\y.dict=Jr/\y.data=.dict es ep/\(a==Kz)=Jt /\
  (∃as,vq s.1 (es.toList.map (·.key)) ks as)/\uA xs us/\es.toList.map (·.val)=us:=by
 cases b with
 |true=>let#[f,kvs,rfl,rfl,rfl,hk,_]:=q;let#[_,w,g,x,y,es,ep,e,u,k,v,_]:=aI I h hk;refine#[y,es,ep,_,e,u.1,u.2.1,k,w,?_,v4 x,?_];rw[v,Qi];exact AX I x hk;rw[v,Qi];rfl|false =>
  rcases q with⟨kvs,_,rfl,rfl,rfl,_⟩| ⟨f,rfl,rfl,rfl⟩
  rotate_left
  let#[_,w,g,x,y,es,ep,e,u,k,v,_]:=aI I h λ_ z=>nomatch z;cases x;exact#[y,es,ep,[],e,u.1,u.2.1,k,w,#[_,by rw[v];exact .nil],.nil,by rw[v];rfl];let#[_,w,vs,x,y,es,ep,e,u,k,_,v,_]:=PP I h;let#[j,i]:=GO (s:=s) x v;exact#[y,es,ep,_,e,u.1,u.2.1,k,w,j,k4 x,i]
theorem Rep.reads2(I:Inv X l σ H s):(∀{x:V}{d:Ky},Rep X.K H x d->∀u,lA x u->∃as,Reads s.1 u d as)/\∀{xs:LV}{ds:List Ky},Reps X.K H xs ds->∀us,uA xs us->∃as,vq s.1 us ds as:=by
 refine Rep.both (P:=λx d=>∀u,lA x u->∃as,Reads s.1 u d as) (R:=λxs ds=>∀us,uA xs us->∃as,vq s.1 us ds as) (λu r=>?_) (λb u r=>?_) (λi u r=>?_) (λx u r=>?_) (λh q z u r=>?_) (λh q z u r=>?_) (λ{b a o v xs ds} h q r z u j=>?_) (λus r=>?_) λ_ _ p m us r=>?_;cases r;exact#[_,.none];cases r;exact#[_,.bool b];let#[t,rfl]:=r;exact#[_,.int i t];let#[t,rfl]:=r;exact#[_,.str x t];cases r;let#[f,w,#[o,n,e,c,_,d],_]:=I.list h;let#[as,y]:=z _ w;exact#[_,.list e c d (by simpa using y)];cases r;let#[f,w,#[o,e,c,n,d],_]:=I.tuple h;let#[as,y]:=z _ w;exact#[_,.tuple e c d (by simpa using y)];cases j;let#[G,M,N,us,C,B,L,A,J,#[as,W],Z,Y]:=rW I h q;let#[bs,k]:=z _ Z;have hl:v.9=ds.length:=by rw[q.len,Reps.length r]
 have F:(v.zip ds).map (λx=>x.1)=v:=QAH (QAt hl);have E:(v.zip ds).map (λx=>x.2)=ds:=QAz (QAt hl.symm);exact#[_,.dict C B A (by rw[F];exact W) (by rw[E,Y];exact k)];cases r;exact#[_,.nil];cases r with|cons r g=>let#[as,y]:=p _ r;let#[bs,k]:=m _ g;exact#[_,.cons y k]
theorem Rep.reads(I:Inv X l σ H s){x:V}{d:Ky}{u:Ju}(h:Rep X.K H x d)(r:lA x u):∃as,Reads s.1 u d as:=(Rep.reads2 I).1 h u r
def zF(d:Ky):Prop:=d.canLay0=Js/\d.depth<=64
noncomputable def rEq(K:QE)(neg:Bool):R2:=λx y H Q=>match x,y with
 | .int i,.int j=>Q (.bl (if neg then !decide (i=j) else decide (i=j))) H|.str a,.str b=>Q (.bl (if neg then !decide (a=b) else decide (a=b))) H|.bl a,.bl b=>Q (.bl (if neg then !decide (a=b) else decide (a=b))) H|x,y=>∃z h,Rep K H x z/\Rep K H y h/\zF z/\zF h/\Q (.bl (if neg then !PyData.eqv z h else qP z h)) H
theorem op_eq(B:X.A.units+64<Ks):NE X (jq .Eq) (rEq X.K Jt):=by
 intro l s σ H x y v u Q I n m h;have z:(∃e k,Rep X.K H x e/\Rep X.K H y k/\zF e/\zF k/\Q (.bl (if Jt=Js then !PyData.eqv e k else qP e k)) H)->Jw (jz X.prog X.w) X.A (jq .Eq v u) (EP X l σ Q) X.xe s:=by rintro⟨e,k,g,f,⟨Y,W⟩,⟨r,Z⟩,q⟩;let#[C,p]:=g.reads I n;let#[bs,o]:=f.reads I m;exact SeqAt.compareEq_reads p o Y r () #[.bl _,H,I,rfl,q]
 have sc:G4 x y=Js->Q (.bl (decide (x=y))) H->Jw (jz X.prog X.w) X.A (jq .Eq v u) (EP X l σ Q) X.xe s:=λg f=>_root_.L2.op_eq l s σ H x y v u Q I n m #[g,f];cases x with
 |int i =>
  cases y with|int j=>exact sc rfl (by simpa[rEq]using h)|_=>exact z h
 |str a =>
  cases y with|str b=>exact sc rfl (by simpa[rEq]using h)|_=>exact z h
 |bl a =>
  cases y with|bl b=>exact sc rfl (by simpa[rEq]using h)|_=>exact z h
 |_=>exact z h
theorem op_ne(B:X.A.units+64<Ks):NE X (jq .NotEq) (rEq X.K Js):=by
 intro l s σ H x y v u Q I n m h;have z:(∃e k,Rep X.K H x e/\Rep X.K H y k/\zF e/\zF k/\Q (.bl (if Js=Js then !PyData.eqv e k else qP e k)) H)->Jw (jz X.prog X.w) X.A (jq .NotEq v u) (EP X l σ Q) X.xe s:=by rintro⟨e,k,g,f,⟨Y,W⟩,⟨r,Z⟩,q⟩;let#[C,p]:=g.reads I n;let#[bs,o]:=f.reads I m;exact SeqAt.compareNe_reads p o Y r () #[.bl _,H,I,rfl,q]
 have sc:G4 x y=Js->Q (.bl (!decide (x=y))) H->Jw (jz X.prog X.w) X.A (jq .NotEq v u) (EP X l σ Q) X.xe s:=λg f=>_root_.L2.op_ne l s σ H x y v u Q I n m #[g,f];cases x with
 |int i =>
  cases y with|int j=>exact sc rfl (by simpa[rEq]using h)|_=>exact z h
 |str a =>
  cases y with|str b=>exact sc rfl (by simpa[rEq]using h)|_=>exact z h
 |bl a =>
  cases y with|bl b=>exact sc rfl (by simpa[rEq]using h)|_=>exact z h
 |_=>exact z h
noncomputable def mV(f:Int->Int->Bool):R2:=λx y H Q=>match x,y with
 | .int i,.int j=>Q (.bl (f i j)) H|_,_=>False
theorem NM{z:Vr}{f:Int->Int->Bool}(h0:NE X (jq z) (R4 λi j=>.bl (f i j))):NE X (jq z) (mV f):=by
 intro l s σ H x y v u Q I k w h;cases x with
 |int i =>
  cases y with|int j=>exact h0 l s σ H _ _ v u Q I k w #[i,j,rfl,rfl,h]|_=>exact Qh h
 |_=>exact Qh h
noncomputable def inStr(b a:Str):Bool:=match a.cps.toList with
 |[c]=>decide (c∈b.cps.toList)|_=>!(Wa b a 0 b.9 1).isEmpty
theorem DP(b a:Str):inStr b a=!(Wa b a 0 b.9 1).isEmpty:=by
 unfold inStr;split;rename_i c e;have x:a=#[(WZ [c])]:=by
  let#[h]:=a;have:h=(WZ [c]):=by apply QAy.mp;simpa using e
  rw[this]
 rw[x];exact(StrLaws.found_one b c).symm;rfl
def MO(K:QE)(neg:Bool):R2:=λx y H Q=>match y with
 | .str b=>match x with
  | .str a=>Q (.bl (if neg then !inStr b a else inStr b a)) H|_=>False
 | .ref p=>Xk K neg x (.ref p) H Q∨(∃d h,Rep K H x d/\(Rep K H (.ref p) (.list h)∨Rep K H (.ref p) (.tuple h))/\zF d/\zF (.list h)/\Q (.bl (if neg then !(h.any λy=>qP y d) else h.any λy=>qP y d)) H)∨(∃o,uO K H p x o/\Q (.bl (if neg then !o.isSome else o.isSome)) H)|_=>False
theorem iL{ds:List Ky}(h:zF (.list ds)):wv ds=Js/\Wv ds<=63:=by let#[x,y]:=h;simp only[QAr]at x;simp only[QCK]at y;exact#[x,()]
theorem uh(r:X.A.units+66<Ks):NE X (jq .In) (MO X.K Jt):=by
 intro l s σ H x y v u Q I k z h;cases y with
 |str b =>
  cases x with|str a=>refine eV l s σ H _ _ v u Q I k z #[a,b,rfl,rfl,?_];rw[<- DP];simpa[MO]using h|_=>exact Qh h
 |ref p =>
  rcases h with h|⟨d,Y,n,w,i,m,q⟩| ⟨o,g,q⟩
  rotate_left 2
  cases z;exact T6 r I k g q;exact iV l s σ H _ _ v u Q I k z h;let#[W,f]:=n.reads I k;let#[j,Z]:=iL m;rcases w with w|w;let#[bs,e]:=w.reads I z;exact SeqAt.in_list_reads e f j i.1 () #[.bl _,H,I,rfl,q];let#[bs,e]:=w.reads I z;exact SeqAt.in_tuple_reads e f j i.1 () #[.bl _,H,I,rfl,q]
 |_=>exact Qh h
theorem XY(r:X.A.units+66<Ks):NE X (jq .NotIn) (MO X.K Js):=by
 intro l s σ H x y v u Q I k z h;cases y with
 |str b =>
  cases x with|str a=>refine OM l s σ H _ _ v u Q I k z #[a,b,rfl,rfl,?_];rw[<- DP];simpa[MO]using h|_=>exact Qh h
 |ref p =>
  rcases h with h|⟨d,Y,n,w,i,m,q⟩| ⟨o,g,q⟩
  rotate_left 2
  cases z;exact aR r I k g q;exact PM l s σ H _ _ v u Q I k z h;let#[W,f]:=n.reads I k;let#[j,Z]:=iL m;rcases w with w|w;let#[bs,e]:=w.reads I z;exact SeqAt.notIn_list_reads e f j i.1 () #[.bl _,H,I,rfl,q];let#[bs,e]:=w.reads I z;exact SeqAt.notIn_tuple_reads e f j i.1 () #[.bl _,H,I,rfl,q]
 |_=>exact Qh h
end
end
noncomputable def Ym(z:Str):It:=#[λi _=>i<z.cps.size,λi H x h=>h=H/\∃c,z.cps[i]?=Jp c/\x=.str #[(WZ [c])],λi _=>z.cps.size<=i]
theorem dX{P:jv}{w:jr}{K:QE}{tg:Expr}(it:jy)(z:Str)(t:Tok):Turn P w K tg (Ym z) [it] it (λi h=>h.IsStrIter it (j2 z) z t i) where
 mem:=by simp
 obj:=λi h st b hb=>by
  have e:b=it:=by simpa using hb
  subst e;let#[o,e,c,d]:=st;exact#[o,e,λv z=>by rw[d]at z;cases z]
 keep:=λi h a st k=>by let#[o,e,r]:=st;exact#[o,k it (by simp) o e,r]
 item:=by
  intro X N J O hc i g s G H E I q st M;subst N J O;let#[C,B,f2,W,Z,Y]:=q it (by simp);have L:i<z.cps.size:=M;obtain⟨F,l⟩:∃F,z.cps[i]?=Jp F:=#[_,Qn L]
  have p:∀a,a.IsStrIter it (j2 z) z t (i+1)->qZ it s.1 a->∃u,Jp (Value.str #[(WZ [F])] s.toks)=Jp u /\
    Jw (jz X.prog X.w) X.A (kd tg (.ref it) u) (λ_ s2=>∃x S,Inv X g G S s2/\lA x u/\(Ym z).yld i H x S/\s2.1.IsStrIter it (j2 z) z t (i+1)/\∀b∈[it],S b=Jr) E { s with heap:=a,toks:=s.toks+1 }:=λa y m=>by
   have I1:Inv X g G H { s with heap:=a,toks:=s.toks+1 }:=I.turned (λb o hb e=>(m.2 b hb).trans e) C B W Z Y;let#[o,e,c,d]:=id y;refine#[_,rfl,GP (s:={ s with heap:=a,toks:=s.toks+1 }) (n:=j2 z) e c d ?_ #[.str #[(WZ [F])],H,I1,#[_,rfl],#[rfl,_,l,rfl],y,λb hb=>(q b hb).1]];unfold j2;split<;>decide
  cases j:z.cps.all (· < 128) with
  |false =>
   have f:j2 z="str_iterator":=by simp[j2,j]
   exact wpAny_pyNext_wide_item (by rw[<- f];exact st) l λa y m=>p a (by rw[f];exact y) m
  |true =>
   have f:j2 z="str_ascii_iterator":=by simp[j2,j]
   exact wpAny_pyNext_ascii_item (by rw[<- f];exact st) l λa y m=>p a (by rw[f];exact y) m
 done:=by
  intro X N J O hc i g s G H E I q st M;subst N J O;let#[C,B,f2,W,Z,Y]:=q it (by simp);have l:z.cps[i]?=none:=by rw[Array.getElem?_eq_none_iff];exact M
  cases j:z.cps.all (· < 128) with
  |false =>
   have f:j2 z="str_iterator":=by simp[j2,j]
   rw[f]at st;exact wpAny_pyNext_wide_end (I.ok.hd hc) st l λa R=>#[rfl,I.turned (t':=s.toks) (λb o hb e=>R b o hb e) C B W Z Y]
  |true =>
   have f:j2 z="str_ascii_iterator":=by simp[j2,j]
   rw[f]at st;exact wpAny_pyNext_ascii_end (I.ok.hd hc) st l λa R=>#[rfl,I.turned (t':=s.toks) (λb o hb e=>R b o hb e) C B W Z Y]
 self:=by
  intro A i s Q E st h;cases j:z.cps.all (· < 128) with
  |false =>
   have f:j2 z="str_iterator":=by simp[j2,j]
   rw[f]at st;exact wpAny_pyIter_striter_wide st h
  |true =>
   have f:j2 z="str_ascii_iterator":=by simp[j2,j]
   rw[f]at st;exact wpAny_pyIter_striter_ascii st h
section
variable{X:Cx}
theorem mK:∀{bs:List Bool}{us:LW},uA (bs.map V.bl) us->∀(i:Nat) (v:Ju),us[i]?=Jp v->∃b,bs[i]?=Jp b/\v=Value.bool b
 |[],_,.nil,i,v,h=>by simp at h|b::bs,_,.cons r t,0,v,h=>by simp at h;subst h;exact#[b,by simp,r]|b::bs,_,.cons r t,i+1,v,h=>by let#[c,y,x]:=mK (bs:=bs) t i v (by simpa using h);exact#[c,by simpa using y,x]
theorem lV(bs:List Bool):(Qj bs.9).all (λi=>bs.getD i Js)=bs.all id:=by
 rw[qa,qN,qN];constructor;intro h b hb;let#[i,y,e]:=QCo hb;have:=h i (by simpa using y);simp[QCL,y,e]at this;simpa using this;intro h i y;have x:i<bs.length:=by simpa using y
 have:=h bs[i] (QB4 x);simpa[QCL,x]using this
theorem hV(bs:List Bool):(Qj bs.9).any (λi=>bs.getD i Jt)=bs.any id:=by
 rw[qa,Wg,Wg];constructor;rintro⟨i,x,e⟩;have h:i<bs.length:=by simpa using x
 exact#[bs[i],QB4 h,by simpa[QCL,h]using e];rintro⟨b,hb,e⟩;let#[i,x,y]:=QCo hb;exact#[i,by simpa using x,by simp[QCL,x,y];simpa using e]
def Ag(K:QE):LV->Hp->VK->Prop:=λh H Q=>match h with
 |[.ref a]=>∃bs:List Bool,uC K H a (bs.map V.bl)/\Q (.bl (bs.all id)) H|_=>False
def Sg(K:QE):LV->Hp->VK->Prop:=λh H Q=>match h with
 |[.ref a]=>∃bs:List Bool,uC K H a (bs.map V.bl)/\Q (.bl (bs.any id)) H|_=>False
theorem T1(l:X.calm=Js):lD X (.builtin "all") (Ag X.K):=by
 intro k s Z H f W Q I r h
 match f,h with
 |[.ref a],#[bs,hq,q] =>
  let#[u,rfl,j]:=UG r;cases j;let#[x,w,p,C]:=I.list hq;have hl:=w.9;rw[QG]at hl;refine call_all_walk (WT p.isList ?_);have y:a<s.1.1.size:=by let#[o,n,e,_]:=p;exact QS e
  refine#[s.1.1.size,_,_,_,_,_,λi=>bs.getD i Js,rfl,QDI (A:=X.A.in1) (I.ok.hd l) s.1.1.size a (Qe y) x.toArray,#[#[_,QO _ rfl,rfl,rfl],?_],?_,?_];let#[o,n,e,c,d,sq]:=p;exact#[o,QI _ e,c,n,sq];intro i v B F G m z;let#[b,hb,rfl]:=mK w i v (by simpa using m);refine wu ?_;have:bs.getD i Js=b:=by simp[QCL,hb]
  rw[<- this];exact z;intro E g hk;have Y:(Qj x.toArray.size).all (λi=>bs.getD i Js)=bs.all id:=by rw[QU,<- hl,lV]
  rw[Y];exact#[.bl _,H,I.kept (t':=g) (λb o e=>hk b o (by simp;exact Qe (QS e)) (QI _ e)),rfl,q]
theorem O1(l:X.calm=Js):lD X (.builtin "any") (Sg X.K):=by
 intro k s Z H f W Q I r h
 match f,h with
 |[.ref a],#[bs,hq,q] =>
  let#[u,rfl,j]:=UG r;cases j;let#[x,w,p,C]:=I.list hq;have hl:=w.9;rw[QG]at hl;refine call_any_walk (WT p.isList ?_);have y:a<s.1.1.size:=by let#[o,n,e,_]:=p;exact QS e
  refine#[s.1.1.size,_,_,_,_,_,λi=>bs.getD i Jt,rfl,QDI (A:=X.A.in1) (I.ok.hd l) s.1.1.size a (Qe y) x.toArray,#[#[_,QO _ rfl,rfl,rfl],?_],?_,?_];let#[o,n,e,c,d,sq]:=p;exact#[o,QI _ e,c,n,sq];intro i v B F G m z;let#[b,hb,rfl]:=mK w i v (by simpa using m);refine wu ?_;have:bs.getD i Jt=b:=by simp[QCL,hb]
  rw[<- this];exact z;intro E g hk;have Y:(Qj x.toArray.size).any (λi=>bs.getD i Jt)=bs.any id:=by rw[QU,<- hl,hV]
  rw[Y];exact#[.bl _,H,I.kept (t':=g) (λb o e=>hk b o (by simp;exact Qe (QS e)) (QI _ e)),rfl,q]
def Ng(K:QE):LV->Hp->VK->Prop:=λx H Q=>(∃z,x=[.str z]/\z.9<=jx/\Q (.int z.9) H)∨∃a h,x=[.ref a]/\(uC K H a h∨HC K H a h)/\Q (.int h.9) H
theorem M1:lD X (.builtin "len") (Ng X.K):=λx s y H z u Q I r h=>h.elim (NN x s y H z u Q I r) (ON x s y H z u Q I r)
noncomputable def cV:V->Option Ju
 | .ty n=>Jp (.type n)|.ref C=>Jp (.ref C)|_=>Jr
def Lm(K:QE)(H:Hp)(x:V)(t:Ju):Prop:=(∃a h,x=.ref a/\uC K H a h/\t=.type "list")∨∃a h,x=.ref a/\HC K H a h/\t=.type "tuple"
def Cb(K:QE):LV->Hp->VK->Prop:=λy H Q=>match y with
 |[x,c]=>∃t h b,(TyOf K H x t∨Lm K H x t)/\cV c=Jp h/\QCg K t h=Jp b/\Q (.bl b) H|_=>False
theorem N1:lD X (.builtin "isinstance") (Cb X.K):=by
 intro m s Y H w Z Q I r h
 match w,h with
 |[x,c],#[t,cv,b,ty,hc,hk,q] =>
  let#[u,k,rfl,f,v]:=vX r;have e:k=cv:=by
   cases c with|ty n=>have l:k=Value.type n:=v;have j:Jp (Value.type n)=Jp cv:=hc;rw[l];exact Qy j|ref C=>have l:k=Jv C:=v;have j:Jp (Jv C)=Jp cv:=hc;rw[l];exact Qy j|_=>cases hc
  subst e;rcases ty with ty|⟨a,w,rfl,i,rfl⟩| ⟨a,w,rfl,i,rfl⟩
  exact xW I f ty hk λy=>#[.bl b,H,I.tok y,rfl,q]
  cases f;let#[g,p,#[o,n,e,c,_,d],_]:=I.list i;exact qg QBd I.kIn #[o,e,c] hk (λz=>nomatch z) λy=>#[.bl b,H,I.tok y,rfl,q]
  cases f;let#[g,p,#[o,e,c,n,d],_]:=I.tuple i;exact qg QC1 I.kIn #[o,e,c] hk (λz=>nomatch z) λy=>#[.bl b,H,I.tok y,rfl,q]
def Vk(K:QE):V->Option Int->Option Int->Hp->VK->Prop:=λx h y H Q=>match x with
 | .str z=>z.9<=jx/\Q (.str (QEF z h y)) H|.ref a=>Fg K (.ref a) h y H Q∨Dg K (.ref a) h y H Q|_=>False
theorem bb:Uj X (Vk X.K):=by
 intro y s m H x v C B Y W b Q I p hs r e h;cases x with
 |str z =>
  let#[t,rfl]:=p;let#[G,q]:=h;refine#["str",_,F.slot_str_getitem.lookup,QD6 _ _ _,?_];have fin:∀l u:Option (Int×Tok),l.map (·.1)=Y->u.map (·.1)=W->s.1.IsSlice b l u Jr->Jw (jz X.prog X.w) X.A (Xq (.str z t) (.ref b)) (EP X y m Q) X.xe s:=λl u L J Z=>by refine wpAny_getItem_str_slice Z rfl ?_;subst L J;exact post_val_or_str #[Qc (Txt.slice_le z _ _) G,λM k=>#[.str (QEF z _ _),H,I.tok k,#[_,rfl],q]]
  let#[o,f,hc,g]:=hs;cases r with
  |none =>
   cases e with|none=>exact fin Jr Jr rfl rfl #[o,f,hc,g]|int j n=>exact fin Jr (Jp (j,n)) rfl rfl #[o,f,hc,g]
  |int i E =>
   cases e with|none=>exact fin (Jp (i,E)) Jr rfl rfl #[o,f,hc,g]|int j n=>exact fin (Jp (i,E)) (Jp (j,n)) rfl rfl #[o,f,hc,g]
 |ref a=>rcases h with h|h;exact U4 y s m H _ v C B Y W b Q I p hs r e h;exact ub y s m H _ v C B Y W b Q I p hs r e h
 |_=>exact Qh h
end
section
variable{h h':js}{j:jy}{z:Src}{k:Nat}{xs:Array Ju}
inductive Src where
 |l (a:jy)|t (a:jy)
def Src.adr:Src->jy
 | .l a=>a|.t a=>a
def ZD(h:js)(j:jy):Src->Nat->Prop
 | .l a,k=>h.IsListIter j a k|.t a,k=>h.IsTupleIter j a k
def BB(h:js):Src->Array Ju->Prop
 | .l a,xs=>h.IsList a xs|.t a,xs=>h.IsTuple a xs
theorem ZD.keep(x:ZD h j z k)(e:∀o,h.get? j=Jp o->h'.get? j=Jp o):ZD h' j z k:=by
 cases z with|l a=>let#[o,u,y]:=x;exact#[o,e o u,y]|t a=>let#[o,u,y]:=x;exact#[o,e o u,y]
theorem ZD.obj(x:ZD h j z k):∃o,h.get? j=Jp o/\∀v,o.data≠.cell v:=by
 cases z with|l a=>let#[o,u,w,y]:=x;exact#[o,u,λv q=>by rw[y]at q;cases q]|t a=>let#[o,u,w,y]:=x;exact#[o,u,λv q=>by rw[y]at q;cases q]
theorem BB.ext{b:jy}(x:BB h z xs)(e:QBu b h h')(n:z.adr≠b):BB h' z xs:=by
 cases z with|l a=>exact QDv.extBut x e n|t a=>exact Heap.IsTuple.extBut x e n
theorem BB.lt(x:BB h z xs):z.adr<h.1.size:=by
 cases z with|l a=>let#[o,y,_]:=x;exact QS y|t a=>let#[o,y,_]:=x;exact QS y
theorem ZD.lt(x:ZD h j z k):j<h.1.size:=by let#[o,y,_]:=x.obj;exact QS y
end
section
variable{prog:jv}{w:jr}{A:ju}{E:pB}{s:Jq}
section
variable{j t:jy}{k:Nat}{xs:Array Ju}{x:Ju}{Q:pB}{z:Src}
theorem Gc(p:s.1.IsTupleIter j t k)(pt:s.1.IsTuple t xs)(a:xs[k]?=Jp x)
  (q:∀h',h'.IsTupleIter j t (k+1)->qZ j s.1 h'->Q x { s with heap:=h' }):Jw (jz prog w) A (wA (.ref j)) Q E s:=by
 let#[f,y,b,h]:=id p;let#[e,v,_,g,u]:=pt;unfold wA;refine QA (qW (name:=Qz "__next__") p.typeIs wR (Q5 wR p.typeIs QAV ?_ (QAQ _)));show Jw _ _ (Zs (.ref j) 0 >>= _) _ _ _;refine QA (WK y h (x:=.ref t) rfl ?_);show Jw _ _ (if(Jv t==Jz)=Js then _ else _) _ _ _;rw[Gq (show ¬ (Jv t==Jz)=Js from QF)];show Jw _ _ (Zs (.ref j) 1 >>= _) _ _ _;refine QA (WK y h (x:=.int k 0) rfl ?_);show Jw _ _ (seqItems? (.ref t) >>= _) _ _ _;refine QA (QAA v u ?_);simp only[WU,a];refine QA (wa y h (by simp) (QH #[x,rfl,QH (q _ ?_ (qO ..))]));refine#[_,Q0 _ y (wG (qH h _)),(W0 ..).trans b,?_];rw[qH h];simp[j1]
theorem tR(u:A.handled=Jr)(p:s.1.IsTupleIter j t k)(pt:s.1.IsTuple t xs)(f:xs[k]?=Jr)
  (q:∀h' e,QBu j s.1 h'->(∃o,h'.get? e=Jp o/\o.cls=.type "StopIteration")->E (.ref e) { s with heap:=h' }):Jw (jz prog w) A (wA (.ref j)) Q E s:=by
 let#[i,y,n,h]:=id p;let#[g,b,_,l,v]:=pt;unfold wA;refine QA (qW (name:=Qz "__next__") p.typeIs wR (Q5 wR p.typeIs QAV ?_ (QAQ _)));show Jw _ _ (Zs (.ref j) 0 >>= _) _ _ _;refine QA (WK y h (x:=.ref t) rfl ?_);show Jw _ _ (if(Jv t==Jz)=Js then _ else _) _ _ _;rw[Gq (show ¬ (Jv t==Jz)=Js from QF)];show Jw _ _ (Zs (.ref j) 1 >>= _) _ _ _;refine QA (WK y h (x:=.int k 0) rfl ?_);show Jw _ _ (seqItems? (.ref t) >>= _) _ _ _;refine QA (QAA b v ?_);simp only[WU,f];refine QA (QBA (QA (wa y h (by simp) ?_)));refine QA (m:=Xp (.type "StopIteration") []) ?_;simp only[Xp,xx];refine QA (Qu ?made (by size_fits));refine QA (m:=Kt _ _) (QAJ (a:=Jz) (by first|rfl | (rw[Kt];rfl)) ?arg);refine Qu ?made2 (by size_fits);simp only[xy];refine QA (QBv ?_);first|rw[show A.in1.handled=Jr from u]|rw[u]
 refine QA (QH (QCp (q _ _ (((qO ..).extBut.push _).push _) #[_,QO _ rfl,rfl])))
theorem u6(p:ZD s.1 j z k)(pt:BB s.1 z xs)(h:xs[k]?=Jp x)
  (q:∀h',ZD h' j z (k+1)->qZ j s.1 h'->Q x { s with heap:=h' }):Jw (jz prog w) A (wA (.ref j)) Q E s:=by
 cases z with|l a=>exact wpAny_nextOf_list_item p pt h q|t a=>exact Gc p pt h q
theorem AY(y:A.handled=Jr)(p:ZD s.1 j z k)(pt:BB s.1 z xs)(h:xs[k]?=Jr)
  (q:∀h' e,QBu j s.1 h'->(∃o,h'.get? e=Jp o/\o.cls=.type "StopIteration")->E (.ref e) { s with heap:=h' }):Jw (jz prog w) A (wA (.ref j)) Q E s:=by
 cases z with|l a=>exact wpAny_nextOf_list_end y p pt h q|t a=>exact tR y p pt h q
noncomputable def Src.it:Src->Obj
 | .l a=>{ cls:=.type "list_iterator",data:=.fields (WZ [.ref a,.int 0 0]) }|.t a=>{ cls:=.type "tuple_iterator",data:=.fields (WZ [.ref a,.int 0 0]) }
theorem eO(pt:BB s.1 z xs)(q:Q (.ref s.1.1.size) { s with heap:=s.1.push z.it }):Jw (jz prog w) A (Vs (.ref z.adr)) Q E s:=by
 cases z with|l a=>exact WT pt q|t a=>exact QC4 pt q
theorem Z4(h:js)(z:Src):ZD (h.push z.it) h.1.size z 0:=by
 cases z with|l a=>exact#[_,QO _ rfl,rfl,rfl]|t a=>exact#[_,QO _ rfl,rfl,rfl]
end
end
section
variable{prog:jv}{w:jr}{A:ju}{E:pB}{s:Jq}
theorem Yb{h h':js}{b:jy}{z:Src}{xs:Array Ju}(x:BB h z xs)(e:qZ b h h')(n:z.adr≠b):BB h' z xs:=x.ext e.extBut n
end
section
variable{X:Cx}{w:GB}{σ:St}{H:Hp}{s:Jq}{h':js}
theorem _root_.L2.Inv.turnedL{t':Nat}{ch:List jy}(I:Inv X w σ H s)(k:∀b o,b∉ch->s.1.get? b=Jp o->h'.get? b=Jp o)(f:∀b∈ch,BH X w H b):Inv X w σ H { s with heap:=h',toks:=t' }:=by
 have h:∀b u,H b=Jp u->b∉ch:=λb u e z=>by rw[(f b z).1]at e;cases e
 have y:X.env.locals∉ch:=λz=>(f _ z).2.1 rfl;refine I.step (g':=s.gens) (d':=s.drawn) (ch:=ch) (λb hb=>?_) (λb o _ _ hc e _=>k b o hc e) (λb o _ _ hc e _=>#[o.slots,k b o hc e]) (λ_ _ _ _ n=>n)
  (λb o hc e=>#[o,k b o hc e]) (λ_ _ e=>e) (λ_ _ _ e=>e) (λb Y e=>#[#[],by rw[e];simp]) (λm hm=>?_) (λb u e=>?_) I.bare
 let#[_,j,_,i,g,a]:=f b hb;exact#[i,j,g,a];let#[o,l,p,x,r]:=hm;exact#[o,l,p,k _ o y x,r];refine(I.hok b u e).stay (λc v hc q=>k c v ?_ q) (λ_ q=>q) λ_ _ q=>q;rcases hc with z|z;rw[z];exact h b u e;exact h c _ z
def SW(K:QE)(H:Hp):Src->LV->Prop
 | .l a,xs=>uC K H a xs|.t a,xs=>HC K H a xs
theorem _root_.L2.Inv.src(I:Inv X w σ H s){z:Src}{xs:LV}(h:SW X.K H z xs):∃its:LW,uA xs its/\BB s.1 z its.toArray/\xs.9<=sizeLine:=by
 cases z with|l a=>let#[its,x,p,y]:=I.list h;exact#[its,x,p.isList,y]|t a=>let#[its,x,p,y]:=I.tuple h;exact#[its,x,p,y]
theorem _root_.L2.Inv.src_inj(I:Inv X w σ H s){z:Src}{xs x:LV}(h:SW X.K H z xs)(h':SW X.K H z x):xs=x:=by
 cases z with|l a=>exact I.list_inj h h'|t a=>exact I.tuple_inj h h'
theorem _root_.L2.Inv.pair{p:jy}{a b:Ju}{x y:V}{t':Nat}(I:Inv X w σ H s)(k:∀b u,s.1.get? b=Jp u->h'.get? b=Jp u)(v:s.1.1.size<=p)(e:h'.get? p=Jp { cls:=.type "tuple",data:=.seq (WZ [a,b]) })(z:lA x a)(h:lA y b) :
  Inv X w σ (KA H p (.tup [x,y])) { s with heap:=h',toks:=t' } :=
 I.laid k v #[by rw[qR];show 2<=_;decide,[a,b],.cons z (.cons h .nil),_,e,rfl,_,rfl]
end
section
variable{prog:jv}{w:jr}{A:ju}{E:pB}{s:Jq}
section
variable{it d:jy}{z:Obj}{es:Array Vq}{i ep:Nat}{c u:Ju}{Q:Option Ju->Jq->Prop}
theorem yD:QA7 "dict_itemiterator"=true:=by decide +kernel
theorem LH(l:List String)(h:(l.contains "dict_itemiterator" || l.contains "object")=Jt):(l.any λt=>[Value.type "dict_itemiterator",Value.type "object"].contains (.type t))=false:=by
 rw[QBc];intro t x;rw[Bool.or_eq_false_iff]at h;have v:t≠"dict_itemiterator":=λe=>by subst e;rw[Qr.mpr x]at h;cases h.1
 have y:t≠"object":=λe=>by subst e;rw[Qr.mpr x]at h;cases h.2
 simp[v,y]
theorem TY{e:Vq}
  (m:vv s.1 it d i es.size ep c u) (X:s.1.get? d=Jp z) (B:z.data=.dict es ep) (I:es[i]?=Jp e)
  (q:∀h',yr h' it d (i+1) es.size ep e.key e.val s.1.1.size->h'.get? s.1.1.size=Jp { cls:=.type "tuple",data:=.seq (WZ [e.key,e.val]) } ->
   h'.1.size=s.1.1.size+1->(∀b o,b≠it->s.1.get? b=Jp o->h'.get? b=Jp o)->Q (Jp (.ref s.1.1.size)) { s with heap:=h' }) :
  Jw (jz prog w) A (ku (.ref it)) Q E s:=by
 have F:s.TypeIs (.ref it) "dict_itemiterator":=#[_,m,rfl]
 show Jw _ _ (bind _ _) _ _ _;refine QA (QAW (qW F wC (Q5 wC F QAu ?_ (QAi _))));show Jw _ _ (bind _ _) _ _ _;refine QA (QH (QA (QA (QA (wj F (QH (QA (QAB m rfl ?_))))))));rw[yD];show Jw _ _ (if(Jv d==Jz)=Js then _ else _) _ _ _;rw[Gq (show ¬ (Jv d==Jz)=Js from QF)];show Jw _ _ (WL (.ref d) >>= _) _ _ _;refine QA (QH (QA (ww X B ?_)));rw[Gq (show ¬ (((es.size:Nat):Int) != ((es.size:Nat):Int))=Js by simp)];refine QA (QH (QA (Ww X B ?_)));rw[Gq (show ¬ (((ep:Nat):Int) != ((ep:Nat):Int))=Js by simp)];refine QH ?_;have h0:(if((i:Nat):Int)<0 then Jr else es[((i:Nat):Int).toNat]?)=Jp e:=by rw[Gq (),WU];exact I
 simp only[h0];refine QA ?_;show Jw _ _ (Vp (.ref it) >>= _) _ _ _;refine QA (wj F (QH (QA (QAg F ?_))));rw[yD,Gw rfl];rw[show(List.any _ λt=>[Value.type "dict_itemiterator",Value.type "object"].contains (.type t))=Jt from LH _ (by decide +kernel),Gq QF];refine QA (WF m (by simp) λa h r=>?_);have h:vv a it d (i+1) es.size ep c u:=h;refine QA (qG ?_);have C:({ s with heap:=a }:Jq).TypeIs (.ref it) "dict_itemiterator":=#[_,h,rfl]
 show Jw _ _ (Builtin.Dict_items.isOneOf (.ref it) _ >>= _) _ _ _;refine QA (QAg C ?_);rw[LH _ (by decide +kernel),Gq QF];refine QA (QAg C ?_);rw[LH _ (by decide +kernel),Gq QF];show Jw _ _ (xx [e.key,e.val] >>= _) _ _ _;refine QA (QCh ?_);have p:a.1.size=s.1.1.size:=r.1;have y:vv (a.push { cls:=.type "tuple",data:=.seq (WZ [e.key,e.val]) }) it d (i+1) es.size ep c u:=QI _ h;show Jw _ _ (Builtin.Dict_items.ownedTupleIsFree (.ref it) >>= _) _ _ _;refine QA ?_;show Jw _ _ (Zs (.ref it) 0 >>= _) _ _ _;refine QA (WK y rfl (x:=.none) rfl (QH ?_));rw[Gw rfl];show Jw _ _ (Zs (.ref it) 6 >>= _) _ _ _;refine QA (WK y rfl (x:=c) rfl ?_);refine QA (WK y rfl (x:=u) rfl ?_);refine QA (WF y (by simp) λM K l=>?_);refine QA (WF K (by simp) λL W j=>?_);refine QA (WF W (by simp) λJ Z g=>?_);refine QA (WF Z (by simp) λG Y f=>?_);refine QA (wpAny_letGo (QH ?_));refine QH #[_,rfl,QH ?_];have k:it<a.1.size:=QS h;have pt:G.get? a.1.size=Jp { cls:=.type "tuple",data:=.seq (WZ [e.key,e.val]) } :=
  f.extBut _ _ (wQ k) (g.extBut _ _ (wQ k) (j.extBut _ _ (wQ k) (l.extBut _ _ (wQ k) (QO _ rfl))))
 have n:G.1.size=a.1.size+1:=by rw[f.1,g.1,j.1,l.1,qz]
 have v:yr G it d (i+1) es.size ep e.key e.val a.1.size:=Y;rw[p]at pt n v;have:=q G v pt n λb o hb x=>f.extBut _ _ hb (g.extBut _ _ hb (j.extBut _ _ hb (l.extBut _ _ hb (QI _ (r.extBut _ _ hb x)))));show Q (Jp (.ref a.1.size)) _;rw[p];exact this
theorem AM(f:A.handled=Jr)
  (h:vv s.1 it d i es.size ep c u) (x:s.1.get? d=Jp z) (y:z.data=.dict es ep) (g:es[i]?=Jr)
  (q:∀h',QBu it s.1 h'->Q Jr { s with heap:=h' }) :
  Jw (jz prog w) A (ku (.ref it)) Q E s:=by
 have v:s.TypeIs (.ref it) "dict_itemiterator":=#[_,h,rfl]
 show Jw _ _ (bind _ _) _ _ _;refine QA (QAW (qW v wC (Q5 wC v QAu ?_ (QAi _))));show Jw _ _ (bind _ _) _ _ _;refine QA (QH (QA (QA (QA (wj v (QH (QA (QAB h rfl ?_))))))));rw[yD];show Jw _ _ (if(Jv d==Jz)=Js then _ else _) _ _ _;rw[Gq (show ¬ (Jv d==Jz)=Js from QF)];show Jw _ _ (WL (.ref d) >>= _) _ _ _;refine QA (QH (QA (ww x y ?_)));rw[Gq (show ¬ (((es.size:Nat):Int) != ((es.size:Nat):Int))=Js by simp)];refine QA (QH (QA (Ww x y ?_)));rw[Gq (show ¬ (((ep:Nat):Int) != ((ep:Nat):Int))=Js by simp)];refine QH ?_;have h0:(if((i:Nat):Int)<0 then Jr else es[((i:Nat):Int).toNat]?)=none:=by rw[Gq (),WU];exact g
 simp only[h0];refine QA ?_;show Jw _ _ (Vp (.ref it) >>= _) _ _ _;refine QA (wj v (QH ?_));rw[yD,Gw rfl];refine QA (WF h (by simp) λj e k=>?_);refine QA (m:=Xp (.type "StopIteration") []) ?_;simp only[Xp,xx];refine QA (Qu ?made (by size_fits));refine QA (m:=Kt _ _) (QAJ (a:=Jz) (by first|rfl | (rw[Kt];rfl)) ?arg);refine Qu ?made2 (by size_fits);simp only[xy];refine QA (QBv ?_);first|rw[show A.in1.handled=Jr from f]|rw[f]
 refine QA (QH (QCp ?_));refine QA (Wh (T:="StopIteration") (b:=Js) #[_,QO _ rfl,rfl] (by kernel_rfl) ?_);rw[Gw rfl];exact QH (q _ ((k.extBut.push _).push _))
theorem MZ{v:jy}{Q:pB}(hv:s.1.IsItemsView v d)(h:s.1.get? d=Jp z)(x:z.data=.dict es ep)
  (q:Q (.ref s.1.1.size) { s with heap:=s.1.push { cls:=.type "dict_itemiterator",data:=.fields (WZ [.none,.bool Jt,.ref d,.int 0 0,.int es.size 0,.int ep 0,.none,.none]) } }) :
  Jw (jz prog w) A (Vs (.ref v)) Q E s:=by
 have a:=Heap.IsItemsView.typeIs hv;let#[u,y,b,k]:=id hv;refine QAj a QB9 (Q5 QB9 a F.entry_dict_items_iter ?_ (F.args_dict_items_iter_1 _));show Jw _ _ (bind _ _) _ _ _;refine QA (QH (QA ?_));show Jw _ _ (bind _ _) _ _ _;refine QA (WK y k rfl (QH (QA ?_)));show Jw _ _ (bind _ _) _ _ _;refine QA (ww h x (QA (Ww h x ?_)));simp only[yD,if_true];refine Qu (QH #[_,rfl,"dict_itemiterator",_,#[_,QO _ rfl,rfl],wC.lookup,q]) (show _<=jx+2 by simp[Builtin.Dict_items.ownedTupleFields,qR])
theorem eS{Q:pB}(h:s.1.get? d=Jp z)(x:z.cls=.type "dict")(v:(d==Kz)=Jt)
  (q:Q (.ref s.1.1.size) { s with heap:=s.1.push { cls:=.type "dict_items",data:=.fields (WZ [.ref d]) } }):Jw (jz prog w) A (vt (.builtin "dict.items") [.ref d]) Q E s:=by
 have y:s.TypeIs (.ref d) "dict":=#[_,h,x]
 refine Q5 F.slot_dict_items y F.entry_dict_items ?_ (F.args_dict_items_1 _);show Jw _ _ (bind _ _) _ _ _;refine QA ?_;show Jw _ _ (bind _ _) _ _ _;refine QA (QAv y ?_);refine QH ?_;show Jw _ _ ((if(d==Kz)=Js then _ else _) >>= _) _ _ _;rw[v,Gq QF];exact QA (QH (QA (Qu (QH #[_,rfl,q]) (show _<=jx+2 by simp[qR]))))
theorem SU{κ:Type}[DecidableEq κ]{knd:HeapKind prog w κ}{d a:jy}{xs:List (κ×jy×Ju)}{k:κ}{v:Ju}{Q:pB}(Z:knd.room A)(b:knd.is s.1 k a)(hm:s.1.DictOfH knd d xs)(hsz:xs.9<=jx)
  (B:∀p,vp xs k=Jp p->Q p.2 { s with toks:=s.toks+knd.draws k })
  (K:vp xs k=Jr->∀h',h'.DictOfH knd d (Zv xs k a v)->qZ d s.1 h'->Q v { s with heap:=h',toks:=s.toks+knd.draws k }) :
  Jw (jz prog w) A (Yp d (.ref a) v) Q E s:=by
 let#[o,es,ep,l,hc,g,r,q,X]:=id hm;have C:es.size=xs.length:=by have:=gV wm r;simpa using this
 unfold Yp;refine qG (QA (knd.pyHash Z b (QA (wpAny_dictFind_heap Z b l g r q X (λn=>?_) λj p W=>?_))));have h:=atKey_none_of_get n;have m:=not_mem_keys_of_get n;refine QA (QBA (QA (wpAny_updateDictKeys l g (QH (K h _ ?_ (qO ..))) () (by simp))));refine#[_,_,ep+1,Q0 _ l (Obj.isFreed_of_dict (QCW g _)),Obj.ExactDict.mapDictKeys hc _,QCW g _,?_,?_,?_];rw[QDw h];simp[r,kb];rw[QDw h];intro x f;rcases QW.mp f with f|f;exact knd.keeps (q x f) l g (qO ..);rw[QJ.mp f];exact knd.keeps b l g (qO ..);rw[QDw h,Qk];exact qT.mpr #[X,by simp,λx f y Y e=>by rw[QT,wt,QJ]at Y;rw[e,Y]at f;exact m f];have h:=atKey_of_get X W;have F:es[j]?=Jp (kb knd (k,p)):=by
  have:es.toList[j]?=Jp (kb knd (k,p)):=by rw[r,Qg,W];rfl
  simpa using this
 refine QA (ww l g ?_);rw[F];exact QA (QBA (QH (B p h)))
theorem lQ{κ:Type}[DecidableEq κ]{knd:HeapKind prog w κ}{d a:jy}{xs:List (κ×jy×Ju)}{k:κ}{v:Ju}{Q:pB}(y:knd.room A.in1)(h:knd.is s.1 k a)(hm:s.1.DictOfH knd d xs)(hsz:xs.9<=jx)(f:(d==Kz)=Jt)
  (j:∀p,vp xs k=Jp p->Q p.2 { s with toks:=s.toks+knd.draws k })
  (g:vp xs k=Jr->∀h',h'.DictOfH knd d (Zv xs k a v)->qZ d s.1 h'->Q v { s with heap:=h',toks:=s.toks+knd.draws k }) :
  Jw (jz prog w) A (vt (.builtin "dict.setdefault") [.ref d,.ref a,v]) Q E s:=by
 have x:s.TypeIs (.ref d) "dict":=Heap.DictOfH.typeIs hm;refine Q5 F.slot_dict_setdefault x F.entry_dict_setdefault ?_ (F.args_dict_setdefault_3 _ _ _);show Jw _ _ (bind _ _) _ _ _;refine QA ?_;show Jw _ _ (bind _ _) _ _ _;refine QA (QAv x ?_);refine QH ?_;show Jw _ _ (if(d==Kz)=Js then _ else _) _ _ _;rw[f,Gq QF];exact QA (SU y h hm hsz (λp b=>QH #[_,rfl,j p b]) λe h' m l=>QH #[_,rfl,g e h' m l])
end
end
def MI(K:QE):V->LV->Hp->VK->Prop:=λx z H Q=>∃a b v w h k,x=.ref a/\z=[.ref b,v]/\H a=Jp (.dT w h)/\JF K H h/\HC K H b (k.map kV)/\h.9<jx /\
   (∀u,TF h k=Jp u->Q u H)/\(TF h k=Jr->∀y,Q v (KA H a (.dT y (JJ h k b v))))
theorem NV{X:Cx}(R:X.A.units+66<Ks):af X "dict.setdefault" (MI X.K):=by
 intro n s L H x N v P Q I q Y h;let#[a,b,y,ep,f,k,rfl,rfl,e,hk,F,l,W,Z]:=h;cases q;let#[u,O,rfl,r,i]:=vX Y;cases r;let#[B,o,M,w,G]:=aI I e hk;have hl:(JJ f k b y).9<=sizeLine:=by have:=eP f k b y;omega
 refine lQ (Wq ()) (HR I F) G (by rw[<- qq w];exact B) o (λp C=>?_) λE S m hs=>?_;have z:=w.val k;rw[C]at z;cases g:TF f k with|none=>rw[g]at z;exact(show False from z).elim|some u=>rw[g]at z;exact#[u,H,I.tok _,z,W u g]
 have z:=w.val k;rw[E]at z;cases g:TF f k with|some u=>rw[g]at z;exact(show False from z).elim|none=>let#[j,J]:=xK (t':=_) I (by rw[e];exact True.intro) o hl (w.put k b i) m hs;exact#[y,_,J,i,Z g j]
def Hn(ep n:Nat)(a:jy):It :=
  #[λi H=>∃h p,H a=Jp (.dT ep h)/\h.9=n/\h[i]?=Jp p,
   λi H v x=>∃q p,H q=Jr/\v=.ref q/\x=KA H q (.tup [.ref p.2.1,p.2.2])/\∀h,H a=Jp (.dT ep h)->h[i]?=Jp p,
   λi H=>∃h,H a=Jp (.dT ep h)/\h.9=n/\n<=i]
theorem lG{α h:Type}{R:α->h->Prop}:∀{l:List α}{m:List h}{i:Nat}{x:α},Kx R l m->l[i]?=Jp x->∃y,m[i]?=Jp y/\R x y
 |_,_,i,_,.nil,e=>by simp at e|_,_,0,_,.cons r _,e=>by simp at e;subst e;exact#[_,rfl,r]|_,_,i+1,x,.cons _ t,e=>by let#[y,u,z]:=lG (i:=i) (x:=x) t (by simpa using e);exact#[y,by simpa using u,z]
theorem OQ{P:jv}{w:jr}{K:QE}{es:List Expr}{kk:Nat}{pp:Pos}{a it:jy}{n ep:Nat}:Turn0 P w K (.Tuple es kk pp) (Hn ep n a) [it] it (λi h=>∃ok Y,vv h it a i n ep ok Y) where
 mem:=by simp
 obj:=λi h st b hb=>by let#[ok,Y,st]:=st;rw[QJ]at hb;subst hb;exact#[_,st,λv q=>by cases(show Data.fields _=Data.cell v from q)]
 keep:=λi h h' st k=>by let#[ok,Y,st]:=st;exact#[ok,Y,k it (by simp) _ st]
 item:=by
  intro X J C L hc i Z s σ H E I A st G;subst J C L;let#[j,p,e,F,ep]:=G;let#[ok,Y,st]:=st;let#[z,y,xs,r,o,u,N,h2,M,B,h5]:=(show ZA X.prog X.w H s.1 a (.dT _ j) from I.hok a _ e)
  have l:u.size=n:=by have:=gV wm B;rw[QG,QM]at this;rw[this,<- qq r,F]
  let#[q,hq,rq]:=lG r ep;have he:u[i]?=Jp (kb (Vy (yB X.prog X.w)) q):=by
   have:u.toList[i]?=Jp (kb (Vy (yB X.prog X.w)) q):=by rw[B,Qg,hq];rfl
   simpa using this
  subst l;refine TY st N M he λh' b1 b3 b4 b5=>#[_,rfl,wpAny_letOwnedTupleGo_items b1 λm c1 sb=>?_]
  have hp:=I.hok.fresh (QV s.1.1.size);have W:it<s.1.1.size:=QS st;have g:∀b∈[it],b<s.1.1.size:=λb hb=>by rw[QJ]at hb;subst hb;exact W
  have kept:∀b o,b∉[it]->s.1.get? b=Jp o->m.get? b=Jp o:=λb o hb q=>by rw[QJ]at hb;exact(sb.2 b hb).trans (b5 b o hb q)
  have f:m.get? s.1.1.size=Jp { cls:=.type "tuple",data:=.seq (WZ [.ref q.2.1,q.2.2]) }:=(sb.2 _ (wQ W)).trans b3;have I1:=I.pair (x:=.ref p.2.1) (y:=p.2.2) (h':=s.1.push { cls:=.type "tuple",data:=.seq (WZ [.ref q.2.1,q.2.2]) }) (t':=s.toks) (λb o e=>QI _ e) (QV _) (QO _ rfl) (show Jv q.2.1=Jv p.2.1 by rw[rq.2.1]) rq.2.2;have I2:=I1.turnedL (h':=m) (t':=s.toks) (ch:=[it]) (λb o hb e=>by
   rcases QCX e with⟨q1,q2⟩| q;subst q1 q2;exact f;exact kept b o hb q) λb hb=>by
   let#[f0,S,f2,R,Q,O]:=A b hb;exact#[by rw[vA (Qe (g b hb))];exact f0,S,f2,R,Q,O]
  refine#[.ref s.1.1.size,_,I2,rfl,#[s.1.1.size,p,hp,rfl,rfl,λkvs' g1=>?_],#[_,_,c1],λb hb=>?_];rw[e]at g1;cases g1;exact ep;rw[vA (Qe (g b hb))];exact(A b hb).1
 done:=by
  intro X J C L hc i Z s σ H E I A st G;subst J C L;let#[j,e,F,ep]:=G;let#[ok,Y,st]:=st;let#[z,y,xs,r,o,u,N,h2,M,B,h5]:=(show ZA X.prog X.w H s.1 a (.dT _ j) from I.hok a _ e)
  have l:u.size=n:=by have:=gV wm B;rw[QG,QM]at this;rw[this,<- qq r,F]
  subst l;let#[f0,S,f2,R,Q,O]:=A it (by simp);exact AM (I.ok.hd hc) st N M (QCA ep) λh' eb=>#[rfl,I.turned (t':=s.toks) (λb o hb e=>eb b o hb e) f0 S R Q O]
section
variable{prog:jv}{w:jr}{A:ju}{E:pB}{s:Jq}
section
variable{d it:jy}{h:Obj}{es:Array Vq}{ep i:Nat}{Q:Option Ju->Jq->Prop}
theorem FF:QA7 "dict_keyiterator"=false:=by decide +kernel
theorem N6{Q:pB}(hz:(d==Kz)=Jt)(x:s.1.get? d=Jp h)(hc:h.cls=.type "dict")(y:h.data=.dict es ep)
  (q:Q (.ref s.1.1.size) { s with heap:=s.1.push { cls:=.type "dict_keyiterator",data:=.fields (WZ [.ref d,.int 0 0,.int es.size 0,.int ep 0]) } }) :
  Jw (jz prog w) A (Vs (.ref d)) Q E s:=by
 have z:s.TypeIs (.ref d) "dict":=#[_,x,hc]
 refine QAj z QDk (Q5 QDk z F.entry_dict_iter ?body (F.args_dict_iter_1 _))
 case body =>
  show Jw _ _ (bind _ _) _ _ _;refine QA ?sl
  case sl =>
   show Jw _ _ (bind _ _) _ _ _;refine QA (QAv z (QH ?go))
   case go =>
    have e:QAw d=Gu PUnit.unit:=by unfold QAw;rw[hz];rfl
    show Jw _ _ (QAw d >>= _) _ _ _;rw[e];refine QA (QH (QA (ww x y (QA (Ww x y (QA (Qu (QH #[_,rfl,"dict_keyiterator",_,#[_,QO _ rfl,rfl],wH.lookup,?_]))))))));simpa[j1]using q
theorem x6{e:Vq}
  (u:s.1.IsKeyIter it d i es.size ep) (z:s.1.get? d=Jp h) (v:h.data=.dict es ep) (f:es[i]?=Jp e)
  (q:∀h',h'.IsKeyIter it d (i+1) es.size ep->qZ it s.1 h'->Q (Jp e.key) { s with heap:=h' }) :
  Jw (jz prog w) A (ku (.ref it)) Q E s:=by
 have k:=u.typeIs;let#[g,a,b,x]:=id u;show Jw _ _ (bind _ _) _ _ _;refine QA (QAW (qW k wH (Q5 wH k QA0 ?_ (QAx _))));show Jw _ _ (bind _ _) _ _ _;refine QA (QH (QA (QA (QA (wo k (QH (QA (QAB a x ?_))))))));rw[FF];show Jw _ _ (if(Jv d==Jz)=Js then _ else _) _ _ _;rw[Gq (show ¬ (Jv d==Jz)=Js from QF)];show Jw _ _ (WL (.ref d) >>= _) _ _ _;refine QA (QH (QA (ww z v ?_)));rw[Gq (show ¬ (((es.size:Nat):Int) != ((es.size:Nat):Int))=Js by simp)];refine QA (QH (QA (Ww z v ?_)));rw[Gq (show ¬ (((ep:Nat):Int) != ((ep:Nat):Int))=Js by simp)];refine QH ?_;have h0:(if((i:Nat):Int)<0 then Jr else es[((i:Nat):Int).toNat]?)=Jp e:=by rw[Gq (),WU];exact f
 simp only[h0];refine QA ?_;show Jw _ _ (Vp (.ref it) >>= _) _ _ _;refine QA (wo k (QH (QA (QCM k ?_))));rw[FF];show Jw _ _ (Zt (.ref it) 1 _ >>= _) _ _ _;refine QA (wa a x (by simp) ?_);have y:(s.1.update it (wD (·.setIfInBounds 1 (j1 ((i:Int)+1))))).IsKeyIter it d (i+1) es.size ep :=
  #[_,Q0 _ a (wG (qH x _)),(W0 ..).trans b,by rw[qH x];simp[j1]]
 refine QA (qG (QA (QCM (s:={ s with heap:=s.1.update it (wD (·.setIfInBounds 1 (j1 ((i:Int)+1)))) }) y.typeIs ?_)));show Jw _ _ (Gu e.key) _ _ _;exact QH (QH #[_,rfl,QH (q _ y (qO ..))])
theorem xP(e:A.handled=Jr)
  (y:s.1.IsKeyIter it d i es.size ep) (x:s.1.get? d=Jp h) (u:h.data=.dict es ep) (f:es[i]?=Jr)
  (q:∀h',QBu it s.1 h'->Q Jr { s with heap:=h' }) :
  Jw (jz prog w) A (ku (.ref it)) Q E s:=by
 have v:=y.typeIs;let#[j,k,g,z]:=id y;show Jw _ _ (bind _ _) _ _ _;refine QA (QAW (qW v wH (Q5 wH v QA0 ?_ (QAx _))));show Jw _ _ (bind _ _) _ _ _;refine QA (QH (QA (QA (QA (wo v (QH (QA (QAB k z ?_))))))));rw[FF];show Jw _ _ (if(Jv d==Jz)=Js then _ else _) _ _ _;rw[Gq (show ¬ (Jv d==Jz)=Js from QF)];show Jw _ _ (WL (.ref d) >>= _) _ _ _;refine QA (QH (QA (ww x u ?_)));rw[Gq (show ¬ (((es.size:Nat):Int) != ((es.size:Nat):Int))=Js by simp)];refine QA (QH (QA (Ww x u ?_)));rw[Gq (show ¬ (((ep:Nat):Int) != ((ep:Nat):Int))=Js by simp)];refine QH ?_;have h0:(if((i:Nat):Int)<0 then Jr else es[((i:Nat):Int).toNat]?)=none:=by rw[Gq (),WU];exact f
 simp only[h0];refine QA ?_;show Jw _ _ (Vp (.ref it) >>= _) _ _ _;refine QA (wo v (QH ?_));rw[FF];show Jw _ _ (Zt (.ref it) 0 .none >>= _) _ _ _;refine QA (wa k z (by simp) ?_);refine QA (m:=Xp (.type "StopIteration") []) ?_;simp only[Xp,xx];refine QA (Qu ?made (by size_fits));refine QA (m:=Kt _ _) (QAJ (a:=Jz) (by first|rfl | (rw[Kt];rfl)) ?arg);refine Qu ?made2 (by size_fits);simp only[xy];refine QA (QBv ?_);first|rw[show A.in1.handled=Jr from e]|rw[e]
 refine QA (QH (QCp ?_));refine QA (Wh (T:="StopIteration") (b:=Js) #[_,QO _ rfl,rfl] (by kernel_rfl) ?_);rw[Gw rfl];exact QH (q _ (((qO ..).extBut.push _).push _))
end
end
noncomputable def Mn(ep n:Nat)(a:jy):It :=
  #[λi H=>∃h p,H a=Jp (.dT ep h)/\h.9=n/\h[i]?=Jp p,
   λi H v x=>x=H/\∀h,H a=Jp (.dT ep h)->∃p,h[i]?=Jp p/\v=.ref p.2.1,
   λi H=>∃h,H a=Jp (.dT ep h)/\h.9=n/\n<=i]
theorem jV{P:jv}{w:jr}{K:QE}{S:Expr}{a it:jy}{n ep:Nat}:Turn P w K S (Mn ep n a) [it] it (λi h=>h.IsKeyIter it a i n ep) where
 mem:=by simp
 obj:=λi h st b hb=>by let#[o,e,c,d]:=st;rw[QJ]at hb;subst hb;exact#[o,e,λv z=>by rw[d]at z;cases z]
 keep:=λi h Y st k=>st.at λo e=>k it (by simp) o e
 item:=by
  intro X B Z C hc i u s Q H E I l st A;subst B Z C;let#[f,p,e,W,ep]:=A;let#[z,y,R,r,o,x,G,h2,F,m,h5]:=(show ZA X.prog X.w H s.1 a (.dT _ f) from I.hok a _ e)
  have g:x.size=n:=by have:=gV wm m;rw[QG,QM]at this;rw[this,<- qq r,W]
  let#[q,hq,rq]:=lG r ep;have he:x[i]?=Jp (kb (Vy (yB X.prog X.w)) q):=by
   have:x.toList[i]?=Jp (kb (Vy (yB X.prog X.w)) q):=by rw[m,Qg,hq];rfl
   simpa using this
  subst g;let#[O,N,f2,M,L,J]:=l it (by simp);refine x6 st G F he λY j sb=>?_;have I1:Inv X u Q H { s with heap:=Y }:=I.turned (t':=s.toks) (λb o hb e=>(sb.2 b hb).trans e) O N M L J;let#[oi,ei,ci,di]:=id j;exact#[_,rfl,GP (s:={ s with heap:=Y }) ei ci di (by decide) #[.ref p.2.1,H,I1,show Jv q.2.1=Jv p.2.1 by rw[rq.2.1],#[rfl,λks hk=>by rw[e]at hk;cases hk;exact#[p,ep,rfl]],j,λb hb=>(l b hb).1]]
 done:=by
  intro X B Z C hc i u s Q H E I l st A;subst B Z C;let#[f,e,W,ep]:=A;let#[z,y,R,r,o,x,G,h2,F,m,h5]:=(show ZA X.prog X.w H s.1 a (.dT _ f) from I.hok a _ e)
  have g:x.size=n:=by have:=gV wm m;rw[QG,QM]at this;rw[this,<- qq r,W]
  subst g;let#[O,N,f2,M,L,J]:=l it (by simp);exact xP (I.ok.hd hc) st G F (QCA ep) λY eb=>#[rfl,I.turned (t':=s.toks) (λb o hb e=>eb b o hb e) O N M L J]
 self:=λ_ _ _ _ _ st h=>wpAny_pyIter_keyiter st h
open PySem.SeqAt
open AutoSeq1 (wpAny_loadPart')
open MeetsSeq MeetsSeq2 MeetsSeq3
noncomputable def mf:LS->LS->Bool
 |[],[]=>Jt|[],_::_=>Js|_::_,[]=>Jt|x::a,y::b=>if(x==y)=Js then mf a b else decide (x.cps.toList<y.cps.toList)
theorem aM{vs:LW}{ss:LS}(h:zx vs ss):vs.9=ss.9/\∀(i:Nat) (x:Str),ss[i]?=Jp x->∃t:Tok,vs[i]?=Jp (Value.str x t):=by
 induction h with
 |nil=>exact#[rfl,λi x e=>by simp at e]|cons y t _ z =>
  refine#[by rw[QL,QL,z.1],λi x e=>?_];cases i with|zero=>simp at e;subst e;exact#[t,rfl]|succ i=>simp at e;simpa using z.2 i x e
theorem SV(l b:jy)(v x:Array Ju)(n K:Nat)(L p:Option jy)(Z m:Array (Option Ju))(ss ts:LS)(G:zx v.toList ss)(F:zx x.toList ts)(k:Nat) :
  ∀i:Nat,v.size - i=k->i<=v.size->i<=x.size->Meets (Builtin.«list.__eq__.loop» #[[.ref l,.ref b,j1 i,j1 0],[]])
   (λA R s=>s.1.get? l=Jp { cls:=.type "list",dict:=L,data:=.seq v n,slots:=Z }/\s.1.get? b=Jp { cls:=.type "list",dict:=p,data:=.seq x K,slots:=m } /\
    R (.ok (.ret (.bool (mf (ss.drop i) (ts.drop i))))) s):=by
 let#[S,Q]:=aM G;let#[O,N]:=aM F;rw[QM]at S O;induction k with
 |zero =>
  intro i hk E o a w A R s h;let#[C,g,d,Y,W]:=s;let#[hl,hb,h]:=h;wp_walk using qb hl,qb hb;have j:v[((i:Nat):Int).toNat]?=none:=by simp;omega
  rw[j];wp_walk using qb hl,qb hb;have X:ss.drop i=[]:=by simp;omega
  rw[X]at h;have e:mf [] (ts.drop i)=decide (v.size<x.size):=by
   cases z:ts.drop i with
   |nil =>
    have:ts.9<=i:=by simpa using z
    exact(dF ()).symm
   |cons y r =>
    have:i<ts.length:=by by_cases c:i<ts.9;exact c;rw[WA ()]at z;cases z
    exact(dT ()).symm
  rw[e]at h;exact h
 |succ k B =>
  intro i hk E o a w A R s h;let#[C,g,d,Y,W]:=s;let#[hl,hb,h]:=h;wp_walk using qb hl,qb hb;have f:i<ss.length:=()
  let#[t,I]:=Q i ss[i] (Q9 f);have j:v[((i:Nat):Int).toNat]?=Jp (.str ss[i] t):=by simpa using I
  rw[j];have X:ss.drop i=ss[i]::ss.drop (i+1):=WM f;rw[X]at h;by_cases c:i<ts.9;let#[u,J]:=N i ts[i] (Q9 c);have e:x[((i:Nat):Int).toNat]?=Jp (.str ts[i] u):=by simpa using J
  have M:ts.drop i=ts[i]::ts.drop (i+1):=WM c;rw[M]at h;have h:R (.ok (.ret (.bool (if(ss[i]==ts[i])=Js then mf (ss.drop (i+1)) (ts.drop (i+1)) else decide (ss[i].cps.toList<ts[i].cps.toList))))) _:=h;rw[e];refine QA (EqAt.str_str ss[i] t ts[i] u a w _ _ ?_);have hc:((i:Int)+1)=((i+1:Nat):Int):=by push_cast;rfl
  cases q:(ss[i]==ts[i]) with|true=>rw[q,Gw rfl]at h;wp_walk;rw[hc];exact#[WG plain_eq_loop _,qh entry_eq_loop (by rw[qQ plain_eq_loop _];exact B (i+1) () () () a w A R _ #[hl,hb,h])]|false=>rw[q,Gq QF]at h;wp_walk using qb hl,qb hb;rw[j,e];show Jw _ _ (jq .Lt (.str ss[i] t) (.str ts[i] u) >>= _) _ _ _;refine QA (PySem.P.lt_str ?_);exact QH h
  have e:x[((i:Nat):Int).toNat]?=none:=by simp;omega
  rw[e];wp_walk using qb hl,qb hb;rw[WA (show ts.9<=i by omega)]at h;have:decide (v.size<x.size)=false:=dF ();have h:R (.ok (.ret (.bool Jt))) _:=h;rw[<- this]at h;exact h
theorem IV(l b:jy)(y x:Array Ju)(n a:Nat)(e v:Option jy)(k z:Array (Option Ju))(ss ts:LS)(i:zx y.toList ss)(f:zx x.toList ts) :
  Meets (Builtin.«list.__lt__» #[[.ref l,.ref b],[]])
   (λA R s=>s.1.get? l=Jp { cls:=.type "list",dict:=e,data:=.seq y n,slots:=k }/\s.1.get? b=Jp { cls:=.type "list",dict:=v,data:=.seq x a,slots:=z } /\
    R (.ok (.ret (.bool (mf ss ts)))) s):=by
 intro u w A R s h;let#[o,g,d,j,m]:=s;let#[hl,hb,h]:=h;have p:=AutoSeq1.sub_list_list;wp_walk using qb hl,qb hb;exact#[WG plain_eq_loop _,qh entry_eq_loop (by rw[qQ plain_eq_loop _];exact SV l b y x n a e v k z ss ts i f _ 0 rfl (Q3 _) (Q3 _) u w A R _ #[hl,hb,h])]
section
variable{prog:jv}{w:jr}{A:ju}{E:pB}{s:Jq}
theorem nR{l b:jy}{y x:Array Ju}{n k:Nat}{a u:Option jy}{v z:Array (Option Ju)}{ss ts:LS}{Q:Bool->Jq->Prop}(e:A.units<Ks)(hl:s.1.get? l=Jp { cls:=.type "list",dict:=a,data:=.seq y n,slots:=v })(hb:s.1.get? b=Jp { cls:=.type "list",dict:=u,data:=.seq x k,slots:=z })
  (g:zx y.toList ss) (f:zx x.toList ts) (h:Q (mf ss ts) s):Jw (jz prog w) A (keyLt' zw (.ref l) (.ref b)) Q E s:=by
 rw[keyLt'_oneType,oneLt'_eq];simp only[if_true];refine QA (wpAny_cRoomFor e (QA (wpAny_callSpecialIfBound?_slot (T:="list") #[_,hl,rfl] F.slot_list_lt ?_)));refine QBf F.slot_list_lt #[_,hl,rfl] F.entry_list_lt (F.args_list_lt_2 _ _) (IV l b y x n k a u v z ss ts g f) #[hl,hb,?_];exact wu h
end
end L2.L3
namespace L2.L3
open PySem PySem.Spec PyProof.Rows PySem.W
def XC{α:Type}(n:Nat)(P:α->Prop):KasT α->Prop
 | .ret a=>P a|.ask i j k=>i<n/\j<n/\∀b,XC n P (k b)
theorem XC.bnd{α x:Type}{n:Nat}{P:α->Prop}{R:x->Prop}{f:α->KasT x}(y:∀a,P a->XC n R (f a)):∀{t:KasT α},XC n P t->XC n R (t.bind f)
 | .ret a,h=>y a h|.ask i j k,#[h1,h2,h]=>#[h1,h2,λb=>XC.bnd y (h b)]
theorem XC.wp{α:Type}{n:Nat}{P:α->Prop}{x:Nat->Nat->(Bool->Jq->Prop)->Jq->Prop}{Q:α->Jq->Prop}{s:Jq}(y:∀i j,i<n->j<n->∀C:Bool->Jq->Prop,(∀b,C b s)->x i j C s)(z:∀a,P a->Q a s):∀{t:KasT α},XC n P t->t.kasWp x Q s
 | .ret a,h=>z a h|.ask i j k,#[h1,h2,h]=>y i j h1 h2 _ λb=>XC.wp y z (h b)
def Pm(n:Nat)(p:Array Nat):Prop:=p.Perm (WZ (Qj n))
section
variable{n:Nat}
section
variable{p:Array Nat}
theorem Pm.lt(h:Pm n p)(h0:0<n)(i:Nat):p.getD i 0<n:=by
 by_cases c:i<p.size;have e:p.getD i 0=p[i]:=by simp[QDJ,c]
 rw[e];have m:p[i]∈p.toList:=by simp
 have:=(QBM.mp h).mem_iff.mp m;simpa using this;have e:p.getD i 0=0:=by simp[QDJ,c]
 rw[e];exact h0
theorem Pm.rev(h:Pm n p)(i j:Nat):Pm n (kas_rev p i j):=(mirror_perm _ _ _ _).trans h
theorem jO{p:Array Nat}(h:Pm n p)(h0:0<n):∀(f m:Nat),XC n (λ_=>True) (kas_asc p f m)
 |0,m=>trivial|f+1,m=>#[h.lt h0 _,h.lt h0 _,λb=>by
  cases b with|true=>exact trivial|false=>exact jO h h0 f (m+1)]
theorem KH(h0:0<n):∀(f:Nat) {p:Array Nat}(h:Pm n p) (m q:Nat),XC n (λr=>Pm n r.1) (kas_desc f p m q)
 |0,p,h,m,q=>h|f+1,p,h,m,q=>#[h.lt h0 _,h.lt h0 _,λb=>by
  cases b with
  |true=>show XC n _ (if q > 0 then _ else _);split;exact KH h0 f (h.rev _ _) _ _;exact KH h0 f h _ _|false =>
   refine#[h.lt h0 _,h.lt h0 _,λb=>?_];cases b with|true=>exact h|false=>exact KH h0 f h _ _]
theorem zM(h0:0<n)(h:Pm n p)(a b:Nat):XC n (λr=>Pm n r.2) (kas_tail3 a b p):=by refine XC.bnd (f:=λm=>.ret (m,kas_rev p 0 a)) (λm _=>?_) (jO (h.rev _ _) h0 _ _);exact h.rev _ _
theorem ZH(h0:0<n)(h:Pm n p)(a b:Nat):XC n (λr=>Pm n r.2) (kas_descPart a b p):=by refine XC.bnd (λr x=>?_) (KH h0 _ h _ _);split;exact zM h0 (Pm.rev x _ _) _ _;exact zM h0 x _ _
theorem XW(h0:0<n)(h:Pm n p)(b:Nat):XC n (λr=>Pm n r.2) (kas_count b p):=by
 refine XC.bnd (λm _=>?_) (jO h h0 _ _);split;exact h;split
 ·refine#[h.lt h0 _,h.lt h0 _,λc=>?_]
  cases c with|true=>exact h|false=>exact ZH h0 (h.rev _ _) _ _
 exact ZH h0 h _ _
theorem bI(h0:0<n){p:Array Nat}(h:Pm n p)(k:Nat):∀(f l r:Nat),XC n (λ_=>True) (kas_place p k f l r)
 |0,l,r=>trivial|f+1,l,r=>by
  show XC n _ (if l ≥ r then _ else _);split;exact trivial;refine#[h.lt h0 _,h.lt h0 _,λb=>?_];cases b with|true=>exact bI h0 h k f _ _|false=>exact bI h0 h k f _ _
theorem DU(h0:0<n):∀(f:Nat) {p:Array Nat}(h:Pm n p) (k:Nat),XC n (Pm n) (kas_bin f p k)
 |0,p,h,k=>h|f+1,p,h,k=>XC.bnd (λl _=>DU h0 f ((bubble_perm _ _ _).trans h) _) (bI h0 h _ _ _ _)
theorem sQ(h0:0<n):XC n (Pm n) (kas_sort n):=by refine XC.bnd (λr h=>?_) (XW h0 (QDx _) _);split;exact DU h0 _ h _;exact h
end
end
theorem pL{α:Type}(vs:List α)(d:α):(Qj vs.9).map (λi=>vs.getD i d)=vs:=by apply wY;intro i;rw[Qg];by_cases c:i<vs.9;rw[QCq c];simp[c];rw[qL (by simp;omega),qL ()];rfl
section
variable{prog:jv}{w:jr}{A:ju}{E:pB}{s:Jq}
section
variable{vs:LW}{R:Array Nat->Prop}{l:jy}{Q:pB}
theorem Hh{M:Zp}{Q:zt->Jq->Prop}(k:2<=vs.9)(z:∀v∈vs,s.TypeIs v "list")(h:Q zw s):Jw M A (Gx vs.toArray) Q E s:=by
 cases vs with
 |nil=>simp at k|cons v r =>
  rw[keyKind'_eq,QDK,map_eq_pure_bind];refine QA (QA (kas_mapM (r:=Jr) _ (λu y e q=>?_) (QH ?_)));rw[kas_first_eq];exact QA (Wt (z u y) (QH q));rw[Gq (by simp),Gq (by simp),oneTypeOnly'_eq,QDK,map_eq_pure_bind];refine QA (QA (QA (kas_mapM (r:=.type "list") _ (λu y e q=>Wt (z u y) q) (QH ?_))));have b:((v::r).map λ_=>Value.type "list").toArray[0]?=Jp (.type "list"):=by simp
  have a:(((v::r).map λ_=>Value.type "list").toArray.all λx=>x==Value.type "list")=true:=by simp only[List.all_toArray,List.all_map,qN];intro _ _;rfl
  rw[b];simp only[a,if_true];exact QH (QH h)
theorem tZ{κ:zt}{a:jy}{n:Nat}{P:QEG->Jq->Prop}(m:s.1.get? a=Jp (Zw "list" vs.toArray n))(W:vs.9<64)
  (kind:2<=vs.9->∀u:js,(∀b o,b≠a->s.1.get? b=Jp o->u.get? b=Jp o)->∀Q:zt->Jq->Prop,Q κ { s with heap:=u }->Jw (jz prog w) A (Gx vs.toArray) Q E { s with heap:=u })
  (h:2<=vs.9->∀u:js,(∀b o,b≠a->s.1.get? b=Jp o->u.get? b=Jp o)->(kas_sort vs.9).kasWp (kas_ask prog w A κ vs) (λp s'=>s'={ s with heap:=u }/\Pm vs.9 p/\R p) { s with heap:=u })
  (B:vs.9<2->R (WZ (Qj vs.9)))
  (k:∀p:Array Nat,Pm vs.9 p->R p->P (.done (.ret .none)) { s with heap:=sortedHeap s.1 a vs (p.toList.map λi=>vs.getD i Jz).toArray }):Jw (jz prog w) A (Builtin.«list.sort» #[[.ref a],[]]) P E s:=by
 have S:a<s.1.1.size:=QS m;have F:=qO s.1 a (qS λ_=>(#[]:Array Ju));obtain⟨q,j⟩:∃q,(s.1.update a (qS λ_=>(#[]:Array Ju))).get? a=Jp (Zw "list" #[] q):=#[_,get?_update_seq m λ_=>#[]]
 have g:(((s.1.update a (qS λ_=>(#[]:Array Ju))).push (Zw "tuple" vs.toArray 0)).push (Zw "list" #[] 0)).get? a=Jp (Zw "list" #[] q):=QI _ (QI _ j);have kept:∀b o,b≠a->s.1.get? b=Jp o->(((s.1.update a (qS λ_=>(#[]:Array Ju))).push (Zw "tuple" vs.toArray 0)).push (Zw "list" #[] 0)).get? b=Jp o:=λb o hb e=>QI _ (QI _ ((F.2 b hb).trans e));rw[list_sort_plain];refine QA (listItems_at m rfl (QA (Gv m rfl ?_ (by rw[QU];omega) (Q3 _))));refine QA (seqEpoch_at j rfl (QA (QCh ?_ (by show vs.9<=_;omega))));refine QA (QBw (qG ?_) (Q3 _));show Jw (jz prog w) A _ P E { s with heap:=((s.1.update a (qS λ_=>(#[]:Array Ju))).push (Zw "tuple" vs.toArray 0)).push (Zw "list" #[] 0) };dsimp only;have fin:∀p:Array Nat,Pm vs.9 p->R p->Jw (jz prog w) A (do
   let x:=(<- seqEpoch a) != q
   Builtin.List.listUpdate (.ref a) λ_=>(p.toList.map λi=>vs.getD i Jz).toArray
   if x then rule "list.sort.modified";raiseError "ValueError" "list modified during sort"
   ret .none) P E { s with heap:=((s.1.update a (qS λ_=>(#[]:Array Ju))).push (Zw "tuple" vs.toArray 0)).push (Zw "list" #[] 0) }:=λp X Z=>by
  have hl:p.toList.9=vs.length:=by have:=X.size_eq;simpa using this
  refine QA (seqEpoch_at g rfl (QA (Gv g rfl ?_ (Q3 _) (by rw[QU,QG];omega))));simp only[bne_self_eq_false,qF,if_false];exact QH (k p X Z)
 by_cases K:vs.9<2;have z:vs.toArray.size<2:=by rw[QU];exact K
 rw[Gw z,Gw z];refine QA (QH ?_);rw[StateT.run_pure];refine QA (QH ?_);have e:(arrOf (QDL general' (vs.toArray.zip vs.toArray) #[] 7 Jr)).map (·.2)=vs.toArray:=by show(vs.toArray.zip vs.toArray).map (·.2)=_;apply QAy.mp;simp[QAz]
 dsimp only;rw[e];have r:=fin (WZ (Qj vs.9)) (QDx _) (B K);rw[show((WZ (Qj vs.9)).toList.map λi=>vs.getD i Jz)=vs from pL vs Jz]at r;exact r;have z:¬ vs.toArray.size<2:=by rw[QU];exact K
 rw[Gq z,Gq z];refine QA (kind () _ kept _ ?_);have C:QDL κ (vs.toArray.zip vs.toArray) #[] 7 Jr=kas_st κ (zu vs) (WZ (Qj vs.9)):=by have e:=kas_range (zu vs);rw[pairsOf_size]at e;show QDL κ (zu vs) #[] 7 Jr=QDL κ ((WZ (Qj vs.9)).map (kas_item (zu vs))) #[] 7 Jr;rw[e]
 have h:=h () _ kept;rw[kas_ask_eq]at h;have v:=kas_runs (prog:=prog) (w:=w) (A:=A) (E:=E) (Q:=λ_ y s'=>∃p:Array Nat,p.size=vs.9/\arrOf y=p.map (kas_item (zu vs))/\failedOf y=Jr/\s'={ s with heap:=((s.1.update a (qS λ_=>(#[]:Array Ju))).push (Zw "tuple" vs.toArray 0)).push (Zw "list" #[] 0) }/\Pm vs.9 p/\R p)
  () W (λI y s' O N M L=>#[I,O,N,M,L]) h
 rw[<- C]at v;refine QA (WE v ?_ λ_ _ e=>e);rintro⟨⟨⟩,y⟩ s' ⟨p,X,Y,J,rfl,G,Z⟩;dsimp only;have f:(arrOf y).map (·.2)=WZ (p.toList.map λi=>vs.getD i Jz):=by apply QAy.mp;rw[Y,Array.map_map,Array.toList_map];exact qX λi _=>by show(kas_item (zu vs) i).2=_;rw[kas_item_eq]
 rw[f,J];exact fin p G Z
theorem V4{κ:zt}(hl:s.1.IsList l vs.toArray)(e:vs.9<64)
  (kind:2<=vs.9->∀h:js,(∀b o,s.1.get? b=Jp o->h.get? b=Jp o)->∀Q:zt->Jq->Prop,Q κ { s with heap:=h }->Jw (jz prog w) A.in1.in1 (Gx vs.toArray) Q E { s with heap:=h })
  (x:2<=vs.9->∀h:js,(∀b o,s.1.get? b=Jp o->h.get? b=Jp o)->(kas_sort vs.9).kasWp (kas_ask prog w A.in1.in1 κ vs) (λp s'=>s'={ s with heap:=h }/\Pm vs.9 p/\R p) { s with heap:=h })
  (g:vs.9<2->R (WZ (Qj vs.9)))
  (k:∀p:Array Nat,Pm vs.9 p->R p->Q (.ref (s.1.1.size+1)) { s with heap:=sortedAll s.1 vs (p.toList.map λi=>vs.getD i Jz).toArray }):Jw (jz prog w) A (vt (.builtin "sorted") [.ref l]) Q E s:=by
 refine QAC QDy QDY QDZ (QDa _) ?_;unfold Builtin.«sorted»;refine QA (m:=Yr "sorted" 1 1 _) (QH (QA (collect_list hl ?_ ())));refine QA (QBw ?_ (by show vs.9<=_;omega));have z:((s.1.push (Zw "list" #[] 0)).update s.1.1.size (qS (·++vs.toArray))).1.size=s.1.1.size+1:=by rw[Heap.size_update,QD9]
 have u:(((s.1.push (Zw "list" #[] 0)).update s.1.1.size (qS (·++vs.toArray))).push (Zw "list" vs.toArray 0)).get? (s.1.1.size+1)=Jp (Zw "list" vs.toArray 0):=by rw[<- z];exact QO _ rfl
 have v:∀b o,s.1.get? b=Jp o->(((s.1.push (Zw "list" #[] 0)).update s.1.1.size (qS (·++vs.toArray))).push (Zw "list" vs.toArray 0)).get? b=Jp o:=λb o q=>by have a:b<s.1.1.size:=QS q;refine QI _ ?_;rw[Heap.get?_update_ne _ _ _ _ (Qe a)];exact QI _ q
 show Jw _ _ _ _ _ { s with heap:=((s.1.push (Zw "list" #[] 0)).update s.1.1.size (qS (·++vs.toArray))).push (Zw "list" vs.toArray 0) };rw[z];refine QA (qG (Q5 QCi #[_,u,rfl] QCN ?body (QCj _)))
 case body=>have j:∀h:js,(∀b o,b≠s.1.1.size+1->(((s.1.push (Zw "list" #[] 0)).update s.1.1.size (qS (·++vs.toArray))).push (Zw "list" vs.toArray 0)).get? b=Jp o->h.get? b=Jp o)->∀b o,s.1.get? b=Jp o->h.get? b=Jp o:=λh y b o q=>y b o (Qe (qM (QS q))) (v b o q);exact tZ (s:={ s with heap:=((s.1.push (Zw "list" #[] 0)).update s.1.1.size (qS (·++vs.toArray))).push (Zw "list" vs.toArray 0) }) u e (λf h y=>kind f h (j h y)) (λf h y=>x f h (j h y)) g λp n r=>#[_,rfl,QH #[_,rfl,k p n r]]
theorem ZT{p:Array Nat}(h:Pm vs.9 p):(p.toList.map λi=>vs.getD i Jz).Perm vs:=by refine((QBM.mp h).map λi=>vs.getD i Jz).trans ?_;show((Qj vs.9).map λi=>vs.getD i Jz).Perm vs;rw[pL]
theorem K4(hl:s.1.IsList l vs.toArray)(f:vs.9<64)(Y:∀v∈vs,∃b o,v=.ref b/\s.1.get? b=Jp o/\o.cls=.type "list")
  (g:∀h:js,(∀b o,s.1.get? b=Jp o->h.get? b=Jp o)->∀x∈vs,∀y∈vs,∀C:Bool->Jq->Prop,(∀k,C k { s with heap:=h })->Jw (jz prog w) A.in1.in1 (keyLt' zw x y) C (λ_ _=>False) { s with heap:=h })
  (k:∀out:LW,out.Perm vs->Q (.ref (s.1.1.size+1)) { s with heap:=sortedAll s.1 vs out.toArray }):Jw (jz prog w) A (vt (.builtin "sorted") [.ref l]) Q E s:=by
 refine V4 (κ:=zw) (R:=λ_=>True) hl f (λm h z Q q=>Hh m (λv hv=>?_) q) (λm h z=>?_) (λ_=>trivial) λp u _=>k _ (ZT u);let#[b,o,rfl,e,c]:=Y v hv;exact#[o,z b o e,c];have r:∀i,i<vs.9->vs.getD i Jz∈vs:=λi a=>by
  have:vs.getD i Jz=vs[i]:=by simp[a]
  rw[this];exact QB4 _
 exact XC.wp (λi j a X C Z=>g _ z _ (r i a) _ (r j X) C Z) (λp u=>#[rfl,u,trivial]) (sQ (n:=vs.9) ())
end
end
section
variable{prog:jv}{w:jr}{A:ju}
theorem Od(Z:A.handled=Jr)(j:jy)(z:Src)(m:z.adr≠j)(y:Array Ju)(c:Nat) :
  Draws prog w A j [j,z.adr] (c+y.size) (λi v=>∃k,i=c+k/\y[k]?=Jp v) (λi h=>∃k,i=c+k/\ZD h j z k/\BB h z y) where
 live:=λ_ _ #[_,_,p,_]=>let#[o,e,_]:=p.obj;#[o,e]
 frame:=λ_ h f #[k,e,p,q] u=>#[k,e,p.keep λo x=>u j (by simp) o x,by
  cases z with|l a=>exact QDv.at q λo x=>u a (by simp[Src.adr]) o x|t a=>let#[o,Y,X]:=q;exact#[o,u a (by simp[Src.adr]) o Y,X]]
 item:=λi s Q E W #[k,e,p,q] n=>by
  have hk:k<y.size:=()
  exact u6 p q (x:=y[k]) (by simp[hk]) λf g b=>n _ f s.toks #[k,e,by simp[hk]] #[k+1,(),g,Yb q b m] b
 done:=λs Q E #[k,e,p,q] r=>by
  have hk:k=y.size:=()
  exact AY Z p q (by simp[hk]) r
theorem Pd(r:A.handled=Jr)(j:jy)(z:Src)(y:Array Ju)(n k:Nat)(v:y[k]?=Jr) :
  Draws prog w A j [j,z.adr] n (λ_ _=>False) (λi h=>i=n/\ZD h j z k/\BB h z y) where
 live:=λ_ _ #[_,p,_]=>let#[o,e,_]:=p.obj;#[o,e]
 frame:=λ_ h Y #[e,p,q] u=>#[e,p.keep λo x=>u j (by simp) o x,by
  cases z with|l a=>exact QDv.at q λo x=>u a (by simp[Src.adr]) o x|t a=>let#[o,m,g]:=q;exact#[o,u a (by simp[Src.adr]) o m,g]]
 item:=λi s Q E b #[e,_,_] X=>gJ b ()
 done:=λs Q E #[_,p,q] f=>AY r p q v f
def Nn(K:QE)(z:Src)(c:Nat):It :=
  #[λi H=>∃h x,SW K H z h/\h[i]?=Jp x,
   λi H v y=>∃p x,H p=Jr/\v=.ref p/\y=KA H p (.tup [.int ((c+i:Nat):Int),x])/\∀h,SW K H z h->h[i]?=Jp x,
   λi H=>∃h,SW K H z h/\h.9<=i]
def US(e j:jy)(z:Src)(c i:Nat)(h:js):Prop:=(∃x,IsEnum h e j ((c+i:Nat):Int) x)/\ZD h j z i
theorem yV{P:jv}{K:QE}{es:List Expr}{kk:Nat}{pp:Pos}{e j:jy}{z:Src}{c:Nat}(L:e≠j)(n2:z.adr≠e)(n3:z.adr≠j) :
  Turn P w K (.Tuple es kk pp) (Nn K z c) [e,j] e (US e j z c) where
 mem:=by simp
 obj:=λi h st b hb=>by let#[#[a,g],n]:=st;simp only[QK,Wi,or_false]at hb;rcases hb with rfl|rfl;exact#[_,g,λv q=>by cases(show Data.fields _=Data.cell v from q)];exact n.obj
 keep:=λi h h' st k=>by let#[#[a,g],n]:=st;exact#[#[a,k e (by simp) _ g],n.keep λo x=>k j (by simp) o x]
 item:=by
  intro X O M Q hc i r s σ H E I B st N;subst O M Q;let#[xs,x,C,ex]:=N;let#[f,J,F,_]:=I.src C;let#[u,hu,ru]:=J.get ex;let#[#[a,g],n]:=st;have hi:i<f.toArray.size:=by have:=(Qb.mp hu).1;simpa using this
  refine wpAny_pyNext_enum_itemD (Od (show X.A.in1.handled=Jr from I.ok.hd hc) j z n3 f.toArray c) g #[i,rfl,n,F] () L (by simp[L,qB n2]) λy h' W #[k,ek,hy] b1 b2 b3 b4 b5=>?_;have ek:k=i:=()
  subst ek;have ey:y=u:=by
   have:f.toArray[k]?=Jp u:=by simpa using hu
   rw[this]at hy;exact(Qy hy).symm
  subst ey;refine#[_,rfl,wpAny_letOwnedTupleGo_enum b1 λp c1 G=>?_];let#[k2,Z,b2,b2']:=b2;have Z:k2=k+1:=()
  subst Z;have hp:=I.hok.fresh (QV s.1.1.size);have Y:e<s.1.1.size:=QS g;have m:∀b∈[e,j],b<s.1.1.size:=λb hb=>by simp only[QK,Wi,or_false]at hb;rcases hb with rfl|rfl;exact Y;exact n.lt
  have kept:∀b o,b∉[e,j]->s.1.get? b=Jp o->p.get? b=Jp o:=λb o hb q=>by simp only[QK,Wi,or_false,not_or]at hb;exact(G.2 b hb.1).trans (b5 b o hb.1 hb.2 q)
  have l:p.get? s.1.1.size=Jp { cls:=.type "tuple",data:=.seq (WZ [.int ((c+k:Nat):Int) W,y]) }:=(G.2 _ (wQ Y)).trans b3;have I1:=I.pair (x:=.int ((c+k:Nat):Int)) (h':=s.1.push { cls:=.type "tuple",data:=.seq (WZ [.int ((c+k:Nat):Int) W,y]) }) (t':=W+1) (λb o e=>QI _ e) (QV _) (QO _ rfl) #[_,rfl] ru;have I2:=I1.turnedL (h':=p) (t':=W+1) (ch:=[e,j]) (λb o hb e=>by
   rcases QCX e with⟨q1,q2⟩| q;subst q1 q2;exact l;exact kept b o hb q) λb hb=>by
   let#[f0,f1,f2,f3,S,R]:=B b hb;exact#[by rw[vA (Qe (m b hb))];exact f0,f1,f2,f3,S,R]
  refine#[.ref s.1.1.size,_,I2,rfl,#[s.1.1.size,x,hp,rfl,rfl,λxs' g1=>?_],#[#[y,?_],b2.keep λo q=>(G.2 _ (qB L)).trans q],λb hb=>?_];rw[I.src_inj g1 C];exact ex;have:(((c+(k+1):Nat)):Int)=((c+k:Nat):Int)+1:=()
  rw[this];exact c1;rw[vA (Qe (m b hb))];exact(B b hb).1
 done:=by intro X O M Q hc i r s σ H E I B st N;subst O M Q;let#[xs,C,en]:=N;let#[f,J,F,_]:=I.src C;let#[#[a,g],n]:=st;have l1:=J.9;let#[f0,f1,f2,f3,S,R]:=B j (by simp);exact wpAny_pyNext_enum_endD (Pd (show X.A.in1.handled=Jr from I.ok.hd hc) j z f.toArray 0 i (by simp;omega)) g #[rfl,n,F] λh' eb=>#[rfl,I.turned (t':=s.toks) (λb o hb e=>eb b o hb e) f0 f1 f3 S R]
 self:=λ_ _ _ _ _ st h=>by let#[#[a,g],_]:=st;exact QDM g h
end
theorem nW(z:Src)(xs:Array Ju):Meets (Builtin.«enumerate.__new__» #[[.type "enumerate",.ref z.adr],[]]) (λ_ R s=>BB s.1 z xs /\
   R (.ok (.ret (.ref (s.1.push z.it).1.size))) { s with heap:=(s.1.push z.it).push { cls:=.type "enumerate",data:=.fields (WZ [.none,.bool Jt,.ref s.1.1.size,j1 0,.none,.none]) } }) :=
 .of_wp λy w A R s h=>by
  let#[b,g,d,v,a]:=s;let#[k,h]:=h;have u:=sub_enumerate;have x:BB (Shared.heap #[b,g,d,v,a]) z xs:=k;wp_walk;refine wpAny_stack_any λst=>QH ?_;split;rename_i cl _ _ _ _ _;cases(cl==Value.type "enumerate")<;>(wp_walk using eO x;exact#[_,rfl,h])
  wp_walk using eO x;exact#[_,rfl,h]
section
variable{prog:jv}{w:jr}{A:ju}{E:pB}{s:Jq}
theorem eU{h:js}{z:Src}{n:Int}:IsEnum ((h.push z.it).push { cls:=.type "enumerate",data:=.fields (WZ [.none,.bool Jt,.ref h.1.size,j1 n,.none,.none]) }) (h.1.size+1) h.1.size n .none:=by have:=QO (h.push z.it) (o:={ cls:=.type "enumerate",data:=.fields (WZ [.none,.bool Jt,.ref h.1.size,j1 n,.none,.none]) }) rfl;rw[qz]at this;exact this
theorem iS{z:Src}{xs:Array Ju}{Q:pB}(y:BB s.1 z xs)
  (h:∀h',US (s.1.1.size+1) s.1.1.size z 0 0 h'->(∀c o,s.1.get? c=Jp o->h'.get? c=Jp o)->Q (.ref (s.1.1.size+1)) { s with heap:=h' }):Jw (jz prog w) A (vt (.type "enumerate") [.ref z.adr]) Q E s:=by
 refine callType_new PySem.F.called_enumerate (by decide) (PySem.F.typeCall_enumerate_1 _) (PySem.F.newCall_enumerate_1 _) (λobj=>PySem.F.args_object_init_2 obj _) PySem.F.entry_enumerate_new (nW z xs) #[y,?_];show _/\_;rw[qz];exact#[#[_,eU,rfl],h _ #[#[.none,eU],(Z4 s.1 z).keep λo e=>QI _ e] λc o x=>QI _ (QI _ x)]
end
theorem Uo{a b:Nat}(h:a≠b):((a:jy)≠(b:jy)):=h
end L2.L3
namespace L2
open PySem PySem.Spec PyProof.Rows PySem.SeqAt
inductive NK where
 |s (x:Str)|t (xs:List NK)
noncomputable instance:DecidableEq NK:=λ_ _=>Classical.propDecidable _
mutual
def KG(h:js):NK->Ju->Prop
 | .s x,v=>∃t,v=.str x t|.t ks,v=>∃a y,v=.ref a/\h.IsTuple a y/\NKvs h ks y.toList
def NKvs(h:js):List NK->LW->Prop
 |[],vs=>vs=[]|k::ks,vs=>∃v r,vs=v::r/\KG h k v/\NKvs h ks r
end
mutual
def zN:NK->Nat
 | .s _=>0|.t h=>nkds h+1
def nkds:List NK->Nat
 |[]=>0|k::ks=>max (zN k) (nkds ks)
end
mutual
def mI(w:jr):NK->Int
 | .s x=>hashStr w x|.t h=>reduceHash (QBX (nkhs w h))
def nkhs(w:jr):List NK->LJ
 |[]=>[]|k::ks=>mI w k::nkhs w ks
end
mutual
def Lc:NK->Nat
 | .s _=>1|.t h=>nkts h+1
def nkts:List NK->Nat
 |[]=>0|k::ks=>Lc k+nkts ks
end
theorem HS{h:js}{a:jy}{xs x:Array Ju}(p:h.IsTuple a xs)(q:h.IsTuple a x):xs=x:=by let#[o,e,_,n,d]:=p;let#[u,y,_,v,z]:=q;cases e.symm.trans y;cases d.symm.trans z;rfl
mutual
theorem kN{h:js}:∀{k l:NK}{v:Ju},KG h k v->KG h l v->k=l
 | .s x,.s y,v,#[t,e],#[u,e']=>by subst e;cases e';rfl|.s x,.t ls,v,#[t,e],#[_,_,e',_]=>by subst e;cases e'|.t ks,.s y,v,#[_,_,e,_],#[_,e']=>by subst e;cases e'|.t ks,.t ls,v,#[a,its,e,p,q],#[b,jts,e',p',q']=>by subst e;cases e';cases HS p p';rw[nks_inj q q']
theorem nks_inj{h:js}:∀{ks ls:List NK}{vs:LW},NKvs h ks vs->NKvs h ls vs->ks=ls
 |[],[],_,_,_=>rfl|[],_::_,_,e,#[_,_,e',_]=>by cases(show _=[] from e).symm.trans e'|_::_,[],_,#[_,_,e',_],e=>by cases(show _=[] from e).symm.trans e'|k::ks,l::ls,_,#[v,r,e,p,q],#[v',r',e',p',q']=>by cases e.symm.trans e';rw[kN p p',nks_inj q q']
end
mutual
theorem ID{h h':js}(k:∀a its,h.IsTuple a its->h'.IsTuple a its):∀{x:NK}{v:Ju},KG h x v->KG h' x v
 | .s x,v,e=>e|.t ks,v,#[a,its,e,p,q]=>#[a,its,e,k a its p,nks_keeps k q]
theorem nks_keeps{h h':js}(k:∀a its,h.IsTuple a its->h'.IsTuple a its):∀{xs:List NK}{vs:LW},NKvs h xs vs->NKvs h' xs vs
 |[],_,e=>e|x::xs,_,#[v,r,e,p,q]=>#[v,r,e,ID k p,nks_keeps k q]
end
section
variable{prog:jv}{w:jr}{E:pB}
mutual
theorem IT:∀(k:NK) (v:Ju) (A:ju) (s:Jq) (Q:Int->Jq->Prop),KG s.1 k v->A.units+zN k<Ks->Q (mI w k) { s with toks:=s.toks+Lc k }->Jw (jz prog w) A (pyHash v) Q E s
 | .s x,v,A,s,Q,#[t,e],_,q=>by subst e;exact QDd q|.t ks,v,A,s,Q,#[a,its,e,#[o,ho,hc,n,hd],hi],h,q=>by subst e;have h:A.units+(nkds ks+1)<cLine:=h;refine PySem.W.pyHash_slot (T:="tuple") #[o,ho,hc] QDN F.entry_tuple_hash (F.args_tuple_hash_1 _) (beq_builtin_none _) (.inr ()) ?_;show Jw _ _ (QBL (.ref a) >>= _) _ _ s;refine QA (wpAny_tupleItemsOf ho hd ?_);refine QA ?_;rw[<- QAX];refine nk_loop ks its.toList A.in1 s #[] _ hi (by rw[QB5];omega) λb hb=>?_;show Jw _ _ (retInt (QBX b.toList)) _ _ _;rw[hb];exact QA (wpAny_mkInt (QH #[_,_,rfl,by rw[Nat.add_assoc];exact q]))
theorem nk_loop:∀(ks:List NK) (vs:LW) (A:ju) (s:Jq) (b:Array Int) (Q:Array Int->Jq->Prop),NKvs s.1 ks vs->A.units+nkds ks<Ks ->
  (∀y,y.toList=b.toList++nkhs w ks->Q y { s with toks:=s.toks+nkts ks }) ->
  Jw (jz prog w) A (forIn vs b λx r=>do let h <- pyHash x;Gu PUnit.unit;Gu (ForInStep.yield (r.push h))) Q E s
 |[],vs,A,s,b,Q,e,_,q=>by subst e;exact QH (q b (wK _).symm)|k::ks,vs,A,s,b,Q,#[v,r,e,p,p'],z,q=>by subst e;have z:A.units+max (zN k) (nkds ks)<cLine:=z;rw[QAT];refine QA (QA (IT k v A s _ p () ?_));refine QA (QH (QH ?_));refine nk_loop ks r A _ _ Q p' () λy hb=>?_;have e:s.toks+Lc k+nkts ks=s.toks+(Lc k+nkts ks):=Nat.add_assoc _ _ _;have:=q y (by rw[hb,W4,qd];rfl);show Q y { s with toks:=s.toks+Lc k+nkts ks };rw[e];exact this
end
end
theorem Pe{ks ls:List NK}{n m:Nat}(x:n=ks.9)(hm:m=ls.9):((Qj (min n m)).all (λj=>decide (ks[j]?=ls[j]?))&&n==m)=decide (NK.t ks=NK.t ls):=by subst x hm;rw[qa,gz,Qf,qN,beq_iff_eq];constructor;rintro⟨y,u⟩;congr 1;refine wY λj=>?_;by_cases z:j<ks.9;exact gy (y j (Q7.mpr ()));rw[qL (),qL ()];intro h;injection h with h;subst h;exact#[λ_ _=>dT rfl,rfl]
theorem bH{h:js}:∀{ks:List NK}{vs:LW},NKvs h ks vs->vs.9=ks.9
 |[],_,e=>by cases(show _=[] from e);rfl|_::_,_,#[v,r,e,_,q]=>by rw[e,QL,QL,bH q]
mutual
theorem vZ:∀(k l:NK) (v u:Ju) (A:ju) (s:Jq),KG s.1 k v->KG s.1 l u->A.units+zN k<Ks->EqAt A s v u (decide (k=l))
 | .s x,.s y,v,u,A,s,#[t,e],#[t',e'],_=>by
  subst e e';have:=EqAt.str_str (A:=A) (s:=s) x t y t';have z:(x==y)=decide (NK.s x=NK.s y):=by rw[qa,gz,beq_iff_eq];exact#[λh=>h▸rfl,λh=>by injection h]
  rw[<- z];exact this
 | .s x,.t ls,v,u,A,s,#[t,e],#[b,jts,e',p,_],f=>by subst e e';rw[dF λh=>by cases h];exact EqAt.str_tuple x t p ()|.t ks,.s y,v,u,A,s,#[a,its,e,p,_],#[t,e'],f=>by subst e e';rw[dF λh=>by cases h];exact EqAt.tuple_str y t p ()|.t ks,.t ls,v,u,A,s,#[a,its,e,p,q],#[b,jts,e',p',q'],f=>by subst e e';by_cases w:a=b;subst w;cases HS p p';rw[nks_inj q q',dT rfl];exact EqAt.same _;have f:A.units+(nkds ks+1)<cLine:=f;refine EqAt.of_refs w ?_;have i:=bH q;have g:=bH q';rw[QM]at i g;rw[<- Pe i g];refine RcAt.tuples p p' () λj n m=>?_;have:=nks_eq ks ls its.toList jts.toList A.in1 s q q' (by rw[QB5];omega) j (by rw[QM];exact n) (by rw[QM];exact m);simpa using this
theorem nks_eq:∀(ks ls:List NK) (vs us:LW) (A:ju) (s:Jq),NKvs s.1 ks vs->NKvs s.1 ls us->A.units+nkds ks<Ks->∀j (y:j<vs.9) (x:j<us.9),EqAt A s vs[j] us[j] (decide (ks[j]?=ls[j]?))
 |[],_,vs,us,A,s,e,_,_,j,y,_=>by cases(show vs=[] from e);cases y|_::_,[],vs,us,A,s,_,e,_,j,_,x=>by cases(show us=[] from e);cases x|k::ks,l::ls,_,_,A,s,#[v,r,e,p,q],#[v',r',e',p',q'],u,j,y,x=>by
  subst e e';have u:A.units+max (zN k) (nkds ks)<cLine:=u;cases j with|zero=>have:=vZ k l v v' A s p p' ();have z:decide (k=l)=decide ((k::ks)[0]?=(l::ls)[0]?):=decide_eq_decide.mpr #[λh=>by rw[h];rfl,λh=>Qy h];rw[<- z];exact this|succ j=>exact nks_eq ks ls r r' A s q q' () j (wU y) (wU x)
end
section
variable{prog:jv}{w:jr}{A:ju}{E:pB}{s:Jq}
mutual
theorem vF:∀(k:NK) (v:Ju) (n:Nat) (Q:Bool->Jq->Prop),KG s.1 k v->zN k<=n->Q Js s->Jw (jz prog w) A (xk n v) Q E s
 | .s x,v,n,Q,#[t,e],_,q=>by subst e;rw[eqIsQuiet_byValue _ rfl];exact QH q|.t ks,v,n,Q,#[a,its,e,#[o,ho,hc,m,hd],hi],g,q=>by
  subst e;have g:nkds ks+1<=n:=g;obtain⟨n,rfl⟩:∃m,n=m+1:=#[n - 1,()]
  have i:s.TypeIs (.ref a) "tuple":=#[o,ho,hc]
  unfold xk;refine QA (QBE i F.slot_tuple_eq.lookup ?_);show Jw _ _ (isInstance (.ref a) (.type "tuple") >>= _) _ _ s;refine QA (Wh i isSubtype_tuple_tuple ?_);simp only[QA6,qF,if_false];refine QA (QAA ho hd ?_);refine QA ?_;show Jw _ _ (forIn its _ _) _ _ s;rw[<- QAX];refine QB6 _ (λh r z=>r.1=Jr/\z=s/\∀v∈h,∀Q:Bool->Jq->Prop,Q Js s->Jw (jz prog w) A (xk n v) Q E s) _ ?_ ?_ _ _ #[rfl,rfl,nks_quiet ks its.toList n hi ()];rintro v h r z ⟨f,rfl,y⟩;refine QA (y v QD _ ?_);simp only[QA6,qF,if_false];exact QH #[rfl,rfl,λu b=>y u (QC _ b)];rintro⟨j,l⟩ z ⟨f,rfl,_⟩;cases(show j=Jr from f);exact QH q
theorem nks_quiet:∀(ks:List NK) (vs:LW) (n:Nat),NKvs s.1 ks vs->nkds ks<=n->∀v∈vs,∀Q:Bool->Jq->Prop,Q Js s->Jw (jz prog w) A (xk n v) Q E s
 |[],vs,n,e,_,v,hv,Q,q=>by cases(show vs=[] from e);cases hv|k::ks,vs,n,#[x,r,e,p,p'],h,v,hv,Q,q=>by subst e;have h:max (zN k) (nkds ks)<=n:=h;rcases QK.mp hv with rfl|hv;exact vF k v n Q p () q;exact nks_quiet ks r n p' () v hv Q q
end
end
end L2
namespace L2.L3
open PySem
noncomputable def zB{α:Type}(f:α->α):Nat->α->α
 |0,x=>x|n+1,x=>zB f n (f x)
theorem PB{α:Type}(f:α->α):∀(n m:Nat) (x:α),zB f (n+m) x=zB f m (zB f n x)
 |0,m,x=>by rw[Ws];rfl|n+1,m,x=>by rw[Nat.add_right_comm];exact PB f n m (f x)
theorem gU{α:Type}(f:α->α)(n:Nat)(x:α):zB f (n+1) x=f (zB f n x):=PB f n 1 x
def gM(m x:Nat):Nat:=(x * 5+1) % (m+1)
noncomputable def Dk(m:Nat):Nat->Nat->LN
 |0,_=>[]|n+1,x=>x::Dk m n (gM m x)
theorem VY{m:Nat}:∀(n x e:Nat),e∈Dk m n x->∃k,k<n/\zB (gM m) k x=e
 |0,_,_,h=>by cases h|n+1,x,e,h=>by rcases QK.mp h with rfl|h;exact#[0,QAO _,rfl];let#[k,hk,e]:=VY n _ _ h;exact#[k+1,QDl hk,e]
def sW(m:Nat):Bool:=(Qj (m+1)).all (λe=>(Dk m (m+1) 0).contains e)&&zB (gM m) (m+1) 0==0
theorem Eh:sW 7=true:=by decide +kernel
theorem je:sW 31=true:=by decide +kernel
theorem t7:sW 127=true:=by decide +kernel
theorem m7:sW 511=true:=by decide +kernel
def PU(m:Nat):Prop:=m=7∨m=31∨m=127∨m=511
theorem PU.cyc{m:Nat}(h:PU m):sW m=true:=by rcases h with rfl|rfl|rfl|rfl;exact Eh;exact je;exact t7;exact m7
theorem l7{m:Nat}(h:PU m){i e:Nat}(v:i<=m)(y:e<=m):∃n,n<=m/\zB (gM m) n i=e:=by have c:=h.cyc;unfold sW at c;rw[Qf,qN,beq_iff_eq]at c;let#[f,w]:=c;have x:∀e,e<=m->∃k,k<m+1/\zB (gM m) k 0=e:=λe y=>VY _ _ _ (by simpa using f e (Q7.mpr (QBi y)));let#[a,g,u]:=x i v;let#[b,hb,z]:=x e y;by_cases c:a<=b;refine#[b - a,(),?_];rw[<- u,<- PB,show a+(b - a)=b by omega,z];refine#[(m+1 - a)+b,(),?_];rw[<- u,<- PB,show a+((m+1 - a)+b)=(m+1)+b by omega,PB,w,z]
def FR(m:Nat)(x:Nat×Nat):Nat×Nat:=QAY m x.1 x.2
theorem xU(m:Nat):∀(n:Nat) (x:Nat×Nat),(zB (FR m) n x).2=x.2 / 32 ^ n
 |0,x=>by rw[Nat.pow_zero,Nat.div_one];rfl|n+1,x=>by show(zB (FR m) n (FR m x)).2=_;rw[xU m n];show x.2 / 32 / 32 ^ n=_;rw[Nat.div_div_eq_div_mul,Nat.pow_succ,Nat.mul_comm]
theorem vU(m:Nat):∀(n i:Nat),zB (FR m) n (i,0)=(zB (gM m) n i,0)
 |0,_=>rfl|n+1,i=>by
  show zB (FR m) n (FR m (i,0))=_;have e:FR m (i,0)=(gM m i,0):=by show((i * 5+1+0 / 32) % (m+1),0 / 32)=_;rw[Nat.zero_div];rfl
  rw[e,vU m n];rfl
theorem aZ{m:Nat}(h:PU m){x:Nat×Nat}(v:x.2<2 ^ 64){e:Nat}(w:e<=m):∃n,n<=m+13/\(zB (FR m) n x).1=e:=by
 have z:(zB (FR m) 13 x).2=0:=by rw[xU];exact Nat.div_eq_of_lt (Ql v (by decide))
 have u:(zB (FR m) 13 x).1<=m:=by rw[gU (FR m) 12];exact qr (QBB _ (QAO _))
 let#[n,a,k]:=l7 h u w;refine#[13+n,(),?_];rw[PB];generalize zB (FR m) 13 x=y at *;let#[i,p]:=y;have z:p=0:=z;subst z;rw[vU];exact k
def vm(m:Nat)(p:wb):Prop:=p.j=p.i/\p.more=qi m p.i - p.i
theorem Xb(m i:Nat):qi m i - i<=9:=by unfold qi;split<;>omega
section
variable{t:jt}
theorem zO:∀(k:Nat) (p:wb),p.more=k->zB t.advance (k+1) p={ p with j:=(QAY t.mask p.i p.perturb).1,more:=qi t.mask (QAY t.mask p.i p.perturb).1 - (QAY t.mask p.i p.perturb).1,i:=(QAY t.mask p.i p.perturb).1,perturb:=(QAY t.mask p.i p.perturb).2 }
 |0,p,e=>by show t.advance p=_;unfold Wj;rw[Gq ()]|k+1,p,e=>by
  show zB t.advance (k+1) (t.advance p)=_;have h:t.advance p={ p with j:=p.j+1,more:=p.more - 1 }:=by unfold Wj;rw[Gw ()]
  rw[h,zO k _ (by show p.more - 1=k;omega)]
theorem aQ:∀(r:Nat) (p:wb),vm t.mask p->∃k,k<=10 * r/\vm t.mask (zB t.advance k p)/\((zB t.advance k p).i,(zB t.advance k p).perturb)=zB (FR t.mask) r (p.i,p.perturb)/\(zB t.advance k p).dummy=p.dummy
 |0,p,h=>#[0,QV _,h,rfl,rfl]|r+1,p,h=>by have e:=zO (t:=t) p.more p rfl;have u:=Xb t.mask p.i;have hm:=h.2;let#[k,hk,z,y,x]:=aQ r (zB t.advance (p.more+1) p) (by rw[e];exact#[rfl,rfl]);refine#[p.more+1+k,(),?_];rw[PB];refine#[z,?_,?_];rw[y,e];rfl;rw[x,e]
theorem yX(h:PU t.mask)(x:Int){e:Nat}(y:e<=t.mask):∃k,k<=10 * (t.mask+13)/\(zB t.advance k (t.probeStart x)).j=e/\(zB t.advance k (t.probeStart x)).dummy=none:=by
 have hb:qC x<2 ^ 64:=by unfold qC;have:=Qo x (show(0:Int)<2 ^ 64 by decide);have:=Q1 x (show(2 ^ 64:Int)≠0 by decide);omega
 let#[n,a,w]:=aZ h (x:=((t.probeStart x).i,(t.probeStart x).perturb)) hb y;let#[k,hk,v,u,z]:=aQ n (t.probeStart x) #[rfl,rfl];refine#[k,(),?_,z];rw[v.1,<- w,<- u]
end
section
variable{t:jt}{j m n:Nat}{u:Array (Option Nat)}
theorem bL{i:Nat}(h:t.slot j=.live i):t.place[i]?=Jp j:=by unfold QBx at h;dsimp only at h;split at h;rename_i c;injection h with h;rw[<- h];exact beq_iff_eq.mp c;split at h<;>cases h
theorem IQ(x:t.dummies=#[])(h:j∉t.place.toList):t.slot j=.empty:=by unfold QBx;dsimp only;rw[Gq λc=>h (by have:=beq_iff_eq.mp c;rw[<- QX]at this;exact Qq this)];rw[Gq];intro c;unfold QCO at c;rw[x]at c;have:=beq_iff_eq.mp c;simp at this
theorem oJ(h:t.dummies=#[])(j:Nat):t.slot j=.empty∨∃i,t.slot j=.live i:=by
 unfold QBx;dsimp only;split;exact .inr #[_,rfl];rw[Gq]
 ·exact .inl rfl
 intro c;unfold QCO at c;rw[h]at c;have:=beq_iff_eq.mp c;simp at this
theorem rM:∀(l y:LN),l.Nodup->(∀x∈l,x∈y)->l.9<=y.9
 |[],_,_,_=>Q3 _|a::l,y,nd,h=>by let#[k,w]:=Qa.mp nd;have v:=h a QD;have:=rM l (y.erase a) w λx z=>(W7 (λe:x=a=>k (by rw[<- e];exact z))).mpr (h x (QC _ z));rw[WV v]at this;have:=WB v;rw[QL];omega
theorem CY{l:LN}(h:l.9<=m):∃e,e<=m/\e∉l:=by refine qK λn=>?_;have all:∀e,e∈Qj (m+1)->e∈l:=λe x=>qK λz=>n #[e,qr (Q7.mp x),z];have:=rM _ _ QA1 all;rw[qU]at this;omega
structure TbO(t:jt)(n:Nat):Prop where
 m:PU t.mask
 d:t.dummies=#[]
 s:t.place.size=n
 f:n<=t.mask
def G3(t:jt)(ha:Nat->Int)(x:Int)(p:wb):Prop:=∃i,t.slot p.j=.live i/\ha i≠x
theorem nU{t:jt}(b:t.dummies=#[]){ha:Nat->Int}{x:Int}:∀(n f:Nat) (p:wb),n<f->p.dummy=Jr->t.slot (zB t.advance n p).j=.empty ->
  (∃k,k<=n/\QAk t ha x f p=Jp (.empty (zB t.advance k p).j Jr)/\t.slot (zB t.advance k p).j=.empty/\∀m,m<k->G3 t ha x (zB t.advance m p))∨∃k i,k<n/\QAk t ha x f p=Jp (.candidate (zB t.advance k p).j i (zB t.advance (k+1) p))/\t.slot (zB t.advance k p).j=.live i/\∀m,m<k->G3 t ha x (zB t.advance m p)
 |n,0,_,h,_,_=>gJ h (wk _)|0,f+1,p,_,hp,h=>by refine .inl #[0,QV _,?_,h,λm hm=>gJ hm (wk _)];have h:t.slot p.j=.empty:=h;unfold QAk;rw[h];show Jp (SetTable.Met.empty p.j p.dummy)=_;rw[hp];rfl|n+1,f+1,p,hf,hp,h=>by
  unfold QAk;rcases oJ b p.j with e|⟨i,e⟩
  refine .inl #[0,Q3 _,?_,e,λm hm=>gJ hm (wk _)];rw[e];show Jp (SetTable.Met.empty p.j p.dummy)=_;rw[hp];rfl;rw[e];dsimp only;split;exact .inr #[0,i,QAO _,rfl,e,λm hm=>gJ hm (wk _)];rename_i c;have g:(t.advance p).dummy=none:=by unfold Wj;split;exact hp;exact hp
  have l:G3 t ha x p:=#[i,e,λz=>c (beq_iff_eq.mpr z)]
  have a:∀k,(∀m,m<k->G3 t ha x (zB t.advance m (t.advance p)))->∀m,m<k+1->G3 t ha x (zB t.advance m p):=λk hk m hm=>by
   cases m with|zero=>exact l|succ m=>exact hk m (wU hm)
  rcases nU b (ha:=ha) (x:=x) n f (t.advance p) (wU hf) g h with⟨k,hk,w,v,y⟩| ⟨k,i,hk,w,v,y⟩
  exact .inl #[k+1,QDi hk,w,v,a k y];exact .inr #[k+1,i,QDl hk,w,v,a k y]
theorem dR(h:TbO t n)(x:Int):∃N,N<=10 * (t.mask+13)/\∀(ha:Nat->Int) k,k<=N ->
  (∃q,k<=q/\q<=N/\t.probe ha x (zB t.advance k (t.probeStart x))=Jp (.empty (zB t.advance q (t.probeStart x)).j Jr)/\t.slot (zB t.advance q (t.probeStart x)).j=.empty/\∀m,k<=m->m<q->G3 t ha x (zB t.advance m (t.probeStart x))) ∨
  ∃q i,k<=q/\q<N/\t.probe ha x (zB t.advance k (t.probeStart x))=Jp (.candidate (zB t.advance q (t.probeStart x)).j i (zB t.advance (q+1) (t.probeStart x)))/\t.slot (zB t.advance q (t.probeStart x)).j=.live i/\∀m,k<=m->m<q->G3 t ha x (zB t.advance m (t.probeStart x)):=by
 let#[e,r,p]:=CY (l:=t.place.toList) (m:=t.mask) (by rw[QM,h.s];exact h.f);let#[N,X,Y,_]:=yX h.m x r;refine#[N,X,λha k hk=>?_];have o:∀k,(zB t.advance k (t.probeStart x)).dummy=none:=λk=>by
  induction k with|zero=>rfl|succ k g=>rw[gU];unfold Wj;split;exact g;exact g
 have v:=nU h.d (ha:=ha) (x:=x) (N - k) (10 * wc t.mask) (zB t.advance k (t.probeStart x)) (by unfold wc;omega) (o k) (by rw[<- PB,show k+(N - k)=N by omega,Y];exact IQ h.d p);have b:∀q,(∀m,m<q->G3 t ha x (zB t.advance m (zB t.advance k (t.probeStart x))))->∀m,k<=m->m<k+q->G3 t ha x (zB t.advance m (t.probeStart x)):=λq w m z y=>by have:=w (m - k) ();rw[<- PB,show k+(m - k)=m by omega]at this;exact this
 rcases v with⟨q,w,z,y,a⟩| ⟨q,i,w,z,y,a⟩
 rw[<- PB]at z y;exact .inl #[k+q,(),(),z,y,b q a];rw[<- PB,<- PB]at z;rw[<- PB]at y;exact .inr #[k+q,i,(),(),z,y,b q a]
theorem FL{m:Nat}(hm:PU m){u:Array (Option Nat)}(hs:u.size=m+1){e:Nat}(v:e<=m)(y:u[e]?=Jp Jr):∀(n f:Nat) (x:Nat×Nat),n<f->(zB (FR m) n x).1=e->x.1<=m->∃j,qI m u f x.1 x.2=Jp j/\j<=m/\u[j]?=Jp Jr
 |n,0,_,h,_,_=>gJ h (wk _)|n,f+1,x,hf,h,hx=>by
  unfold qI;have rl:∀k,k∈Qj (qi m x.1+1 - x.1)->x.1+k<=m:=λk hk=>by have:=Q7.mp hk;unfold qi at this;split at this<;>omega
  cases c:(Qj (qi m x.1+1 - x.1)).find? (λk=>(u.getD (x.1+k) (Jp 0)).isNone) with
  |some k =>
   have hk:=rl k (List.mem_of_find?_eq_some c);refine#[x.1+k,rfl,hk,?_];have:=List.find?_some c;have lt:x.1+k<u.size:=()
   have z:u.getD (x.1+k) (Jp 0)=u[x.1+k]:=by simp[QDJ,lt]
   rw[z]at this;rw[Qn lt];rw[QBY]at this;rw[this]
  |none =>
   cases n with
   |zero =>
    have h:x.1=e:=h;have:=QC5.mp c 0 (Q7.mpr (by unfold qi;split<;>omega));refine gJ ?_ this;rw[Nat.add_zero,h];have lt:e<u.size:=()
    have z:u.getD e (Jp 0)=u[e]:=by simp[QDJ,lt]
    rw[Qn lt]at y;rw[z,Qy y];rfl
   |succ n=>have:=FL hm hs v y n f (FR m x) (wU hf) h (qr (QBB _ (QAO _)));exact this
structure OwO(m:Nat)(u:Array (Option Nat))(n:Nat):Prop where
 s:u.size=m+1
 c:∀k:Nat,k<n->∃j:Nat,j<=m/\u[j]?=Jp (Jp k)
 l:∀(j k:Nat),u[j]?=Jp (Jp k)->k<n
 i:∀(j j' k:Nat),u[j]?=Jp (Jp k)->u[j']?=Jp (Jp k)->j=j'
theorem C5(h:OwO m u n)(r:n<=m):∃e,e<=m/\u[e]?=Jp none:=by
 refine qK λz=>?_;have all:∀e,e<=m->∃k,u[e]?=Jp (Jp k):=λe v=>by
  have lt:e<u.size:=by rw[h.s];omega
  cases c:u[e]'lt with|none=>exact gJ #[e,v,by rw[Qn lt,c]] z|some k=>exact#[k,by rw[Qn lt,c]]
 have f:∀e,∃k,e<=m->u[e]?=Jp (Jp k):=λe=>by by_cases c:e<=m;let#[k,hk]:=all e c;exact#[k,λ_=>hk];exact#[0,λz=>gJ z c]
 let#[f,y]:=Classical.axiomOfChoice f;have nd:((Qj (m+1)).map f).Nodup:=by refine WC.mpr (QBj.mpr ((WC.mp QA1).imp_of_mem λ{a b} p hb g e=>g ?_));have w:=y a (qr (Q7.mp p));have q:=y b (qr (Q7.mp hb));rw[e]at w;exact h.i a b _ w q
 have:=rM _ (Qj n) nd λx o=>by let#[e,v,rfl]:=QY.mp o;exact Q7.mpr (h.l e _ (y e (qr (Q7.mp v))))
 rw[QG,qU,qU]at this;omega
theorem xc(h:OwO m u n)(v:j<=m)(w:u[j]?=Jp Jr):OwO m (u.setIfInBounds j (Jp n)) (n+1):=by
 have hs:=h.s;have lt:j<u.size:=()
 have e:∀a,(u.setIfInBounds j (Jp n))[a]?=if j=a then Jp (Jp n) else u[a]?:=λa=>by rw[Wr];split;rename_i c;subst c;rfl;rfl
 refine#[by rw[Array.size_setIfInBounds,hs],λk hk=>?_,λa k x=>?_,λa b k x hb=>?_];by_cases c:k=n
 ·exact#[j,v,by rw[e,Gw rfl,c]]
 let#[a,x,y]:=h.c k ();refine#[a,x,?_];rw[e,Gq λz=>by subst z;rw[w]at y;cases y];exact y;rw[e]at x;split at x;cases x;omega;have:=h.l a k x;omega;rw[e]at x hb;split at x;rename_i c1;cases x;split at hb;rename_i c2;exact c1.symm.trans c2;have:=h.l b _ hb;omega;split at hb
 ·cases hb
  have:=h.l a _ x;omega
 exact h.i a b k x hb
theorem tG{m:Nat}(hm:PU m):∀(hs:LJ) (u:Array (Option Nat)) (n:Nat),OwO m u n->n+hs.length<=m->∃y,(hs.foldl (λz h=>do
  let(owner,k) <- z
  let j <- qI m owner (wc m) (qC h % (m+1)) (qC h)
  Gu (owner.setIfInBounds j (Jp k),k+1)) (Jp (u,n)))=Jp (y,n+hs.length)/\OwO m y (n+hs.length)
 |[],u,n,h,_=>#[u,rfl,h]|x::hs,u,n,h,hl=>by
  rw[QL]at hl;let#[e,v,b]:=C5 h ();have hb:qC x<2 ^ 64:=by unfold qC;have:=Qo x (show(0:Int)<2 ^ 64 by decide);have:=Q1 x (show(2 ^ 64:Int)≠0 by decide);omega
  let#[q,o,l]:=aZ hm (x:=(qC x % (m+1),qC x)) hb v;let#[j,i,g,f]:=FL hm h.s v b q (wc m) (qC x % (m+1),qC x) (by unfold wc;omega) l (qr (QBB _ (QAO _)));let#[y,a,w]:=tG hm hs _ (n+1) (xc h g f) ();refine#[y,?_,by rw[QL,show n+(hs.length+1)=n+1+hs.length by omega];exact w];rw[wg,QL,show n+(hs.length+1)=n+1+hs.length by omega,<- a];congr 1;show(qI m u (wc m) (qC x % (m+1)) (qC x) >>= λj=>Gu (u.setIfInBounds j (Jp n),n+1))=_;rw[i];rfl
theorem jW{f v:Nat}{l p:Bool}{hs:Array Int}(hm:PU m)(hl:hs.size<=m):∃t o,QAZ m f v l p hs=Jp (t,o)/\TbO t hs.size/\t.mask=m/\t.led=l/\t.plain=p/\o.toList.Perm (Qj hs.size):=by
 have r:∀j k:Nat,(QAa (m+1) (none:Option Nat))[j]?≠Jp (Jp k):=λj k h=>by rw[QBk]at h;split at h<;>cases h
 have h0:OwO m (QAa (m+1) Jr) 0:=#[QCY,λk hk=>gJ hk (wk _),λj k h=>gJ h (r j k),λj _ k h=>gJ h (r j k)]
 let#[u,e,g]:=tG hm hs.toList _ 0 h0 (by rw[QM];omega);rw[Ws,QM]at e g;have K:W5 m hs=Jp u:=by unfold W5;rw[<- QC6,e];rfl
 have w:∀j k:Nat,u.getD j Jr=Jp k↔u[j]?=Jp (Jp k):=λj k=>by
  rw[wO];cases c:u[j]? with|none=>exact#[λz=>(by cases z),λz=>(by cases z)]|some y=>exact#[λz=>(by rw[show y=Jp k from z]),λz=>Qy z]
 have W:(((Qj (m+1)).filterMap λj=>(u.getD j Jr).map (j,·)).map (·.2))=(Qj (m+1)).filterMap λj=>u.getD j none:=by rw[QC7];congr 1;funext j;cases u.getD j Jr<;>rfl
 have q:(((Qj (m+1)).filterMap λj=>(u.getD j Jr).map (j,·)).map (·.2)).Perm (Qj hs.size):=by rw[W];refine(QBN ?_ QA1).mpr λk=>?_;refine WC.mpr (QBy.mpr ((WC.mp QA1).imp λ{a b} s x Y y X e=>s ?_));subst e;exact g.i a b x ((w a x).mp Y) ((w b x).mp X);rw[QAS,Q7];constructor;rintro⟨j,_,h⟩;exact g.l j k ((w j k).mp h);intro h;let#[j,Z,e]:=g.c k h;exact#[j,Q7.mpr (QBi Z),(w j k).mpr e]
 refine#[_,_,by unfold QAZ;rw[K];rfl,#[hm,rfl,?_,hl],rfl,rfl,rfl,?_];have:=q.length_eq;rw[QG,qU]at this;show(WZ _).size=_;rw[QU,QG];exact this;exact q
end
open PySem.Spec PyProof.Rows PySem.SeqAt
variable{Pv:Ju->Prop}
section
variable{prog:jv}{w:jr}{A:ju}{E:pB}{s:Jq}
mutual
theorem xF:∀(k:NK) (v:Ju) (n:Nat) (Q:Bool->Jq->Prop),KG s.1 k v->zN k<=n->Q Jt s->Jw (jz prog w) A (Vx n v) Q E s
 | .s x,v,n,Q,#[t,e],_,q=>by subst e;cases n<;>exact QH q|.t ks,v,n,Q,#[a,its,e,#[o,ho,hc,m,hd],hi],g,q=>by
  subst e;have g:nkds ks+1<=n:=g;obtain⟨n,rfl⟩:∃m,n=m+1:=#[n - 1,()]
  have j:s.TypeIs (.ref a) "tuple":=#[o,ho,hc]
  unfold Vx;refine QA (Wt j ?_);dsimp only;rw[Gw (by decide)];refine QA (QH ?_);simp only[QA6,qF,if_false];refine QA (QAA ho hd ?_);dsimp only;refine QA ?_;rw[<- QAX];refine QB6 _ (λh r z=>r.1=Jr/\z=s/\∀v∈h,∀Q:Bool->Jq->Prop,Q Jt s->Jw (jz prog w) A (Vx n v) Q E s) _ ?_ ?_ _ _ #[rfl,rfl,nks_class ks its.toList n hi ()];rintro v h r z ⟨f,rfl,y⟩;refine QA (y v QD _ ?_);simp only[qF,if_false];exact QH #[rfl,rfl,λu b=>y u (QC _ b)];rintro⟨i,l⟩ z ⟨f,rfl,_⟩;cases(show i=Jr from f);exact QH q
theorem nks_class:∀(ks:List NK) (vs:LW) (n:Nat),NKvs s.1 ks vs->nkds ks<=n->∀v∈vs,∀Q:Bool->Jq->Prop,Q Jt s->Jw (jz prog w) A (Vx n v) Q E s
 |[],vs,n,e,_,v,hv,Q,q=>by cases(show vs=[] from e);cases hv|k::ks,vs,n,#[x,r,e,p,p'],h,v,hv,Q,q=>by subst e;have h:max (zN k) (nkds ks)<=n:=h;rcases QK.mp hv with rfl|hv;exact xF k v n Q p () q;exact nks_class ks r n p' () v hv Q q
end
theorem BV{k:NK}{x:Ju}(f:KG s.1 k x)(hk:zN k<=6){j:LW}(o:∀y∈j,∃l,KG s.1 l y/\zN l<=6){Q:Bool->Jq->Prop}(q:Q Jt s):Jw (jz prog w) A (xz x j) Q E s:=by
 unfold xz;refine QA ?_;refine QB6 _ (λz r a=>r.1=Jr/\a=s/\∀y∈z,∃l,KG s.1 l y/\zN l<=6) _ ?_ ?_ _ _ #[rfl,rfl,o];rintro y z r a ⟨i,rfl,b⟩;let#[l,hl,X]:=b y QD;have e:r.1=Jr/\a=a/\∀y∈z,∃l,KG a.1 l y/\zN l<=6:=#[i,rfl,λu g=>b u (QC _ g)]
 dsimp only;have v:∀{m:ForInStep (Option Bool×Unit)->Jq->Prop},m (.yield (Jr,Unit.unit)) a->Jw (jz prog w) A (Gu (ForInStep.yield (Jr,Unit.unit))) m E a:=λh=>QH h;split<;>split;exact v #[rfl,rfl,e.2.2];refine QA (vF k _ 8 _ f () ?_);rw[Gq (by decide)];refine QA (vF l _ 8 _ hl () ?_);rw[Gq (by decide)];refine QA (xF k _ 8 _ f () ?_);rw[Gq (by decide)];refine QA (xF l _ 8 _ hl () ?_);rw[Gq (by decide)];exact v #[rfl,rfl,e.2.2];exact v #[rfl,rfl,e.2.2];refine QA (vF k x 8 _ f () ?_);rw[Gq (by decide)];refine QA (vF l y 8 _ hl () ?_);rw[Gq (by decide)];refine QA (xF k x 8 _ f () ?_);rw[Gq (by decide)];refine QA (xF l y 8 _ hl () ?_);rw[Gq (by decide)];exact v #[rfl,rfl,e.2.2];rintro⟨n,p⟩ a ⟨i,rfl,_⟩;cases(show n=Jr from i);exact QH q
def Ek(Pv:Ju->Prop)(x:jr)(h:js)(e:Int×Ju)(k:NK):Prop:=KG h k e.2/\e.1=mI x k/\(∃a,e.2=.ref a)/\zN k<=6/\Pv e.2
structure TsO(Pv:Ju->Prop)(wd:jr)(h:js)(es:Array (Int×Ju))(t:jt)(ks:List NK):Prop where
 e:Kx (Ek Pv wd h) es.toList ks
 t:TbO t es.size
theorem HI{t:jt}{n:Nat}(h:TbO t n):t.fits n=true:=by unfold SetTable.fits QC8;rw[h.s,h.d,beq_self_eq_true];exact dT (by have:=h.f;show n+0<=_;omega)
theorem Tc{m:Nat}(h:PU m):(m % 2==0)=false:=by rcases h with rfl|rfl|rfl|rfl<;>decide
theorem YT{α u:Type}{R:α->u->Prop}:∀{l:List α}{m:List u},Kx R l m->∀(i:Nat) (x:α),l[i]?=Jp x->∃y,y∈m/\R x y
 |_,_,.nil,i,x,h=>by cases h|_,_,.cons r t,0,x,h=>by cases h;exact#[_,QD,r]|_,_,.cons r t,i+1,x,h=>by let#[y,v,z]:=YT t i x h;exact#[y,QC _ v,z]
def Sn(t:jt)(h:js)(es:Array (Int×Ju))(k:NK)(p:wb):Prop:=∃i,t.slot p.j=.live i/\∀e,es[i]?=Jp e->¬ KG h k e.2
theorem yR{a:jy}{x:Ju}{k:NK}{es:Array (Int×Ju)}{ep:Nat}{t:jt}{ks:List NK}{Q:SetFound->Jq->Prop}(hu:A.units+8<Ks)(J:s.1.get? a=Jp { cls:=.type "set",dict:=Jr,data:=.set es ep t,slots:=#[] })(u:TsO Pv w s.1 es t ks)
  (r:KG s.1 k x) (hk:zN k<=6) (O:k∈ks->Q (.there Jr) s) (q2:∀q,t.slot (zB t.advance q (t.probeStart (mI w k))).j=.empty->(∀m,m<q->Sn t s.1 es k (zB t.advance m (t.probeStart (mI w k))))->Q (.free (zB t.advance q (t.probeStart (mI w k))).j Jt) s):Jw (jz prog w) A (setSearch a x (mI w k) Js) Q E s:=by
 have B:=HI u.t;let#[N,hN,pr]:=dR u.t (mI w k);have P:∀p,G3 t (λi=>(es[i]?.map (·.1)).getD 0) (mI w k) p->Sn t s.1 es k p:=λp #[i,I,G]=>#[i,I,λe h z=>G (by let#[l,_,g1,g2,_]:=YT u.e i e (by rw[QX];exact h);dsimp only;rw[h,kN z g1];exact g2)]
 have o:∀(d f j:Nat) (st:Option wb),N - j=d->j<=N->d<f->(∀m,m<j->Sn t s.1 es k (zB t.advance m (t.probeStart (mI w k))))->st.getD (t.probeStart (mI w k))=zB t.advance j (t.probeStart (mI w k))->Jw (jz prog w) A (yt a x (mI w k) Js f st) Q E s:=by
  intro d;induction d using Nat.strongRecOn with
  |_ d H =>
   intro f j st hd hj hf2 L X;obtain⟨f,rfl⟩:∃m,f=m+1:=#[f - 1,()]
   unfold yt;refine QA (qe J rfl B ?_);dsimp only;rw[show t.gaveWay=Jt from Tc u.t.m,Gq (by decide)];rw[X];rcases pr (λi=>(es[i]?.map (·.1)).getD 0) j hj with⟨q,Z,Y,W,hs,g⟩| ⟨q,i,Z,Y,W,hs,g⟩
   generalize hm:QD2 t _ (mI w k) (zB t.advance j (t.probeStart (mI w k)))=M;have F:M=_:=hm.symm.trans W;rw[F];exact QH (q2 q hs λm hm=>if z:m<j then L m z else P _ (g m (QB3 z) hm));generalize hm:QD2 t _ (mI w k) (zB t.advance j (t.probeStart (mI w k)))=M;have F:M=_:=hm.symm.trans W;rw[F];dsimp only;have hi:=bL hs;have K:i<es.size:=by have:=(WD.mp hi).1;rw[u.t.s]at this;exact this
   have h:es[i]?=Jp es[i]:=Qn K;let#[l,S,hl,_,#[b,hb],hld]:=YT u.e i es[i] (by rw[QX];exact h);have R:l≠k->∀m,m<q+1->Sn t s.1 es k (zB t.advance m (t.probeStart (mI w k))):=λc m hm =>
    if z:m<j then L m z else if y:m<q then P _ (g m (QB3 z) y) else by
     obtain rfl:m=q:=()
     exact#[i,hs,λe C z=>c (by cases h.symm.trans C;exact kN hl z)]
   have sm:t.sameMemory t.moves t.mask=Jp true:=by unfold SetTable.sameMemory;rw[beq_self_eq_true,Gw rfl]
   split;refine QA (BV r hk (λy hy=>?_) ?_)
   ·let#[e,v,rfl]:=QY.mp hy
    rw[W6,Array.mem_filter]at v;let#[n,hn]:=WH.mp (W6.mpr v.1);let#[l,_,I,_,_,G,_]:=YT u.e n e hn;exact#[l,I,G]
   rw[Gq (by decide)];exact(by rw[h];dsimp only;refine QA (qG (vZ l k es[i].2 x A s hl r () prog w E _ ?_));refine QA (qe J rfl B ?_);dsimp only;by_cases c:l=k;rw[Gw (by rw[dT c];rfl)];exact QH (O (c▸S));rw[Gq (by rw[dF c];decide),sm];dsimp only;rw[Gw rfl,hs];dsimp only;rw[h];dsimp only;rw[hb];refine QA (QCP (QA (QH ?_)));rw[Gw rfl];dsimp only;rw[Gq (by rw[dF c];decide)];exact H (N - (q+1)) () f (q+1) _ rfl () () (R c) rfl);exact(by rw[h];dsimp only;refine QA (qG (vZ l k es[i].2 x A s hl r () prog w E _ ?_));refine QA (qe J rfl B ?_);dsimp only;by_cases c:l=k;rw[Gw (by rw[dT c];rfl)];exact QH (O (c▸S));rw[Gq (by rw[dF c];decide),sm];dsimp only;rw[Gw rfl,hs];dsimp only;rw[h];dsimp only;rw[hb];refine QA (QCP (QA (QH ?_)));rw[Gw rfl];dsimp only;rw[Gq (by rw[dF c];decide)];exact H (N - (q+1)) () f (q+1) _ rfl () () (R c) rfl)
 exact o N 100000 0 Jr rfl (Q3 _) (by have:=u.t.m;unfold PU at this;omega) (λm hm=>gJ hm (wk _)) rfl
end
end L2.L3
namespace L2.L3
open PySem PySem.Spec PyProof.Rows
def bT:Ju->Str
 | .str z _=>z|_=>#[#[]]
def VH(u:jv)(z:jr)(h:js)(a:jy)(b:Bool)(y:LS):Prop :=
 ∃x v t,h.get? a=Jp { cls:=.type "set",dict:=Jr,data:=.set x v t,slots:=#[] }/\xu (strKind u z) x.toList/\x.toList.map (λe=>bT e.2)=y/\y.Nodup/\t.fits x.size=Js/\t.led=b/\(x.size=0∨t.plain=Jt)
theorem VH.at{u:jv}{z:jr}{h h':js}{a:jy}{b:Bool}{y:LS}(x:VH u z h a b y)(k:∀o,h.get? a=Jp o->h'.get? a=Jp o):VH u z h' a b y:=by let#[v,w,t,e,r]:=x;exact#[v,w,t,k _ e,r]
theorem D6(t:jt)(es:Array (Int×Ju))(h:Int)(x:Ju):(layNew t es h x).2.1.led=t.led:=by
 unfold layNew;cases t.freeSlot h with|none=>rfl|some p=>show(QC9 _ _).led=_;unfold QC9;split<;>rfl
theorem XZ{m f v:Nat}{l p:Bool}{hs:Array Int}{t:jt}{o:Array Nat}(e:QAZ m f v l p hs=Jp (t,o)):t.led=l/\t.plain=p:=by
 unfold QAZ at e;cases c:W5 m hs with|none=>rw[c]at e;cases e|some w=>rw[c]at e;cases e;exact#[rfl,rfl]
theorem fV(t:jt)(es:Array (Int×Ju))(n:Nat)(h:t.plain=Jt):(vx t es n).2.1.led=t.led/\(vx t es n).2.1.plain=false:=by unfold vx;split;rename_i t' o e;have:=XZ e;show(if _ then _ else _:Array (Int×Ju)×jt×Bool).2.1.led=_/\(if _ then _ else _:Array (Int×Ju)×jt×Bool).2.1.plain=_;split;exact#[this.1,this.2.trans h];exact#[rfl,rfl];exact#[rfl,rfl]
section
variable{w:jv}{v:jr}{d:ju}{Er:pB}{sh:Jq}
section
variable{es:Array (Int×Ju)}{e:Int×Ju}{u:LS}{z:Str}{b:Bool}{a:jy}
theorem N0{es:List (Int×Ju)}(y:xu (strKind w v) es)(x:e∈es):∃t,e.2=.str (bT e.2) t:=by let#[#[k,hk,_],_]:=y e x;let#[t,h]:=QCl hk;exact#[t,by rw[h];rfl]
theorem E8{es:List (Int×Ju)}(k:xu (strKind w v) es)(x:e∈es)(z:Str):(strKind w v).is z e.2=Js↔bT e.2=z:=by let#[t,h]:=N0 k x;rw[h];generalize bT e.2=y;show(y==z)=Js↔y=z;exact beq_iff_eq
theorem JU(y:xu (strKind w v) es.toList)(k:es.toList.map (λe=>bT e.2)=u):(es.toList.findIdx? (λe=>(strKind w v).is z e.2)=Jr)↔z∉u:=by
 rw[List.findIdx?_eq_none_iff,<- k,QY];constructor;rintro h ⟨e,x,rfl⟩;have:=h e x;rw[(E8 y x _).mpr rfl]at this;cases this;intro h e x;cases c:(strKind w v).is z e.2 with|false=>rfl|true=>exact(h #[e,x,(E8 y x z).mp c]).elim
theorem oU{Q:Unit->Jq->Prop}(h:Q Unit.unit sh):Jw (jz w v) d (match b with|true=>rule "set.scan.the-table-gave-way"|false=>Gu Unit.unit) Q Er sh:=by
 cases b with|false=>exact QH h|true=>exact QBA h
theorem AI{h:js}{es':Array (Int×Ju)}{ep:Nat}{t t':jt}(e:h.get? a=Jp { cls:=.type "set",dict:=Jr,data:=.set es ep t,slots:=#[] }):(h.update a (QBC es' t')).get? a=Jp { cls:=.type "set",dict:=Jr,data:=.set es' (ep+1) t',slots:=#[] }:=Q0 (QBC es' t') e rfl
theorem C4{i:Tok}{Q:Bool->Jq->Prop}(S:VH w v sh.1 a b u)(hr:u.9+1<4096)
  (k:∀r h' m,qZ a sh.1 h'->VH w v h' a b m->(∀s,s∈m↔s∈u∨s=z)->m.9<=u.9+1->Q r { sh with heap:=h',toks:=sh.toks+1 }):Jw (jz w v) d (Ys a (.str z i)) Q Er sh:=by
 have hk:(strKind w v).is z (.str z i)=true:=strKind_is _ _ _ _;unfold Ys;refine qG (QA ((strKind w v).pyHash (k:=z) hk ?_));let#[es,ep,t,G,W,F,nd,hf,hb,hp]:=id S;have sz:es.size=u.length:=by rw[<- F,QG,QM]
 have bd:es.size<scanBound:=by show es.size<4096;omega
 unfold setAddHashed Vt;refine qG (QA (qe (s:={ sh with toks:=sh.toks+1 }) G rfl hf ?_));dsimp only;rw[byScan_of (knd:=strKind w v) (x:=.str z i) rfl bd W,Gw rfl];unfold setAddByScan;refine QA (QA (QBA (QA (wpAny_setScan_of hk (s:={ sh with toks:=sh.toks+1 }) G rfl hf W ?_))));cases H:es.toList.findIdx? (λe=>(strKind w v).is z e.2) with
 |some j =>
  have mz:z∈u:=qK λn=>by rw[(JU W F).mpr n]at H;cases H
  dsimp only;exact QH (QH (k _ sh.1 u (QBg _ _) S (λs=>#[.inl,λo=>o.elim id λe=>e▸mz]) (wn _)))
 |none =>
  have nz:=(JU W F).mp H;dsimp only;have Z:=layNew_perm t es ((strKind w v).hash z) (.str z i);have E:=layNew_fits t es ((strKind w v).hash z) (.str z i);have B:=D6 t es ((strKind w v).hash z) (.str z i);generalize layNew t es ((strKind w v).hash z) (.str z i)=L at Z E B ⊢;let#[h,J,I,gv]:=L;dsimp only at Z E B ⊢;rw[W4]at Z;have el1:xu (strKind w v) h.toList:=(W.push hk rfl).perm Z;have pz:(h.toList.map λe=>bT e.2).Perm (u++[z]):=by have:=Z.map λe:Int×Ju=>bT e.2;rw[Qk,F]at this;exact this
  have n1:h.size=u.9+1:=by rw[<- QM,<- QG (f:=λe:Int×Ju=>bT e.2),pz.length_eq,QN];rfl
  have M:(u++[z]).Nodup:=qT.mpr #[nd,Qa.mpr #[Wi,Qt],λx hx y hy=>by rw[QJ.mp hy];exact λe=>nz (e▸hx)];have b1:h.size<=sizeLine:=by rw[qR];omega
  have fin:∀(X:Array (Int×Ju)) (g:jt) (h':js) (q:Nat),X.toList.Perm h.toList->g.fits X.size=Js->g.led=b->g.plain=Jt->qZ a sh.1 h'->h'.get? a=Jp { cls:=.type "set",dict:=Jr,data:=.set X q g,slots:=#[] }->Q Js { sh with heap:=h',toks:=sh.toks+1 }:=λX g h' q p2 f2 C K sb g2=>by have p:=(p2.map λe:Int×Ju=>bT e.2).trans pz;refine k Js h' _ sb #[X,q,g,g2,el1.perm p2,rfl,p.nodup_iff.mpr M,f2,C,.inr K] (λs=>?_) ?_;rw[p.mem_iff,QW,QJ];rw[p.length_eq,QN];exact QV _
  have l:∀g:jt,g.fits h.size=Js->g.led=b->g.plain=Jt->Jw (jz w v) d (do
    Zu a h g
    if(!I&&g.tooFull)=Js then do
      (match (vx g h (qY h.size)).2.2 with|true=>rule "set.scan.the-table-gave-way"|false=>Gu Unit.unit)
      Zu a (vx g h (qY h.size)).1 (vx g h (qY h.size)).2.1
      Gu (Jp Js)
     else Gu (Jp Js)) (λx s'=>Jw (jz w v) d (match x with|some r=>Gu r|none=>Vt a (.str z i) ((strKind w v).hash z) 99999) Q Er s') Er { sh with toks:=sh.toks+1 }:=λg f2 C K=>by
   refine QA (QAl (s:={ sh with toks:=sh.toks+1 }) G rfl ?_ b1);have O:=AI (es':=h) (t':=g) G;have Y:=qO sh.1 a (QBC h g);split;have pr:=relayAll_perm g h (qY h.size);have P:=relayAll_fits g h (qY h.size);have A:=fV g h (qY h.size) K;generalize vx g h (qY h.size)=R at pr P A ⊢;let#[X,t3,g3]:=R;dsimp only at pr P A ⊢;refine QA (oU (QA (QAl (s:={ sh with heap:=sh.1.update a (QBC h g),toks:=sh.toks+1 }) O rfl (QH (QH ?_)) ?_)));exact fin X t3 _ _ pr P (A.1.trans C) A.2 (Y.trans (qO _ a _)) (AI O);rw[<- QM,pr.length_eq,QM];exact b1;exact QH (QH (fin h g _ _ (QAD _) f2 C K Y O))
  refine QA (oU ?_);cases N:J.plain with|true=>rw[Gw rfl];refine QA ?_;rw[hashByValue_scannable 8 (x:=.str z i) rfl];exact QH (l { J with plain:=Jt } (SetTable.fits_plain_off E) (B.trans hb) rfl)|false=>rw[Gq QF];exact QA (QH (l J E (B.trans hb) N))
end
end
theorem tM{vs:LW}{ss:LS}(h:zx vs ss):vs.9=ss.9/\∀(i:Nat) (v:Ju),vs[i]?=Jp v->∃z t,v=.str z t/\ss[i]?=Jp z:=by
 induction h with
 |nil=>exact#[rfl,λi v e=>by cases e]|cons y t _ x =>
  refine#[gV Nat.succ x.1,λi v e=>?_];cases i with|zero=>cases e;exact#[y,t,rfl,rfl]|succ i=>exact x.2 i v e
section
variable{y:jv}{x:jr}{u:ju}{Er:pB}{sh:Jq}
section
variable{l:jy}{b:Bool}{xs:Array Ju}{ss:LS}{Q:pB}
theorem XX{S it:jy}{R:Result->Jq->Prop}(hd:u.handled=Jr)(N:l≠it)(L:S∉[it,l])(hs:zx xs.toList ss)(bd:xs.size+1<4096) :
  ∀(n i:Nat) (sh:Jq) (f:LS),xs.size - i=n->i<=xs.size->(sh.1.IsListIter it l i/\sh.1.IsList l xs)->VH y x sh.1 S b f->(∀s,s∈f↔s∈ss.take i)->f.9<=i ->
   (∀s' h,Moved [S,it] (λa b=>b=a) sh s'->VH y x s'.1 S b h->(∀s,s∈h↔s∈ss)->h.9<=xs.size->R (.ok (.ret .none)) s') ->
   vz (jz y x) u (.builtin "set.update.loop" #[[.ref S,.ref it],[]]) R sh:=by
 have W:=(QDI (prog:=y) (w:=x) (A:=u.in1) hd it l N xs).toS;let#[hl,hx]:=tM hs;rw[QM]at hl;have sub:∀c∈[it],c∈[S,it]:=λc hc=>QC _ hc;have J:S∉[it]:=λz=>L (QK.mpr (.inl (QJ.mp z)));intro n;induction n with
 |zero =>
  intro i sh f en H j g p len k;obtain rfl:i=xs.size:=()
  refine qh Wc ?_;rw[qQ wP _];refine QA (m:=ku (.ref it)) (W.done sh _ _ j λs' Y=>QH (k s' f (Y.mono sub) (g.at λo e=>Y.1 S o J e) ?_ len));intro s;rw[p,hl,QDm]
 |succ n ih =>
  intro i sh f en H j g p len k;have lt:i<xs.size:=()
  refine qh Wc ?_;rw[qQ wP _];refine QA (m:=ku (.ref it)) (W.item i sh _ _ lt j λv s' M C Y=>?_);let#[z,G,rfl,ez]:=hx i v (by rw[QX];exact M);have B:VH y x s'.1 S b f:=g.at λo e=>Y.1 S o J e;refine QA (m:=Xr [Value.str z G] (Ys S (.str z G))) (qG (C4 B () λr h' h I K P l3=>QH #[WG wP _,?_]));refine ih (i+1) _ h () lt (W.frame _ s' _ _ C (wn _) λc hc o e=>?_) K (λs=>?_) () λE X F Z O l4=>k E X (Moved.trans W.gtrans ((Y.mono sub).then_heap (wn _) λc o hc e=>?_) F) Z O l4;rw[I.2 c λq=>L (q▸hc)];exact e;rw[P,p,List.take_succ,ez,QW];simp;rw[I.2 c λq=>hc (q▸QD)];exact e
noncomputable abbrev uF(b:Bool):Obj:={ cls:=.type "set",dict:=Jr,data:=.set #[] 0 (.fresh 0 0 b) }
theorem yU{v:Ju}(q:Q (.ref sh.1.1.size) { sh with heap:=sh.1.push (uF (!x.params.followText "set-order")) }):vz (jz y x) u (.call (.builtin "set.__new__") #[[.type "set",v],[]]) (wants Q Er) sh:=by refine QCQ ?_;show Jw _ u.in1 (checkBuiltinCall "set.__new__" #[[.type "set",v],[]] >>= λ_=>again (.builtin "set.__new__" #[[.type "set",v],[]])) _ _ sh;refine QA (QAJ (F.newCall_set_1 v) (QH #[WG QDz _,qh F.entry_set_new ?_]));rw[qQ QDz _];unfold Builtin.«set.__new__» Builtin.Frozenset.newClass;have sub:=sub_set_self;let#[w,k,a,h,z]:=sh;dsimp only;wp_walk;refine Wk (QH ?_);dsimp only;simp only[newObj];exact QA (wpAny_alloc (QH (QH q)))
theorem bZ{h:js}{a:jy}(e:h.get? a=Jp (uF b)):VH y x h a b []:=#[#[],0,_,e,λ_ z=>(nomatch z),rfl,Qt,by cases b<;>decide,rfl,.inl rfl]
theorem kG(J:u.handled=Jr)(hl:sh.1.IsList l xs)(hs:zx xs.toList ss)(N:xs.size+1<4096)
  (k:∀(h':js) (a:Nat) (h:LS),VH y x h' sh.1.1.size (!x.params.followText "set-order") h->(∀s,s∈h↔s∈ss)->h.9<=xs.size->(∀b o,sh.1.get? b=Jp o->h'.get? b=Jp o)->Q (.ref sh.1.1.size) { sh with heap:=h',toks:=a }) :
  Jw (jz y x) u (vt (.type "set") [.ref l]) Q Er sh:=by
 generalize hb:(!x.params.followText "set-order")=b at k;generalize hn:sh.1.1.size=n at k;let#[c,tl,mr]:=qj.mro;have md:=qj.made;have sb:=qj.sub;have c1:=qj.notType;have c2:=qj.canCreate;have c3:=QDn (.ref l);refine QD5 (QCQ ?_);show Jw _ _ (callAny (.type "set") _) _ _ _;refine QH #[QDA _ (by decide +kernel),qh QDO ?_];rw[QDB (QCR "set" [.ref l] []) rfl]
 repeat (any_goals (first|assumption|wp_step))
 refine QAL (yU (v:=.ref l) (Er:=Er) (Q:=λp q=>p=.ref n/\q={ sh with heap:=sh.1.push (uF b) }) #[by rw[hn],by rw[hb]]) λr q g=>?_;cases r with
 |error e=>exact g|ok fl =>
  cases fl with
  |ret obj =>
   let#[rfl,rfl]:=g;have C:(sh.1.push (uF b)).get? n=Jp (uF b):=hn▸QO _ rfl;have ty:QDC { sh with heap:=sh.1.push (uF b) } (.ref n) "set":=#[_,C,rfl]
   have li:=qj.init.lookup;have bi:=qj.init.bind (.ref n)
   repeat (any_goals (first|assumption|wp_step))
   refine QAL (QCZ (R:=wants (λr q=>r=.none/\∃h' a h,q={ sh with heap:=h',toks:=a }/\VH y x h' n b h/\(∀s,s∈h↔s∈ss)/\h.9<=xs.size/\∀c o,sh.1.get? c=Jp o->h'.get? c=Jp o) Er) qj.init.plain QDo (QDp ty ?body)) ?after
   case after =>
    intro r q g;cases r with
    |error e=>exact g|ok fl =>
     cases fl with
     |ret r =>
      let#[rfl,h',a,h,rfl,H,S,P,O]:=g
      repeat (any_goals (first|assumption|wp_step))
      exact k h' a h H S P O
     |_=>exact g.elim
   case body =>
    let#[G,B,M,W,L]:=hl;let#[Z,f,X,w]:=G;cases M;cases L;have Y:(sh.1.push (uF b)).get? l=Jp { cls:=.type "list",dict:=f,data:=.seq xs W,slots:=w }:=QI _ B;have t1:=F.sub_list_set;have t2:=QCa;have t3:(Value.type "list" == Value.type "dict")=false:=by decide
    have A:(sh.1.push (uF b)).IsList l xs:=#[_,Y,rfl,W,rfl]
    unfold Builtin.«set.__init__» noKeywords QA8;generalize hi:Vs=it;wp_walk;subst hi;refine WT A (QA (QBZ ?_));have lt:l<sh.1.1.size:=QS B;have sz:(sh.1.push (uF b)).1.size=n+1:=by rw[qz,hn]
    rw[hn]at lt;refine XX (b:=b) (ss:=ss) (by simp[J]) (show l≠_ by rw[sz];exact Qe (qM lt)) (λz=>?_) hs N xs.size 0 _ [] (Nat.sub_zero _) (Q3 _) #[#[_,QO _ rfl,rfl,rfl],A.push _] (bZ (QI _ C)) (λs=>?_) (QV _) λE j i st m I=>?_;rw[sz]at z;rcases QK.mp z with z|z;exact Qe (QAG _) z;exact wQ lt (QJ.mp z);rw[List.take_zero];let#[h',gs,dr,a,oo]:=E;cases i.gens;cases i.drawn;cases i.os;refine QH ?_;refine QH #[rfl,h',a,j,rfl,st,m,I,λc o e=>?_];have K:c<n:=hn▸QS e;refine i.1 c o (λz=>?_) (QI _ (QI _ e));rw[sz]at z;rcases QK.mp z with z|z;exact Qe K z;exact Qe (qM K) (QJ.mp z)
  |_=>exact g.elim
end
end
def TW(xs:Array Nat):Prop:=∀(i k x y:Nat),i<k->xs[i]?=Jp x->xs[k]?=Jp y->x<y
theorem rK{xs:Array Nat}{j:Nat}(h:TW xs):∀(f u y:Nat),u<=y->y<=xs.size->y - u<=f->(∀i x:Nat,i<u->xs[i]?=Jp x->x<j)->(∀i x:Nat,y<=i->xs[i]?=Jp x->j<=x) ->
  WW xs j f u y<=xs.size/\(∀i x:Nat,i<WW xs j f u y->xs[i]?=Jp x->x<j)/\∀i x:Nat,WW xs j f u y<=i->xs[i]?=Jp x->j<=x
 |0,u,y,h1,h2,h3,a,b=>by
  obtain rfl:u=y:=()
  exact#[h2,a,b]
 |f+1,u,y,h1,h2,h3,a,b=>by
  unfold WW;by_cases c:u<y;rw[Gw c];dsimp only;have k:(u+y) / 2<xs.size:=()
  have e:xs[(u+y) / 2]?=Jp (xs.getD ((u+y) / 2) j):=by rw[wO,Qn k];rfl
  by_cases d:xs.getD ((u+y) / 2) j<j;rw[Gw d];refine rK h f ((u+y) / 2+1) y () h2 () (λi x w v=>?_) b;by_cases z:i=(u+y) / 2;rw[z,e]at v;cases v;exact d;exact QDX (h i _ _ _ () v e) d;rw[Gq d];refine rK h f u ((u+y) / 2) () () () a λi x w v=>?_;by_cases z:i=(u+y) / 2;rw[z,e]at v;cases v;omega;have:=h _ i _ _ (show(u+y) / 2<i by omega) e v;omega;rw[Gq c];obtain rfl:u=y:=()
  exact#[h2,a,b]
theorem pK{xs:Array Nat}(h:TW xs)(j:Nat):Qw xs j<=xs.size/\(∀i x:Nat,i<Qw xs j->xs[i]?=Jp x->x<j)/\∀i x:Nat,Qw xs j<=i->xs[i]?=Jp x->j<=x :=
 rK h xs.size 0 xs.size (Q3 _) (QV _) () (λi x y=>gJ y (wk _)) λi x y z=>by have:=(WD.mp z).1;omega
theorem LI{t:jt}(h:TW t.place){i j:Nat}(e:t.place[i]?=Jp j):t.slot j=.live i:=by
 let#[v,u,z]:=pK h j;have y:Qw t.place j=i:=by rcases QDP (Qw t.place j) i with c|c|c;have lt:=(WD.mp e).1;have x:t.place[Qw t.place j]?=Jp (t.place[Qw t.place j]'()):=Qn _;have:=h _ _ _ _ c x e;have:=z _ _ (QV _) x;omega;exact c;have:=u _ _ c e;omega
 unfold QBx;dsimp only;rw[y,e,Gw (beq_self_eq_true _)]
theorem kY{t:jt}(h:TW t.place){j:Nat}(e:∀i:Nat,t.place[i]?≠Jp j):TW (t.put j).1.place:=by
 let#[r,g,o]:=pK h j;have a:∀k:Nat,(t.put j).1.place[k]?=if k<Qw t.place j then t.place[k]? else if k=Qw t.place j then Jp j else t.place[k - 1]?:=λk=>by
  show(wZ t.place (Qw t.place j) j)[k]?=_;rw[<- QX,QBl];generalize Qw t.place j=p at r;have lt:(t.place.toList.take p).9=p:=by rw[Wf,QM];omega
  split;rename_i c;rw[qJ (),QAM c,QX];rw[Qx (),lt];split;rename_i c;rw[c,QBP];rfl;obtain⟨d,m⟩:∃d,k - p=d+1:=#[k - p - 1,()]
  rw[m,wI,QBQ,QX];congr 1;omega
 intro i k x y w v u;rw[a]at v u;have b:∀{n z:Nat},Qw t.place j<=n->t.place[n]?=Jp z->j<z:=λl f=>Nat.lt_of_le_of_ne (o _ _ l f) λq=>e _ (q▸f);split at v;rename_i c1;split at u;exact h _ _ _ _ w v u;split at u
 ·cases u
  exact g _ _ c1 v
 exact QDX (g _ _ c1 v) (b () u);split at v
 ·cases v
  rw[Gq (),Gq ()]at u;exact b () u
 rw[Gq (),Gq ()]at u;exact h _ _ _ _ () v u
open PySem.SeqAt
variable{Pv:Ju->Prop}
theorem NI{α w:Type}{R:α->w->Prop}{l k:List α}(p:k.Perm l):∀{m:List w},Kx R l m->∃z,z.Perm m/\Kx R k z:=by
 induction p with
 |nil=>exact λh=>#[_,.refl _,h]|cons x _ g =>
  intro m h;cases h with|cons r t=>let#[z,p,h]:=g t;exact#[_::z,p.cons _,.cons r h]
 |swap x y l =>
  intro m h;cases h with
  |cons r t =>
   cases t with|cons a t=>exact#[_,QEH.swap _ _ _,.cons a (.cons r t)]
 |trans _ _ v u=>intro m h;let#[n,e,j]:=u h;let#[f,b,i]:=v j;exact#[f,b.trans e,i]
theorem u7{α:Type}{o:Array Nat}{es:Array α}(h:o.toList.Perm (Qj es.size)):(o.filterMap (es[·]?)).toList.Perm es.toList:=by
 rw[QCB];refine(h.filterMap _).trans ?_;rw[show(Qj es.size).filterMap (es[·]?)=es.toList from ?_];refine wY λi=>?_;have:(Qj es.size).filterMap (es[·]?)=(Qj es.toList.9).filterMap (es.toList[·]?):=by rw[QM];congr 1;funext i;exact QX.symm
 rw[this];generalize es.toList=l;congr 1;induction l with|nil=>rfl|cons x l y=>rw[QL,List.range_succ_eq_map,wV];show x::_=_;rw[QC2];exact gV _ y
section
variable{prog:jv}{w:jr}{A:ju}{E:pB}{s:Jq}
section
variable{n:Nat}{t:jt}{h:js}{es:Array (Int×Ju)}
theorem xZ{x:Str}{l:List NK}{v:Ju}{Q:Bool->Jq->Prop}(h:KG s.1 (.t (.s x::l)) v)(q:Q Jt s):Jw (jz prog w) A (hashByValue (n+2) v) Q E s:=by
 let#[a,y,e,#[o,z,hc,m,u],#[g,r,f,#[i,b],_]]:=h;subst e;have k:s.TypeIs (.ref a) "tuple":=#[o,z,hc]
 unfold hashByValue;refine QA (QBE k QDN.lookup ?_);show Jw _ _ (seqItems? (.ref a) >>= _) _ _ s;refine QA (QAA z u ?_);refine QA ?_;show Jw _ _ (forIn y _ _) _ _ s;rw[<- QAX,f,b,QAT];exact QA (QA (QH (QH (QH (QH q)))))
def Si(t:jt)(n:Nat):Prop:=n * 5<t.mask * 3
theorem Fb{j:Nat}(h:TbO t n)(r:Si t n):TbO (t.put j).1 (n+1)/\(t.put j).1.mask=t.mask:=by
 have x:(t.put j).1.dummies=#[]:=by show(if QCO t.dummies j then _ else t.dummies)=_;rw[h.d,Gq];intro c;unfold QCO at c;have:=beq_iff_eq.mp c;simp at this
 refine#[#[h.m,x,?_,?_],rfl];have:=(QCC t.place (Qw t.place j) j).length_eq;rw[W4,QN,QM,QM,h.s]at this;exact this;show n+1<=t.mask;have:=h.m;unfold Si at r;unfold PU at this;omega
theorem B4:wl (qY 5)=32/\wl (qY 19)=128/\wl (qY 77)=512:=by decide
theorem j0(h:TbO t n)(r:n * 5 ≥ t.mask * 3)(r':(n - 1) * 5<t.mask * 3)(u:n<307):PU (wl (qY n) - 1)/\n * 5<(wl (qY n) - 1) * 3/\wl (qY n)<=512:=by
 let#[z,y,x]:=B4;rcases h.m with e|e|e|e<;>rw[e]at r r';obtain rfl:n=5:=()
 rw[z];exact#[.inr (.inl rfl),by decide,by decide];obtain rfl:n=19:=()
 rw[y];exact#[.inr (.inr (.inl rfl)),by decide,by decide];obtain rfl:n=77:=()
 rw[x];exact#[.inr (.inr (.inr rfl)),by decide,by decide];omega
theorem NP{h':js}{a:jy}{o:Obj}{ep:Nat}(f:h.get? a=Jp o)(g:o.data=.set es ep t)(hs:qZ a h h'){e:Int×Ju}{k:NK}(x:Ek Pv w h e k):Ek Pv w h' e k :=
 #[ID (λb v #[u,e,c,n,y]=>#[u,(hs.2 b λz=>by subst z;cases e.symm.trans f;cases g.symm.trans y).trans e,c,n,y]) x.1,x.2]
def BW(t:jt)(es:Array (Int×Ju)):Prop:=∀(i j:Nat) (e:Int×Ju),t.place[i]?=Jp j->es[i]?=Jp e->∃q,(zB t.advance q (t.probeStart e.1)).j=j/\∀m,m<q->t.slot (zB t.advance m (t.probeStart e.1)).j≠.empty
theorem gY{α z:Type}{R:α->z->Prop}:∀{l:List α}{m:List z},Kx R l m->∀y∈m,∃(i:Nat) (x:α),l[i]?=Jp x/\R x y
 |_,_,.nil,y,h=>by cases h|_,_,.cons r t,y,h=>by rcases QK.mp h with rfl|h;exact#[0,_,rfl,r];let#[i,x,a,b]:=gY t y h;exact#[i+1,x,a,b]
theorem UV{ks:List NK}{k:NK}{q:Nat}(b:TsO Pv w h es t ks)(r:TW t.place)(X:BW t es)(v:t.slot (zB t.advance q (t.probeStart (mI w k))).j=.empty)(l:∀m,m<q->Sn t h es k (zB t.advance m (t.probeStart (mI w k)))):k∉ks:=λz=>by let#[i,e,x,Z,Y,_]:=gY b.e k z;rw[QX]at x;have lt:=(WD.mp x).1;rw[<- b.t.s]at lt;have a:t.place[i]?=Jp t.place[i]:=Qn lt;let#[u,g,f]:=X i _ e a x;rw[Y]at g f;have y:=LI r a;rw[<- g]at y;rcases QDP u q with c|c|c;let#[W,p,o]:=l u c;cases y.symm.trans p;exact o e x Z;subst c;cases y.symm.trans v;exact f q c v
end
end
end L2.L3
namespace L2.L3
open PySem
section
variable{p i n j f m:Nat}{t:jt}{x:Int}{u:Array (Option Nat)}
theorem rN{α:Type}{xs:Array α}{x:α}(y:p<=xs.size)(k:Nat):(wZ xs p x)[k]?=if k<p then xs[k]? else if k=p then Jp x else xs[k - 1]?:=by
 rw[<- QX,QBl];have lt:(xs.toList.take p).9=p:=by rw[Wf,QM];omega
 split;rename_i c;rw[qJ (),QAM c,QX];rw[Qx (),lt];split;rename_i c;rw[c,QBP];rfl;obtain⟨d,h⟩:∃d,k - p=d+1:=#[k - p - 1,()]
 rw[h,wI,QBQ,QX];congr 1;omega
theorem R6{α:Type}{xs:Array α}{x:α}(z:p<=xs.size){y:α}(h:xs[i]?=Jp y):∃k:Nat,(wZ xs p x)[k]?=Jp y:=by by_cases c:i<p;exact#[i,by rw[rN z,Gw c];exact h];exact#[i+1,by rw[rN z,Gq (),Gq ()];exact h]
theorem N4{q:Nat}{es:Array (Int×Ju)}{v:Ju}(h:TbO t n)(B:es.size=n)(X:TW t.place)(A:BW t es)(W:t.slot (zB t.advance q (t.probeStart x)).j=.empty)(K:∀m,m<q->t.slot (zB t.advance m (t.probeStart x)).j≠.empty) :
  TW (t.put (zB t.advance q (t.probeStart x)).j).1.place/\BW (t.put (zB t.advance q (t.probeStart x)).j).1 (wZ es (t.put (zB t.advance q (t.probeStart x)).j).2 (x,v)):=by
 generalize hj:(zB t.advance q (t.probeStart x)).j=j at W ⊢;have F:∀i:Nat,t.place[i]?≠Jp j:=λi z=>by cases W.symm.trans (LI X z)
 have o:=kY X F;have Z:=(pK X j).1;have I:Qw t.place j<=es.size:=by rw[B,<- h.s];exact Z
 have G:(t.put j).1.advance=t.advance:=rfl;have Y:∀y,(t.put j).1.probeStart y=t.probeStart y:=λ_=>rfl;have g:∀m,t.slot m≠.empty->(t.put j).1.slot m≠.empty:=λm hm=>by
  rcases oJ h.d m with e|⟨i,e⟩
  exact gJ e hm;let#[k,hk]:=R6 (x:=j) Z (bL e);rw[LI o (show(t.put j).1.place[k]?=Jp m from hk)];exact QAE
 refine#[o,λi k e l w=>?_];rw[G,Y];have l:(wZ t.place (Qw t.place j) j)[i]?=Jp k:=l;have w:(wZ es (Qw t.place j) (x,v))[i]?=Jp e:=w;rw[rN Z]at l;rw[rN I]at w;have r:∀i:Nat,t.place[i]?=Jp k->es[i]?=Jp e->∃q,(zB t.advance q (t.probeStart e.1)).j=k/\∀m,m<q->(t.put j).1.slot (zB t.advance m (t.probeStart e.1)).j≠.empty:=λi E C=>by let#[q,a,b]:=A i k e E C;exact#[q,a,λm hm=>g _ (b m hm)]
 split at l;rename_i c;rw[Gw c]at w;exact r i l w;rename_i c;rw[Gq c]at w;split at l;rename_i c2;rw[Gw c2]at w;cases l;cases w;exact#[q,hj,λm hm=>g _ (K m hm)];rename_i c2;rw[Gq c2]at w;exact r _ l w
theorem kO{t:jt}:∀(k:Nat) (p:wb),k<=p.more->(zB t.advance k p).j=p.j+k
 |0,p,_=>rfl|k+1,p,h=>by
  show(zB t.advance k (t.advance p)).j=_;have y:t.advance p={ p with j:=p.j+1,more:=p.more - 1 }:=by unfold Wj;rw[Gw ()]
  rw[y,kO k _ (by show k<=p.more - 1;omega)];show p.j+1+k=_;omega
theorem DL{t:jt}{u:Array (Option Nat)}{j:Nat}:∀(f:Nat) (P:wb),vm t.mask P->qI t.mask u f P.i P.perturb=Jp j->∃q,(zB t.advance q P).j=j/\∀m,m<q->(u.getD (zB t.advance m P).j (Jp 0)).isNone=Jt
 |0,P,_,h=>by cases h|f+1,P,pr,h=>by
  unfold qI at h;have y:qi t.mask P.i+1 - P.i=P.more+1:=by have:=pr.2;unfold qi at this ⊢;split at this;rw[Gw (by assumption)];omega;rw[Gq (by assumption)];omega
  rw[y]at h;cases c:(Qj (P.more+1)).find? (λk=>(u.getD (P.i+k) (Jp 0)).isNone) with|some k=>rw[c]at h;let#[g,v,b]:=List.find?_range_eq_some.mp c;have v:=Q7.mp v;cases h;refine#[k,by rw[kO k P (),pr.1],λm hm=>?_];rw[kO m P (),pr.1];have:=b m hm;simpa using this|none=>rw[c]at h;have e:=zO (t:=t) P.more P rfl;let#[q,a,w]:=DL f (zB t.advance (P.more+1) P) (by rw[e];exact#[rfl,rfl]) (by rw[e];exact h);refine#[P.more+1+q,by rw[PB];exact a,λm hm=>?_];by_cases z:m<P.more+1;rw[kO m P (),pr.1];have:=QC5.mp c m (Q7.mpr z);exact QBm.mpr this;have:=w (m - (P.more+1)) ();rw[<- PB,show P.more+1+(m - (P.more+1))=m by omega]at this;exact this
def Cj(t:jt)(u:Array (Option Nat))(hl:LJ):Prop:=∀j k:Nat,u[j]?=Jp (Jp k)->∃h,hl[k]?=Jp h/\∃q,(zB t.advance q (t.probeStart h)).j=j/\∀m,m<q->(u.getD (zB t.advance m (t.probeStart h)).j (Jp 0)).isNone=Jt
theorem KO{a:Nat}(h:(u.getD a (Jp 0)).isNone=Jt):((u.setIfInBounds j (Jp n)).getD a (Jp 0)).isNone=false:=by rw[wO]at h ⊢;rw[Wr];split;split<;>rfl;exact h
theorem B5{hl:LJ}(h:Cj t u hl)(e:qI t.mask u f (qC x % (t.mask+1)) (qC x)=Jp j):Cj t (u.setIfInBounds j (Jp hl.length)) (hl++[x]):=by intro a k z;rw[Wr]at z;split at z;rename_i c;split at z;cases z;refine#[x,by rw[Qx (QV _),QBP];rfl,?_];let#[q,w,v]:=DL f (t.probeStart x) #[rfl,rfl] e;exact#[q,w.trans c,λm hm=>KO (v m hm)];cases z;let#[y,b,q,w,v]:=h a k z;exact#[y,by rw[qJ (Qb.mp b).1];exact b,q,w,λm hm=>KO (v m hm)]
theorem HL{α h:Type}(g:Option α->h->Option α)(y:∀b,g Jr b=Jr):∀l:List h,l.foldl g Jr=Jr
 |[]=>rfl|b::l=>by rw[wg,y,HL g y l]
theorem NL{t:jt}:∀(hs hl:LJ) (u:Array (Option Nat)) (r:Array (Option Nat)×Nat),Cj t u hl->(hs.foldl (λy h=>do
  let(owner,k) <- y
  let j <- qI t.mask owner (wc t.mask) (qC h % (t.mask+1)) (qC h)
  Gu (owner.setIfInBounds j (Jp k),k+1)) (Jp (u,hl.length)))=Jp r->Cj t r.1 (hl++hs)
 |[],hl,u,r,h,e=>by cases e;rw[wK];exact h|x::hs,hl,u,r,h,e=>by
  rw[wg]at e;cases c:qI t.mask u (wc t.mask) (qC x % (t.mask+1)) (qC x) with|none=>have e:hs.foldl _ ((qI t.mask u (wc t.mask) (qC x % (t.mask+1)) (qC x)) >>= λj=>Gu (u.setIfInBounds j (Jp hl.length),hl.length+1))=Jp r:=e;rw[c]at e;exact gJ ((HL _ (λ_=>rfl) hs).symm.trans e) (λz=>by cases z)|some j=>have e:hs.foldl _ ((qI t.mask u (wc t.mask) (qC x % (t.mask+1)) (qC x)) >>= λj=>Gu (u.setIfInBounds j (Jp hl.length),hl.length+1))=Jp r:=e;rw[c]at e;have:=NL hs (hl++[x]) _ r (B5 h c) (by rw[QN];exact e);rw[qd]at this;exact this
theorem LX(h:i<=m):i+(qi m i - i)<=m:=by unfold qi;split<;>omega
theorem IS{t:jt}:∀(n:Nat) (p:wb),p.j+p.more<=t.mask->(zB t.advance n p).j<=t.mask
 |0,p,h=>by show p.j<=_;omega|n+1,p,h=>by show(zB t.advance n (t.advance p)).j<=_;refine IS n _ ?_;unfold Wj;split;show p.j+1+(p.more - 1)<=_;omega;exact LX (qr (QBB _ (QAO _)))
theorem pX(t:jt)(x:Int):(t.probeStart x).j+(t.probeStart x).more<=t.mask:=LX (qr (QBB _ (QAO _)))
theorem VZ{v:Nat}{l p:Bool}{hs:Array Int}(hm:PU m)(hl:hs.size<=m){o:Array Nat}(e:QAZ m f v l p hs=Jp (t,o)) :
  TW t.place/\∀i j:Nat,t.place[i]?=Jp j->∃(k:Nat) (h:Int),o[i]?=Jp k/\hs[k]?=Jp h/\∃q,(zB t.advance q (t.probeStart h)).j=j/\∀n,n<q->t.slot (zB t.advance n (t.probeStart h)).j≠.empty:=by
 have A:∀j k:Nat,(QAa (m+1) (none:Option Nat))[j]?≠Jp (Jp k):=λj k h=>by rw[QBk]at h;split at h<;>cases h
 have h0:OwO m (QAa (m+1) Jr) 0:=#[QCY,λk hk=>gJ hk (wk _),λj k h=>gJ h (A j k),λj _ k h=>gJ h (A j k)]
 let#[u,O,ho]:=tG hm hs.toList _ 0 h0 (by rw[QM];omega);have ec:W5 m hs=Jp u:=by unfold W5;rw[<- QC6,O];rfl
 unfold QAZ at e;rw[ec]at e;generalize hL:((Qj (m+1)).filterMap λj=>(u.getD j Jr).map (j,·))=L;have e:Jp (({ mask:=m,place:=(((Qj (m+1)).filterMap λj=>(u.getD j Jr).map (j,·)).map (·.1)).toArray,dummies:=#[],finger:=f,led:=l,moves:=v,plain:=p }:jt),(((Qj (m+1)).filterMap λj=>(u.getD j Jr).map (j,·)).map (·.2)).toArray)=Jp (t,o):=e;rw[hL]at e;have F:=(Prod.mk.inj (Qy e)).1;have eo:=(Prod.mk.inj (Qy e)).2;have G:t.mask=m:=by rw[<- F]
 have tp:t.place.toList=L.map (·.1):=by rw[<- F]
 have td:t.dummies=#[]:=by rw[<- F]
 have S:o.toList=L.map (·.2):=by rw[<- eo]
 have w:=NL (t:=t) hs.toList [] (QAa (m+1) Jr) (u,0+hs.toList.9) (λj k h=>gJ h (A j k)) (by rw[G];exact O);rw[qD]at w;have X:∀j k:Nat,u.getD j Jr=Jp k↔u[j]?=Jp (Jp k):=λj k=>by
  rw[wO];cases c:u[j]? with|none=>exact#[λz=>(by cases z),λz=>(by cases z)]|some y=>exact#[λz=>(by rw[show y=Jp k from z]),λz=>Qy z]
 have g:∀j k:Nat,(j,k)∈L↔j<=m/\u[j]?=Jp (Jp k):=λj k=>by rw[<- hL,QAS];constructor;rintro⟨a,r,E⟩;let#[b,h3,h4]:=w9.mp E;cases h4;exact#[qr (Q7.mp r),(X _ _).mp h3];rintro⟨r,E⟩;exact#[j,Q7.mpr (QBi r),by rw[(X _ _).mpr E];rfl]
 have P:(L.map (·.1)).Pairwise (· < ·):=by rw[<- hL,QBj,QBy];refine List.pairwise_lt_range.imp λ{a b} ab x W y Z=>?_;let#[_,_,rfl]:=w9.mp W;let#[_,_,rfl]:=w9.mp Z;exact ab
 have I:TW t.place:=λi k x y ik W Z=>by rw[<- QX,tp]at W Z;let#[l1,rfl]:=Qb.mp W;let#[H,rfl]:=Qb.mp Z;exact List.pairwise_iff_getElem.mp P i k l1 H ik
 refine#[I,λi j M=>?_];rw[<- QX,tp,Qg]at M;let#[#[j',k],N,rfl]:=w9.mp M;let#[jm,g2]:=(g _ _).mp (Qq N);let#[h,r,q,R,Q]:=w _ _ g2;refine#[k,h,by rw[<- QX,S,Qg,N];rfl,by rw[<- QX];exact r,q,R,λn hn=>?_];have K:=IS (t:=t) n _ (pX t h);have Y:=Q n hn;generalize (zB t.advance n (t.probeStart h)).j=a at K Y ⊢;rw[G]at K;have J:a<u.size:=by rw[ho.s];omega
 rw[wO,Qn J]at Y;cases c:u[a]with|none=>rw[c]at Y;cases Y|some b=>have B:=(g a b).mpr #[K,by rw[Qn J,c]];let#[i2,C]:=WH.mp B;rw[LI I (i:=i2) (by rw[<- QX,tp,Qg,C];rfl)];exact QAE
end
open PySem.Spec PyProof.Rows PySem.SeqAt
variable{Pv:Ju->Prop}
theorem R8{α x:Type}{f:α->Option x}:∀{l:List α},(∀k∈l,(f k).isSome=Js)->∀i:Nat,(l.filterMap f)[i]?=(l[i]?).bind f
 |[],_,i=>rfl|a::l,h,i=>by
  let#[b,hb]:=WP.mp (h a QD);rw[wV,hb];cases i with|zero=>exact hb.symm|succ i=>exact R8 (λk hk=>h k (QC _ hk)) i
section
variable{prog:jv}{w:jr}{A:ju}{E:pB}{s:Jq}
def UQ(Pv:Ju->Prop)(w:jr)(h:js)(a:jy)(b:Bool)(ks:List NK):Prop:=∃x y t,h.get? a=Jp { cls:=.type "set",dict:=Jr,data:=.set x y t,slots:=#[] }/\TsO Pv w h x t ks/\Si t x.size/\t.led=b/\(x.size=0∨t.plain=Jt)/\TW t.place/\BW t x/\ks.Nodup
theorem EY{a:jy}{x:Ju}{k:NK}{ks:List NK}{Q:Bool->Jq->Prop}{b:Bool}(ht:∃z l,k=.t (.s z::l))(hu:A.units+8<Ks)(h0:UQ Pv w s.1 a b ks)(hn:ks.9<306)(I:KG s.1 k x)(hk:zN k<=6)(hP:Pv x)
  (q:∀r h' B,qZ a s.1 h'->UQ Pv w h' a b B->(B.Perm (ks++[k])∨k∈ks/\B=ks)->Q r { s with heap:=h' }):Jw (jz prog w) A (Vt a x (mI w k) 100000) Q E s:=by
 let#[z,l,ht]:=ht;have hc:∃c,x=.ref c:=by subst ht;let#[c,_,e,_]:=I;exact#[c,e]
 let#[c,S]:=hc;let#[g,ep,t,F,Z,rm,ld,pl,rs,rc,nd]:=h0;have hf:=HI Z.t;have hz:g.size=ks.length:=by rw[<- QM];exact Z.e.9
 rw[show(100000:Nat)=99999+1 from rfl];unfold Vt;refine QA (qe F rfl hf ?_);dsimp only;rw[Gq (by subst S;exact QDq)];refine QA (yR hu F Z I hk (λc=>?_) λq0 hj sn=>?_);exact QH (q Jt s.1 ks (QBg _ _) #[g,ep,t,F,Z,rm,ld,pl,rs,rc,nd] (.inr #[c,rfl]));dsimp only;have kn:=UV Z rs rc hj sn;have K:=N4 (v:=x) Z.t rfl rs rc hj λm hm=>by let#[i,h,_]:=sn m hm;rw[h];exact QAE
 generalize hj0:(zB t.advance q0 (t.probeStart (mI w k))).j=j at hj K ⊢;refine QA (qe F rfl hf ?_);dsimp only;let#[tp,mp]:=Fb (j:=j) Z.t rm;have pe:=QCC g (t.put j).2 (mI w k,x);rw[W4]at pe;have Y:(wZ g (t.put j).2 (mI w k,x)).size=g.size+1:=by have:=pe.length_eq;rw[QN,QM,QM]at this;exact this
 let#[k1,p1,h1]:=NI pe (Z.e.snoc (show Ek Pv w s.1 (mI w k,x) k from#[I,rfl,#[c,S],hk,hP]));have n1:k1.Nodup:=p1.nodup_iff.mpr (qT.mpr #[nd,Qa.mpr #[Wi,Qt],λx I y hy=>by rw[QJ.mp hy];exact λe=>kn (e▸I)]);generalize wZ g (t.put j).2 (mI w k,x)=e1 at pe Y h1 K ⊢;have l0:(t.put j).1.led=b:=ld;generalize (t.put j).1=t1 at tp mp l0 K ⊢;have sz:g.size+1<=sizeLine:=by rw[qR];omega
 have X:∀u:jt,TbO u (g.size+1)->u.mask=t.mask->u.led=b->u.plain=Jt->TW u.place->BW u e1->Jw (jz prog w) A (do
   Zu a e1 u
   if(!Jt&&u.tooFull)=Js then setRelay a (qY (g.size+1))
   Gu Js) Q E s:=λu W m2 R N rs2 rc2=>by
  refine QA (QAl F rfl ?_ (by rw[Y];exact sz));have J:=AI (es':=e1) (t':=u) F;have o:=qO s.1 a (QBC e1 u);have C:=h1.mono λ_ _ z=>NP F rfl o z;generalize s.1.update a (QBC e1 u)=hp1 at J o C ⊢;have o1:TsO Pv w hp1 e1 u k1:=#[C,by rw[Y];exact W]
  by_cases c:u.tooFull=Js;dsimp only;rw[c,Gw (by rfl)];have H:(g.size+1) * 5 ≥ u.mask * 3:=by unfold QDr QC8 at c;rw[W.s,W.d]at c;exact gy c
  let#[g2,g3,g4]:=j0 W H (by rw[m2];exact rm) ();refine QA ?_;unfold setRelay;refine QA (qe (s:={ s with heap:=hp1 }) J rfl (HI o1.t) ?_);dsimp only;rw[Gq (by rw[qR];omega)];let#[G,O,l1,l2,l3,l5,l6,l4]:=jW (f:=u.finger) (v:=u.movedTo (wl (qY (g.size+1)) - 1)) (l:=u.led) (p:=u.plain) (hs:=e1.map (·.1)) g2 (by rw[QCk,Y];omega);rw[show u.relaid (e1.map (·.1)) (qY (g.size+1))=Jp (G,O) from l1];rw[QCk]at l2 l4;have pf:=u7 l4;let#[rs3,rc3]:=VZ g2 (by rw[QCk,Y];omega) l1;have M:BW G (O.filterMap (e1[·]?)):=λi j e hi he=>by let#[k,h,a1,a2,a3]:=rc3 i j hi;rw[<- QX,QCB,R8 (λk hk=>by have:=Q7.mp (l4.mem_iff.mp hk);rw[Qn this];rfl),QX,a1]at he;have he:e1[k]?=Jp e:=he;rw[Array.getElem?_map,he]at a2;cases a2;exact a3
  have P:(O.filterMap (e1[·]?)).size=e1.size:=by have:=pf.length_eq;rw[QM,QM]at this;exact this
  refine QA ?_;show Jw _ _ (do
   let es':=O.filterMap (e1[·]?)
   if es'.size != e1.size then unsupported "internal:set-table-lost-an-element"
   Gu (es',G)) _ _ _
  dsimp only;rw[P,Gq (by rw[bne_self_eq_false];exact QDq)];refine QA (QH (QH ?_));dsimp only;generalize O.filterMap (e1[·]?)=e2 at pf P M ⊢;refine QAl (s:={ s with heap:=hp1 }) J rfl (QH ?_) (by rw[P,Y];exact sz);have gg:=AI (es':=e2) (t':=G) J;have L:=qO hp1 a (QBC e2 G);let#[k2,p2,W]:=NI pf C;refine q Js _ k2 (o.trans L) #[e2,_,G,gg,#[W.mono λ_ _ z=>NP J rfl L z,by rw[P];exact l2],?_,l5.trans R,.inr (l6.trans N),rs3,M,p2.nodup_iff.mpr n1] (.inl (p2.trans p1));unfold Si;rw[P,Y,l3];exact g3;dsimp only;rw[QBm.mpr c,Gq (by decide)];refine QH ?_;refine q Js _ k1 o #[e1,_,u,J,o1,?_,R,.inr N,rs2,rc2,n1] (.inl p1);unfold Si;rw[Y];refine Nat.lt_of_not_le λz=>c ?_;unfold QDr QC8;rw[W.s,W.d];exact dT z
 split;subst ht;refine QA (xZ (n:=6) I ?_);exact X { t1 with plain:=Jt } #[tp.m,tp.d,tp.s,tp.f] mp l0 rfl K.1 K.2;rename_i c;exact QA (QH (X t1 tp mp l0 (QBm.mpr c) K.1 K.2))
end
end L2.L3
namespace L2.L3
open PySem PySem.Spec PyProof.Rows
variable{Pv:Ju->Prop}
section
variable{w:jr}{h h':js}{a:jy}{b:Bool}{ks:List NK}
theorem YR{h:js}:∀{ks:List NK}{vs:LW},NKvs h ks vs->∀(i:Nat) (v:Ju),vs[i]?=Jp v->∃k,ks[i]?=Jp k/\KG h k v
 |[],vs,e,i,v,hv=>by cases(show vs=[] from e);cases hv|k::ks,vs,#[x,r,e,p,p'],i,v,hv=>by
  subst e;cases i with|zero=>cases hv;exact#[k,rfl,p]|succ i=>exact YR p' i v hv
theorem UQ.at(x:UQ Pv w h a b ks)(u:∀o,h.get? a=Jp o->h'.get? a=Jp o)(y:∀b its,h.IsTuple b its->h'.IsTuple b its):UQ Pv w h' a b ks:=by let#[v,k,t,e,#[p,q],r]:=x;exact#[v,k,t,u _ e,#[p.mono λ_ _ z=>#[ID y z.1,z.2],q],r]
theorem f6(e:h.get? a=Jp (uF b)):UQ Pv w h a b []:=#[#[],0,_,e,#[.nil,.inl rfl,rfl,rfl,Q3 _],(by decide:0 * 5<7 * 3),rfl,.inl rfl,λi _ x _ _ h _=>gJ (show(#[]:Array Nat)[i]?=Jp x from h) (by simp),λi j _ h _=>gJ (show(#[]:Array Nat)[i]?=Jp j from h) (by simp),Qt]
theorem u4{r:Bool}(x:UQ Pv w h a r ks)(u:qZ a h h')(b:jy)(its:Array Ju):h.IsTuple b its->h'.IsTuple b its:=by rintro⟨v,e,c,n,y⟩;let#[f,g,t,k,_]:=x;exact#[v,(u.2 b λz=>by subst z;cases e.symm.trans k;cases y).trans e,c,n,y]
end
section
variable{u:jv}{h:jr}{y:ju}{Er:pB}{sh:Jq}
section
variable{l:jy}{xs:Array Ju}{ss:List NK}
theorem IY{a:jy}{x:Ju}{k:NK}{ks:List NK}{r:Bool}{Q:Bool->Jq->Prop}(g:y.units+8<Ks)(h0:UQ Pv h sh.1 a r ks)(j:ks.9<306)(w:KG sh.1 k x)(hk:zN k<=6)(i:∃z l,k=.t (.s z::l))(n:Pv x)
  (q:∀b h' v,qZ a sh.1 h'->UQ Pv h h' a r v->(∀s,s∈v↔s∈ks∨s=k)->v.9<=ks.9+1->Q b { sh with heap:=h',toks:=sh.toks+Lc k }):Jw (jz u h) y (Ys a x) Q Er sh:=by
 unfold Ys;refine qG (QA (IT k x _ _ _ w () ?_));unfold setAddHashed;refine qG (EY (s:={ sh with toks:=sh.toks+Lc k }) i g h0 j w hk n λb h' v f st m=>q b h' v f st (λs=>?_) ?_);rcases m with p|⟨m,rfl⟩
 ·rw[p.mem_iff,QW,QJ]
 exact#[.inl,λz=>z.elim id λe=>e▸m];rcases m with p|⟨m,rfl⟩
 ·rw[p.length_eq,QN];exact QV _
 exact wn _
theorem XV{S it:jy}{b:Bool}{R:Result->Jq->Prop}(hd:y.handled=Jr)(hu:y.in1.units+8<Ks)(ne:l≠it)(H:S∉[it,l])(hk:∀k∈ss,zN k<=6/\∃z l,k=.t (.s z::l))(bd:xs.size<306)(hP:∀v∈xs.toList,Pv v) :
  ∀(n i:Nat) (sh:Jq) (j:List NK),xs.size - i=n->i<=xs.size->(sh.1.IsListIter it l i/\sh.1.IsList l xs)->UQ Pv h sh.1 S b j->NKvs sh.1 ss xs.toList->(∀s,s∈j↔s∈ss.take i)->j.9<=i ->
   (∀s' x,Moved [S,it] (λa b=>b=a) sh s'->UQ Pv h s'.1 S b x->(∀s,s∈x↔s∈ss)->x.9<=xs.size->R (.ok (.ret .none)) s') ->
   vz (jz u h) y (.builtin "set.update.loop" #[[.ref S,.ref it],[]]) R sh:=by
 have W:=(QDI (prog:=u) (w:=h) (A:=y.in1) hd it l ne xs).toS;have sub:∀c∈[it],c∈[S,it]:=λc hc=>QC _ hc;have Q:S∉[it]:=λz=>H (QK.mpr (.inl (QJ.mp z)));have N:∀{sh s':Jq}{i:Nat},sh.1.IsListIter it l i->Moved [it] (λa b=>b=a) sh s'->∀b Y,sh.1.IsTuple b Y->s'.1.IsTuple b Y:=by rintro sh s' i ⟨o1,e1,c1,_⟩ g b Y ⟨P,e,c,n,dt⟩;exact#[P,g.1 b P (λz=>by cases QJ.mp z;cases e1.symm.trans e;have:=Value.type.inj (c1.symm.trans c);exact gJ this (by decide)) e,c,n,dt]
 intro n;induction n with
 |zero =>
  intro i sh j en li f p hs X len k;obtain rfl:i=xs.size:=()
  refine qh Wc ?_;rw[qQ wP _];refine QA (m:=ku (.ref it)) (W.done sh _ _ f λs' g=>QH (k s' j (g.mono sub) (p.at (λo e=>g.1 S o Q e) (N f.1 g)) ?_ len));intro s;have hl:=bH hs;rw[QM]at hl;rw[X,hl,QDm]
 |succ n ih =>
  intro i sh j en li f p hs X len k;have lt:i<xs.size:=()
  refine qh Wc ?_;rw[qQ wP _];refine QA (m:=ku (.ref it)) (W.item i sh _ _ lt f λv s' O F g=>?_);have kp:=N f.1 g;have B:=nks_keeps kp hs;let#[z,ez,hz]:=YR B i v (by rw[QX];exact O);let#[M,L]:=hk z (Qq ez);have K:UQ Pv h s'.1 S b j:=p.at (λo e=>g.1 S o Q e) kp;refine QA (m:=Xr [v] (Ys S v)) (qG (IY hu K () hz M L (hP v (Qq (by rw[QX];exact O))) λr h' x G E m3 l3=>QH #[WG wP _,?_]));refine ih (i+1) _ x () lt (W.frame _ s' _ _ F (QB7 _ _) λc hc o e=>?_) E (nks_keeps (u4 K G) B) (λs=>?_) () λI Z J C m4 l4=>k I Z (Moved.trans W.gtrans ((g.mono sub).then_heap (QB7 _ _) λc o hc e=>?_) J) C m4 l4;rw[G.2 c λq=>H (q▸hc)];exact e;rw[m3,X,List.take_succ,ez,QW];simp;rw[G.2 c λq=>hc (q▸QD)];exact e
theorem HN{Q:pB}(J:y.handled=Jr)(hl:sh.1.IsList l xs)(hs:NKvs sh.1 ss xs.toList)(hk:∀k∈ss,zN k<=6/\∃z l,k=.t (.s z::l))(hu:y.units+40<Ks)(O:xs.size<306)(L:∀v∈xs.toList,Pv v)
  (k:∀(h':js) (a:Nat) (x:List NK),UQ Pv h h' sh.1.1.size (!h.params.followText "set-order") x->(∀s,s∈x↔s∈ss)->x.9<=xs.size->(∀b o,sh.1.get? b=Jp o->h'.get? b=Jp o)->Q (.ref sh.1.1.size) { sh with heap:=h',toks:=a }) :
  Jw (jz u h) y (vt (.type "set") [.ref l]) Q Er sh:=by
 generalize hb:(!h.params.followText "set-order")=b at k;generalize hn:sh.1.1.size=n at k;let#[c,tl,mr]:=qj.mro;have md:=qj.made;have sb:=qj.sub;have c1:=qj.notType;have c2:=qj.canCreate;have c3:=QDn (.ref l);refine QD5 (QCQ ?_);show Jw _ _ (callAny (.type "set") _) _ _ _;refine QH #[QDA _ (by decide +kernel),qh QDO ?_];rw[QDB (QCR "set" [.ref l] []) rfl]
 repeat (any_goals (first|assumption|wp_step))
 refine QAL (yU (v:=.ref l) (Er:=Er) (Q:=λp q=>p=.ref n/\q={ sh with heap:=sh.1.push (uF b) }) #[by rw[hn],by rw[hb]]) λr q g=>?_;cases r with
 |error e=>exact g|ok fl =>
  cases fl with
  |ret obj =>
   let#[rfl,rfl]:=g;have C:(sh.1.push (uF b)).get? n=Jp (uF b):=hn▸QO _ rfl;have ty:QDC { sh with heap:=sh.1.push (uF b) } (.ref n) "set":=#[_,C,rfl]
   have li:=qj.init.lookup;have bi:=qj.init.bind (.ref n)
   repeat (any_goals (first|assumption|wp_step))
   refine QAL (QCZ (R:=wants (λr q=>r=.none/\∃h' a x,q={ sh with heap:=h',toks:=a }/\UQ Pv h h' n b x/\(∀s,s∈x↔s∈ss)/\x.9<=xs.size/\∀c o,sh.1.get? c=Jp o->h'.get? c=Jp o) Er) qj.init.plain QDo (QDp ty ?body)) ?after
   case after =>
    intro r q g;cases r with
    |error e=>exact g|ok fl =>
     cases fl with
     |ret r =>
      let#[rfl,h',a,x,rfl,a1,H,S,P]:=g
      repeat (any_goals (first|assumption|wp_step))
      exact k h' a x a1 H S P
     |_=>exact g.elim
   case body =>
    let#[G,B,N,W,M]:=hl;let#[Z,f,X,w]:=G;cases N;cases M;have Y:(sh.1.push (uF b)).get? l=Jp { cls:=.type "list",dict:=f,data:=.seq xs W,slots:=w }:=QI _ B;have t1:=F.sub_list_set;have t2:=QCa;have t3:(Value.type "list" == Value.type "dict")=false:=by decide
    have A:(sh.1.push (uF b)).IsList l xs:=#[_,Y,rfl,W,rfl]
    unfold Builtin.«set.__init__» noKeywords QA8;generalize hi:Vs=it;wp_walk;subst hi;refine WT A (QA (QBZ ?_));have lt:l<sh.1.1.size:=QS B;have sz:(sh.1.push (uF b)).1.size=n+1:=by rw[qz,hn]
    rw[hn]at lt;refine XV (ss:=ss) (by simp[J]) (by simp only[QB5];omega) (show l≠_ by rw[sz];exact Qe (qM lt)) (λz=>?_) hk O L xs.size 0 _ [] (Nat.sub_zero _) (Q3 _) #[#[_,QO _ rfl,rfl,rfl],A.push _] (f6 (QI _ C)) (nks_keeps (λ_ _ z=>z.push _) (nks_keeps (λ_ _ z=>z.push _) hs)) (λs=>?_) (QV _) λE j i st m I=>?_;rw[sz]at z;rcases QK.mp z with z|z;exact Qe (QAG _) z;exact wQ lt (QJ.mp z);rw[List.take_zero];let#[h',gs,dr,a,oo]:=E;cases i.gens;cases i.drawn;cases i.os;refine QH ?_;refine QH #[rfl,h',a,j,rfl,st,m,I,λc o e=>?_];have K:c<n:=hn▸QS e;refine i.1 c o (λz=>?_) (QI _ (QI _ e));rw[sz]at z;rcases QK.mp z with z|z;exact Qe K z;exact Qe (qM K) (QJ.mp z)
  |_=>exact g.elim
end
end
end L2.L3
namespace L2.L3
open PySem PySem.Spec PyProof.Rows
section
variable{u:jv}{z:jr}{M:Zp}{y:ju}{Er:pB}{sh:Jq}
theorem dM{src:Source}{n:Nat}{Q:Nat->Jq->Prop}(x:n≠0)(h:∀i d,i<n->Q i { sh with drawn:=d }):Jw M y (choose src n) Q Er sh:=λ_ _ _=>by unfold choose;rw[Sem.wp_choose];exact#[x,by rw[Sem.wp_pure];exact h _ _ (QBB _ (Nat.pos_of_ne_zero x))]
theorem vK{α:Type}{xs:List α}{i:Nat}(h:i<xs.9):(xs[i]::xs.eraseIdx i).Perm xs:=by rw[List.eraseIdx_eq_take_drop_succ];refine List.perm_middle.symm.trans ?_;rw[<- WM h,List.take_append_drop]
theorem O0{α:Type}:∀(n:Nat) (xs:List α) (sh:Jq) {Q:List α->Jq->Prop},xs.9=n->(∀L d,L.Perm xs->Q L { sh with drawn:=d })->Jw M y (drawOrder n xs) Q Er sh:=by
 intro n;induction n with
 |zero=>intro xs sh Q hl k;obtain rfl:=qt.mp hl;exact QH (k [] sh.drawn (QAD _))|succ n v =>
  intro xs sh Q hl k;cases xs with|nil=>cases hl|cons x r=>unfold drawOrder;refine QA (dM (by rw[hl];exact Nat.succ_ne_zero n) λi d h=>?_);rw[Q9 h];refine QA (v ((x::r).eraseIdx i) _ (by rw[QBO h,hl];rfl) λL w p=>QH (k _ w ((p.cons _).trans (vK h))))
theorem rV{α:Type}(f:Nat->Nat):∀(n k:Nat) (xs:List α) (out:Array α),xs.9=n->(pickOrder.go f n k xs out).toList.Perm (out.toList++xs):=by
 intro n;induction n with|zero=>intro k xs out hl;obtain rfl:=qt.mp hl;rw[wK];exact QAD _|succ n x=>intro k xs out hl;have h:f k % xs.9<xs.length:=QBB _ ();unfold pickOrder.go;rw[Q9 h];refine(x (k+1) _ _ (by rw[QBO h,hl];rfl)).trans ?_;rw[W4,qd];exact(vK h).append_left _
end
namespace F
theorem EO:Manifest.owners.lookup (String.ofList ['r','o','t','a','r','e','t','i','_','t','e','s'].reverse)=Jp Manifest.sig_set_iterator:=by kernel_rfl
theorem slot_si:Slot "set_iterator" "__next__" "set_iterator.__next__":=.of (owner:="set_iterator") (n:="__next__") (by rw[xt,QCS];kernel_rfl) (by decide +kernel) (by decide +kernel) (by decide +kernel) (by first|exact .inl (by decide +kernel)|exact .inr (by decide +kernel)) (by rw[QBa];kernel_rfl)
theorem entry_si:Zq table "set_iterator.__next__"=Jp Builtin.«set_iterator.__next__»:=entryFor_of_tree (by kernel_rfl)
theorem args_si(a:Ju):argsOk "set_iterator.__next__" #[[a],[]]:=by unfold argsOk;rw[signature?_of (id:="set_iterator.__next__") (n:=['_','_','t','x','e','n','_','_']) (o:=['r','o','t','a','r','e','t','i','_','t','e','s']) (by kernel_rfl) EO];kernel_rfl
theorem entry_set_iter:Zq table "set.__iter__"=Jp Builtin.«frozenset.__iter__»:=Yt (id':="frozenset.__iter__") (by kernel_rfl) rfl (by decide +kernel) (by kernel_rfl)
end F
def kM(h:js)(j a:jy)(f:Ju)(i n ep:Nat):Prop:=∃o,h.get? j=Jp o/\o.cls=.type "set_iterator"/\o.data=.fields (WZ [f,j1 i,.ref a,j1 n,j1 ep])
theorem kM.ty{sh:Jq}{j a:jy}{f:Ju}{i n ep:Nat}(x:kM sh.1 j a f i n ep):sh.TypeIs (.ref j) "set_iterator":=let#[o,e,c,_]:=x;#[o,e,c]
noncomputable abbrev setO(es:Array (Int×Ju))(ep:Nat)(t:jt):Obj:={ cls:=.type "set",dict:=Jr,data:=.set es ep t,slots:=#[] }
section
variable{u:jv}{y:jr}{z:ju}{Er:pB}{sh:Jq}{j a:jy}{es:Array (Int×Ju)}{ep:Nat}{t:jt}
section
variable{Q:Option Ju->Jq->Prop}{h:js}{f:Ju}{i i' n s:Nat}
theorem ES{P:QEG->Jq->Prop}{x:pB}(v:z.handled=Jr)(k:∀e h',QDC { sh with heap:=h' } e "StopIteration"->(∀b o,sh.1.get? b=Jp o->h'.get? b=Jp o)->x e { sh with heap:=h' }) :
  Jw (jz u y) z.in1 (do xy (<- Xp (.type "StopIteration") []):Sem QEG) P x sh:=by
 simp only[Xp,xx,xy];refine QA (QA (Qu ?_ (by size_fits)));refine QA (m:=Kt _ _) (QAJ (a:=Jz) (by first|rfl | (rw[Kt];rfl)) (Qu ?_ (by size_fits)));refine QA (QBv ?_);rw[show z.in1.handled=Jr from v];refine QA (QH (QCp (k _ _ ?_ ?_)));exact#[_,QO _ rfl,rfl];exact λb o e=>QI _ (QI _ e)
theorem aO{e:Ju}(ty:sh.TypeIs e "StopIteration")(q:Q Jr sh):Jw (jz u y) z (do if <- isInstance e (.type "StopIteration") then Gu Jr else throw e) Q Er sh:=by refine QA (Wh (T:="StopIteration") (b:=Js) ty (by kernel_rfl) ?_);rw[Gw rfl];exact QH q
theorem kM.put{v:Ju}(it:kM h j a f i n ep):kM ((h.update j (wD (·.setIfInBounds 0 v))).update j (wD (·.setIfInBounds 1 (j1 i')))) j a v i' n ep:=by let#[o,k,hc,x]:=it;have b:=Q0 (wD (·.setIfInBounds 0 v)) k (wG (qH x _));have w:=qH x (·.setIfInBounds 0 v);refine#[_,Q0 _ b (wG (qH w _)),(W0 ..).trans ((W0 ..).trans hc),?_];rw[qH w];simp
theorem kM.put1(it:kM h j a f i n ep):kM (h.update j (wD (·.setIfInBounds 1 (j1 i')))) j a f i' n ep:=by let#[o,v,hc,x]:=it;refine#[_,Q0 _ v (wG (qH x _)),(W0 ..).trans hc,?_];rw[qH x];simp
theorem ZX{r:Option (Ju×Nat)}(Y:z.handled=Jr)(it:kM sh.1 j a (j1 s) i n ep)(W:sh.1.get? a=Jp (setO es ep t))(X:t.fits es.size=Js)(m:n=es.size)
  (nx:∀{A:ju}{E:pB}{q:Option (Ju×Nat)->Jq->Prop},q r sh->Jw (jz u y) A (vl a s i ep) q E sh)
  (l:∀x s' h',r=Jp (x,s')->kM h' j a (j1 s') (i+1) n ep->(∀b o,b≠j->sh.1.get? b=Jp o->h'.get? b=Jp o)->Q (Jp x) { sh with heap:=h' })
  (g:r=Jr->∀h',(∀b o,b≠j->sh.1.get? b=Jp o->h'.get? b=Jp o)->Q Jr { sh with heap:=h' }) :
  Jw (jz u y) z (ku (.ref j)) Q Er sh:=by
 have ty:=it.ty;let#[o,w,hc,v]:=id it;unfold ku;refine QA (QAW (qW (name:=Qz "__next__") ty F.slot_si (Q5 F.slot_si ty F.entry_si ?_ (F.args_si _))));unfold Builtin.«set_iterator.__next__»;refine QA (QAJ (a:=(Jv j,[])) rfl (QA (QAB w v ?_)));show Jw _ _ (setEntries a >>= _) _ _ _;refine QA (QBF W rfl X ?_);rw[Gq (show ¬ (((es.size:Nat):Int) != ((n:Nat):Int))=Js by rw[m];simp)];show Jw _ _ (vl a s i ep >>= _) _ _ _;refine QA (nx ?_);cases r with|some p=>let#[x,s']:=p;refine QA (wa w v (by simp) ?_);have Z:=Q0 (wD (·.setIfInBounds 0 (j1 s'))) w (wG (qH v _));refine QA (wa (s:={ sh with heap:=sh.1.update j (wD (·.setIfInBounds 0 (j1 s'))) }) Z (qH v _) (by simp) ?_);refine QH #[x,rfl,QH (l x s' _ rfl ?_ λb o hb e=>?_)];exact it.put (i':=i+1);rw[qA _ _ (qB hb),qA _ _ (qB hb)];exact e|none=>refine QA (wa w v (by simp) ?_);exact ES (sh:={ sh with heap:=sh.1.update j (wD (·.setIfInBounds 2 Jz)) }) Y λe h' ty k=>aO (sh:={ sh with heap:=h' }) ty (g rfl h' λb o hb e=>k b o (by rw[qA _ _ (qB hb)];exact e))
theorem YX{p:jy}{L:LN}{g:Obj}{c:Nat}(A:z.handled=Jr)(it:kM sh.1 j a (.ref p) i n ep)(r:sh.1.get? a=Jp (setO es ep t))(l:t.fits es.size=Js)(K:n=es.size)
  (E:sh.1.get? p=Jp g) (I:g.data=.seq (L.map λi=>j1 (i:Nat)).toArray c) (B:∀m∈L,m<es.size)
  (W:∀m x h',L[i]?=Jp m->es[m]?=Jp x->kM h' j a (.ref p) (i+1) n ep->(∀b o,b≠j->sh.1.get? b=Jp o->h'.get? b=Jp o)->Q (Jp x.2) { sh with heap:=h' })
  (Z:L[i]?=Jr->∀h',(∀b o,b≠j->sh.1.get? b=Jp o->h'.get? b=Jp o)->Q Jr { sh with heap:=h' }) :
  Jw (jz u y) z (ku (.ref j)) Q Er sh:=by
 have ty:=it.ty;let#[o,w,hc,v]:=id it;unfold ku;refine QA (QAW (qW (name:=Qz "__next__") ty F.slot_si (Q5 F.slot_si ty F.entry_si ?_ (F.args_si _))));unfold Builtin.«set_iterator.__next__»;refine QA (QAJ (a:=(Jv j,[])) rfl (QA (QAB w v ?_)));show Jw _ _ (setEntries a >>= _) _ _ _;refine QA (QBF r rfl l ?_);rw[Gq (show ¬ (((es.size:Nat):Int) != ((n:Nat):Int))=Js by rw[K];simp)];show Jw _ _ (seqItems? (.ref p) >>= _) _ _ _;refine QA (QAA E I ?_);have C:(L.map λi=>j1 (i:Nat)).toArray[i]?=(L[i]?).map λi=>j1 (i:Nat):=by rw[List.getElem?_toArray,Qg]
 show Jw _ _ (match (L.map λi=>j1 (i:Nat)).toArray[i]? with|some (Value.int place _)=>_|some _=>_|none=>_) _ _ _;rw[C];cases k:L[i]? with
 |some m=>have X:=B m (Qq k);have q:es[m]?=Jp es[m]:=Qn X;show Jw _ _ (setNextDrawn a m ep >>= _) _ _ _;unfold setNextDrawn;refine QA (QA (qe r rfl l ?_));show Jw _ _ (if(ep != ep)=Js then _ else _) _ _ _;rw[Gq (by simp)];show Jw _ _ (match es[m]? with|some (_,x)=>_|_=>_) _ _ _;rw[q];refine QH (QA (wa w v (by simp) ?_));refine QH #[_,rfl,QH (W m _ _ k q ?_ λb o hb e=>?_)];exact it.put1 (i':=i+1);rw[qA _ _ (qB hb)];exact e
 |none=>show Jw _ _ (Zt (.ref j) 0 (j1 0) >>= _) _ _ _;refine QA (wa w v (by simp) ?_);have G:=Q0 (wD (·.setIfInBounds 0 (j1 0))) w (wG (qH v _));refine QA (wa (s:={ sh with heap:=sh.1.update j (wD (·.setIfInBounds 0 (j1 0))) }) G (qH v _) (by simp) ?_);exact ES (sh:={ sh with heap:=(sh.1.update j (wD (·.setIfInBounds 0 (j1 0)))).update j (wD (·.setIfInBounds 2 Jz)) }) A λe h' ty Y=>aO (sh:={ sh with heap:=h' }) ty (Z k h' λb o hb e=>Y b o (by rw[qA _ _ (qB hb),qA _ _ (qB hb)];exact e))
theorem CV{Q:Option (Ju×Nat)->Jq->Prop}(hb:y.params.followText "set-order"=Js)(v:sh.1.get? a=Jp (setO es ep t))(x:t.fits es.size=Js)(q:Q (((yw (y.params.setOrder a ep) es)[i]?).map λe=>(e.2,0)) sh):Jw (jz u y) z (vl a 0 i ep) Q Er sh:=by unfold vl setWalk Yu;refine QA (qe v rfl x (QA (QA (Wk (QH ?_)))));rw[Gw (by exact hb)];show Jw _ _ (if(ep != ep)=Js then _ else _) _ _ _;rw[Gq (by simp)];refine QA (QA (qe v rfl x (QA (QA (Wk (QH ?_))))));rw[Gw (by exact hb)];exact QA (Wk (QH (QH q)))
theorem uZ{Q:Option (Ju×Nat)->Jq->Prop}(hb:y.params.followText "set-order"=Jt)(w:sh.1.get? a=Jp (setO es ep t))(v:t.fits es.size=Js)(k:es.size<=1)(hl:t.led=Js)
  (q:Q (match es[Qw t.place s]?,t.place[Qw t.place s]? with|some (_,x),Jp j=>Jp (x,j+1)|_,_=>Jr) sh):Jw (jz u y) z (vl a s i ep) Q Er sh:=by
 unfold vl Yu;refine QA (qe w rfl v (QA (QA (Wk (QH ?_)))));rw[Gq (by show ¬ y.params.followText "set-order"=Js;rw[hb];exact QF)];show Jw _ _ (if(!t.plain&&decide (es.size > 1))=Js then _ else _) _ _ _;rw[Gq (by rw[dF (),QCd];exact QF)];refine QA (m:=if(!t.led&&!es.isEmpty)=Js then unsupported "set:maker-not-led" else Gu Unit.unit) ?_;rw[Gq (by rw[hl];exact QF)];exact QH (QH q)
end
end
namespace F
theorem slot_sii:Slot "set_iterator" "__iter__" "set_iterator.__iter__":=.of (owner:="set_iterator") (n:="__iter__") (by rw[xt,QCS];kernel_rfl) (by decide +kernel) (by decide +kernel) (by decide +kernel) (by first|exact .inl (by decide +kernel)|exact .inr (by decide +kernel)) (by rw[QBa];kernel_rfl)
theorem args_sii(a:Ju):argsOk "set_iterator.__iter__" #[[a],[]]:=by unfold argsOk;rw[signature?_of (id:="set_iterator.__iter__") (n:=['_','_','r','e','t','i','_','_']) (o:=['r','o','t','a','r','e','t','i','_','t','e','s']) (by kernel_rfl) EO];kernel_rfl
theorem entry_sii:Zq table "set_iterator.__iter__"=Jp Builtin.«dict_keyiterator.__iter__»:=Yt (id':="dict_keyiterator.__iter__") (by kernel_rfl) (by first|rfl|decide +kernel | (unfold String.splitOn;simp +decide [String.splitOnAux])) (by decide +kernel) (by kernel_rfl)
end F
section
variable{X:jv}{l:jr}{Y:ju}{Er:pB}{sh:Jq}{j a:jy}{es:Array (Int×Ju)}{ep:Nat}{t:jt}
section
variable{f:Ju}{i n:Nat}{Q:pB}{u:LW}{w:Array Ju}
theorem zT(it:kM sh.1 j a f i n ep)(q:Q (.ref j) sh):Jw (jz X l) Y (Vs (.ref j)) Q Er sh:=by refine QAj it.ty F.slot_sii (Q5 F.slot_sii it.ty F.entry_sii ?_ (F.args_sii _));show Jw _ _ (ret (.ref j)) _ _ sh;exact QH #[_,rfl,"set_iterator",_,it.ty,F.slot_si.lookup,q]
theorem kM.at{h h':js}(it:kM h j a f i n ep)(k:∀o,h.get? j=Jp o->h'.get? j=Jp o):kM h' j a f i n ep:=by let#[o,e,r]:=it;exact#[o,k o e,r]
theorem jX{g:Nat->Nat}(C:Y.handled=Jr)(G:a≠j)(B:t.fits es.size=Js)(K:n=es.size)
  (nx:∀(i:Nat) (A:ju) (s:Jq) (E:pB) (q:Option (Ju×Nat)->Jq->Prop),i<=u.9->s.1.get? a=Jp (setO es ep t)->q ((u[i]?).map λx=>(x,g (i+1))) s->Jw (jz X l) A (vl a (g i) i ep) q E s) :
  Walks X l Y j [j,a] [j] u.9 (λi v=>u[i]?=Jp v) (λi h=>kM h j a (j1 (g i)) i n ep/\h.get? a=Jp (setO es ep t)) where
 sub:=λb hb=>QK.mpr (.inl (QJ.mp hb))
 frame:=λi h y st k=>#[st.1.at λo e=>k j QD o e,k a (QC _ QD) _ st.2]
 item:=λi s Q E p st q=>ZX (r:=(u[i]?).map λx=>(x,g (i+1))) C st.1 st.2 B K (λ{A W Z} h=>nx i A s W Z (QAs p) st.2 h)
  (λx F y e it m=>by rw[Q9 p]at e;cases e;exact q _ y s.toks (Q9 p) #[it,m a _ G st.2] λb o hb e=>m b o (λz=>hb (QJ.mpr z)) e)
  λe=>by rw[Q9 p]at e;cases e
 done:=λs Q E st q=>ZX (r:=(u[u.9]?).map λx=>(x,g (u.9+1))) C st.1 st.2 B K (λ{A W Z} h=>nx _ A s W Z (QV _) st.2 h)
  (λx F y e=>by rw[qL (QV _)]at e;cases e)
  λ_ y m=>q y s.toks λb o hb e=>m b o (λz=>hb (QJ.mpr z)) e
 self:=λi s Q E st q=>zT st.1 q
theorem IW{p:jy}{r:Obj}{c:Nat}{L:LN}(K:Y.handled=Jr)(F:a≠j)(C:p≠j)(W:t.fits es.size=Js)(Z:n=es.size)(B:r.data=.seq (L.map λi=>j1 (i:Nat)).toArray c)(A:∀m∈L,m<es.size) :
  Walks X l Y j [j,a,p] [j] L.9 (λi v=>∃m e,L[i]?=Jp m/\es[m]?=Jp e/\v=e.2) (λi h=>kM h j a (.ref p) i n ep/\h.get? a=Jp (setO es ep t)/\h.get? p=Jp r) where
 sub:=λb hb=>QK.mpr (.inl (QJ.mp hb))
 frame:=λi h g st k=>#[st.1.at λo e=>k j QD o e,k a (QC _ QD) _ st.2.1,k p (QC _ (QC _ QD)) _ st.2.2]
 item:=λi s Q E G st q=>YX K st.1 st.2.1 W Z st.2.2 B A
  (λm x g e I it y=>q _ g s.toks #[m,x,e,I,rfl] #[it,y a _ F st.2.1,y p _ C st.2.2] λb o hb e=>y b o (λz=>hb (QJ.mpr z)) e)
  λe=>by rw[Q9 G]at e;cases e
 done:=λs Q E st q=>YX K st.1 st.2.1 W Z st.2.2 B A (λm x g e=>by rw[qL (QV _)]at e;cases e)
  λ_ g y=>q g s.toks λb o hb e=>y b o (λz=>hb (QJ.mpr z)) e
 self:=λi s Q E st q=>zT st.1 q
def v3(X:jv)(l:jr)(s:Jq)(j n:jy)(es:List (Int×Ju)):Prop :=
 ∃(h:List jy) (P:Nat->Ju->Prop) (St:Nat->js->Prop),(∀A:ju,A.handled=Jr->Walks X l A j h [j] es.9 P St)/\St 0 s.1/\(∀b∈h,b<s.1.1.size)/\n∉h/\∀w:Array Ju,ItemsOf P w es.9->w.toList.Perm (es.map (·.2))
theorem DZ(k:n=u.9)(h:ItemsOf (λi v=>u[i]?=Jp v) w n):w.toList=u:=by let#[z,b]:=h;have z:w.toList.9=u.length:=z.trans k;refine List.ext_getElem z λi x y=>?_;have this:u[i]?=Jp w[i]:=b i w[i] (Qn x);rw[Q9 y]at this;exact(Qy this).symm
theorem vW{L:LN}(h:ItemsOf (λi v=>∃m e,L[i]?=Jp m/\es[m]?=Jp e/\v=e.2) w L.9):w.toList=L.filterMap λm=>(es[m]?).map (·.2):=by
 let#[b,k]:=h;have x:w.toList.9=L.length:=b;clear b;generalize hv:w.toList=y at x;have z:∀(i:Nat) (v:Ju),y[i]?=Jp v->∃m e,L[i]?=Jp m/\es[m]?=Jp e/\v=e.2:=λi v e=>k i v (by rw[<- hv,QX]at e;exact e);clear hv k;induction y generalizing L with
 |nil=>cases L with|nil=>rfl|cons _ _=>cases x
 |cons v y g=>cases L with|nil=>cases x|cons m L=>let#[q,e,p,o,rfl]:=z 0 v rfl;cases p;rw[wV,o];exact gV _ (g (Nat.succ.inj x) λi v e=>z (i+1) v e)
noncomputable abbrev jR(f:Ju)(a n ep:Nat):Obj:={ cls:=.type "set_iterator",data:=.fields (WZ [f,j1 ((0:Nat):Int),.ref a,j1 n,j1 ep]) }
noncomputable abbrev mM(L:LN):Obj:={ cls:=.type "tuple",data:=.seq (L.map λi=>j1 (i:Nat)).toArray }
theorem LZ{n:jy}(B:sh.1.get? a=Jp (setO es ep t))(K:t.fits es.size=Js)(hz:es.size<=4096)(led:l.params.followText "set-order"=Jt->t.led=Js)(pl:es.size=0∨t.plain=Jt)(na:n≠a)(H:n<sh.1.1.size)
  (k:∀s' j,(∀b o,sh.1.get? b=Jp o->s'.1.get? b=Jp o)->s'.gens=sh.gens->s'.os=sh.os->s'.toks=sh.toks->(∀b o,sh.1.get? b=Jp o->b≠j)->v3 X l s' j n es.toList->Q (.ref j) s'):Jw (jz X l) Y (Vs (.ref a)) Q Er sh:=by
 have ty:sh.TypeIs (.ref a) "set":=#[_,B,rfl]
 have hs:jx=16777216:=qR;have la:=QS B;refine QAj ty QD0 (Q5 QD0 ty F.entry_set_iter ?_ (F.args_set_iter_1 _));unfold Builtin.«frozenset.__iter__» Builtin.Frozenset.slot0 Builtin.Frozenset.sizeOf setDrawn Yu;refine QA (QA (QAJ (a:=(Jv a,[])) rfl (QH ?_)));refine QA (QA (QBF B rfl K (QH ?_)));refine QA (QA (qe B rfl K (QA (QA (Wk (QH (QH ?_)))))));dsimp only;have fin:∀(W:Jq) (f:Ju),W.gens=sh.gens->W.os=sh.os->W.toks=sh.toks->(∀b o,sh.1.get? b=Jp o->W.1.get? b=Jp o)->v3 X l { W with heap:=W.1.push (jR f a es.size ep) } W.1.1.size n es.toList ->
   Jw (jz X l) Y.in1 (do let e <- setEpoch a;let v <- newFields "set_iterator" [f,j1 0,.ref a,j1 es.size,j1 e];ret v) (λfin s'=>∃v,fin=.done (.ret v)/\∃T' r,s'.TypeIs v T'/\typeLookup (.type T') (Qz "__next__")=Gu (Jp r)/\Q v s') Er W:=λW f g1 g2 g3 kp gv=>by
  refine QA (wpAny_setEpoch_of (kp a _ B) rfl K (QA (Qu ?_)));refine QH #[_,rfl,"set_iterator",_,#[_,QO _ rfl,rfl],F.slot_si.lookup,k _ _ (λb o e=>QI _ (kp b o e)) g1 g2 g3 (λb o e=>Qe (QS (kp b o e))) gv]
 have lt1:∀{W:js}{o:Obj},∀b,b<W.1.size->b<(W.push o).1.size:=λ{W o} b h=>by rw[qz];exact qM h
 show Jw _ _ (if(!l.params.followText "set-order" && (!t.plain&&decide (es.size > 1)))=Js then _ else _) _ _ _;by_cases c:(!l.params.followText "set-order" && (!t.plain&&decide (es.size > 1)))=Js;rw[Gw c];refine QA (O0 es.size _ sh qU λL d p=>QA (QCh ?_ (by rw[QG,p.length_eq,qU];omega)));have R:L.9=es.size:=by rw[p.length_eq,qU]
 have hL:∀m∈L,m<es.size:=λm hm=>Q7.mp (p.mem_iff.mp hm);refine fin { sh with drawn:=d,heap:=sh.1.push (mM L) } _ rfl rfl rfl (λb o e=>QI _ e) ?_;have M:∀{b},b<sh.1.1.size->b≠(sh.1.push (mM L)).1.size:=λh=>by rw[qz];exact Qe (qM h)
 have N:=QO (o:=jR (.ref sh.1.1.size) a es.size ep) (sh.1.push (mM L)) rfl;have gP:((sh.1.push (mM L)).push (jR (.ref sh.1.1.size) a es.size ep)).get? sh.1.1.size=Jp (mM L):=QI _ (QO _ rfl);have O:=QI (jR (.ref sh.1.1.size) a es.size ep) (QI (mM L) B);refine#[[(sh.1.push (mM L)).1.size,a,sh.1.1.size],λi v=>∃m e,L[i]?=Jp m/\es[m]?=Jp e/\v=e.2,λi h=>kM h (sh.1.push (mM L)).1.size a (.ref sh.1.1.size) i es.size ep/\h.get? a=Jp (setO es ep t)/\h.get? sh.1.1.size=Jp (mM L),λA hd=>?_,#[#[_,N,rfl,rfl],O,gP],λb hb=>?_,λz=>?_,λw h=>?_];rw[QM,<- R];refine IW hd (M la) (by rw[qz];exact Qe (QAG _)) K R (c:=0) rfl hL;rcases QK.mp hb with z|z
 ·rw[z];exact QS N
 rcases QK.mp z with z|z
 ·rw[z];exact QS O
 rw[QJ.mp z];exact QS gP;rcases QK.mp z with z|z
 ·exact M H z
 rcases QK.mp z with z|z
 ·exact na z
 exact Qe H (QJ.mp z);rw[QM,<- R]at h;rw[vW h];refine(p.filterMap _).trans ?_;rw[<- QC7,filterMap_getElem?_range];rw[Gq c];have M:∀{b},b<sh.1.1.size->b≠sh.1.1.size:=λh=>Qe h;refine fin sh _ rfl rfl rfl (λ_ _ e=>e) ?_;have Z:∀(g:Nat->Nat) (u:LW),g 0=0->u.9=es.size->u.Perm (es.toList.map (·.2))->(∀(i:Nat) (A:ju) (s:Jq) (E:pB) (q:Option (Ju×Nat)->Jq->Prop),i<=u.9->s.1.get? a=Jp (setO es ep t)->q ((u[i]?).map λx=>(x,g (i+1))) s->Jw (jz X l) A (vl a (g i) i ep) q E s) ->
   v3 X l { sh with heap:=sh.1.push (jR (j1 0) a es.size ep) } sh.1.1.size n es.toList:=λg u g0 S po nx=>by
  have N:=QO (o:=jR (j1 0) a es.size ep) sh.1 rfl;have O:=QI (jR (j1 0) a es.size ep) B;refine#[[sh.1.1.size,a],λi v=>u[i]?=Jp v,λi h=>kM h sh.1.1.size a (j1 (g i)) i es.size ep/\h.get? a=Jp (setO es ep t),λA hd=>?_,#[#[_,N,rfl,by rw[g0];rfl],O],λb hb=>?_,λz=>?_,λw h=>?_];rw[QM,<- S];exact jX hd (M la) K S nx;rcases QK.mp hb with z|z
  ·rw[z];exact QS N
  rw[QJ.mp z];exact QS O;rcases QK.mp z with z|z
  ·exact M H z
  exact na (QJ.mp z);rw[DZ (by rw[QM,S]) h];exact po
 cases hb:l.params.followText "set-order" with
 |true =>
  have pp:(yw (l.params.setOrder a ep) es).toList.Perm es.toList:=by have:=rV (l.params.setOrder a ep) es.size 0 es.toList #[] (QM ..);exact this
  refine Z (λ_=>0) ((yw (l.params.setOrder a ep) es).toList.map (·.2)) rfl ?_ (pp.map _) λi A s E q G e J=>CV hb e K ?_;rw[QG,pp.length_eq,QM];rw[Qg,QX,Option.map_map]at J;exact J
 |false =>
  have sz:es.size<=1:=by rw[hb]at c;rcases pl with z|z;omega;rw[z]at c;simp at c;omega
  have C:t.place.size=es.size:=by unfold SetTable.fits at K;simp only[Qf,beq_iff_eq]at K;exact K.1
  refine Z (λi=>if i=0 then 0 else t.place.getD 0 0+1) (es.toList.map (·.2)) rfl (by rw[QG,QM]) (QAD _) λi A s E q G e J=>uZ hb e K sz (led hb) ?_;have q1:(match es[Qw t.place (if i=0 then 0 else t.place.getD 0 0+1)]?,t.place[Qw t.place (if i=0 then 0 else t.place.getD 0 0+1)]? with|some (_,x),Jp j=>Jp (x,j+1)|_,_=>Jr)=((es.toList.map (·.2))[i]?).map λx=>(x,if i+1=0 then 0 else t.place.getD 0 0+1):=by
   rw[QG,QM]at G;rw[Qg,QX];generalize t.place=P at C ⊢;let#[P]:=P;let#[I]:=es;have C:P.9=I.length:=C;have sz:I.9<=1:=sz;have G:i<=I.length:=G;have cs:(I=[]/\P=[])∨∃h x p,I=[(h,x)]/\P=[p]:=by
    cases I with|nil=>exact .inl #[rfl,qt.mp C]|cons y r=>rw[QL]at sz C;obtain rfl:r=[]:=qt.mp ();let#[p,hp]:=QCD.mp C;exact .inr #[y.1,y.2,p,rfl,hp]
   rcases cs with⟨rfl,rfl⟩| ⟨h,x,p,rfl,rfl⟩
   obtain rfl:i=0:=Nat.le_zero.mp G;rfl;rcases Nat.le_one_iff_eq_zero_or_eq_one.mp G with rfl|rfl
   ·rfl
   have:Qw (WZ [p]) (p+1)=1:=by unfold Qw;show WW (WZ [p]) (p+1) 1 0 1=1;unfold WW;rw[Gw (by decide)];show(if p<p+1 then _ else _)=1;rw[Gw (QAG p)];rfl
   show(match ((WZ [(h,x)]):Array (Int×Ju))[Qw (WZ [p]) (p+1)]?,((WZ [p]):Array Nat)[Qw (WZ [p]) (p+1)]? with|some (_,x),Jp j=>Jp (x,j+1)|_,_=>Jr)=Jr;rw[this];rfl
  rw[<- q1]at J;exact J
end
end
section
noncomputable abbrev nL:Obj:={ cls:=.type "list",data:=.seq #[] }
variable{f:jv}{d:jr}{u:ju}{Er:pB}{sh:Jq}{a:jy}
theorem SS:∀{vs:LW},(∀v∈vs,∃t,v=.str (bT v) t)->zx vs (vs.map bT)
 |[],_=>.nil|v::vs,h=>by let#[t,e]:=h v QD;have r:=SS (vs:=vs) λw x=>h w (QC _ x);have:=StrsAre.cons (bT v) t r;rw[<- e]at this;exact this
theorem kQ{p:LS}{Q:LW->Jq->Prop}(hd:u.handled=Jr)(S:VH f d sh.1 a (!d.params.followText "set-order") p)(bd:p.9<=4000)
  (k:∀s' vs K,zx vs K->K.Perm p->(∀b o,sh.1.get? b=Jp o->s'.1.get? b=Jp o)->s'.gens=sh.gens->s'.os=sh.os->sh.1.1.size<s'.1.1.size->Q vs s'):Jw (jz f d) u (xq (.ref a)) Q Er sh:=by
 let#[q,ep,t,O,el,M,nd,hf,hb,hp]:=S;have sz:q.size=p.length:=by rw[<- M,QG,QM]
 have hs:jx=16777216:=qR;have I:=QS O;generalize hn:sh.1.1.size=n at I;have E:n≠a:=wQ I;unfold xq;refine QA (QBZ (qh QCT ?_));rw[qQ QCU _];refine QA (m:=y4 []) (Qu ?_);rw[hn];refine QH #[WG QAm _,qh QDQ ?_];rw[qQ QAm _];show Jw _ u.in1 (wz (.ref n) (.ref a) (.ref n)) _ _ _;have L:(sh.1.push nL).get? n=Jp nL:=hn▸QO _ rfl;have Z:(sh.1.push nL).get? a=Jp (setO q ep t):=QI _ O;have ns:QBn (.ref n) (.ref a)=false:=beq_eq_false_iff_ne.mpr E;unfold wz QBG;refine QA (Wt (T:="set") #[_,Z,rfl] ?_);rw[Gq (by simp only[ns];decide)];refine QA (LZ (sh:={ sh with heap:=sh.1.push nL }) (n:=n) Z hf () (λh=>by rw[hb,h];rfl) hp E (QS L) λi j Y g1 g2 g3 nj gv=>?_);have ty:i.TypeIs (.ref a) "set":=#[_,Y a _ Z,rfl]
 refine QA (qG (QA (QBE ty F.slot_set_len.lookup ?_)));generalize hx:("set.__len__":String)=x
 wp_delta
 rw[show splitId x=Jp ("set","__len__") by rw[<- hx];decide +kernel];subst hx;refine QA (Wh (b:=Js) ty (by rw[QBa];kernel_rfl) ?_);show Jw _ _ (y3 (.ref a) >>= _) _ _ _;refine QA (Wt ty (QH ?_));rw[Gw (by decide)];have A:=Y n _ L;refine QA (QBA (QA ?_));show Jw _ u.in1 (xp n (·.push .none) >>= λ_=>xp n (·.pop)) _ _ _;refine QA (QBH A rfl ?_);have g:=Q0 (qS (·.push Jz)) A rfl;refine QBH (hz:=by seq_fits) g rfl ?_;have s:=Q0 (qS (·.pop)) g rfl;have l:∀b o,b≠n->i.1.get? b=Jp o->((i.1.update n (qS (·.push Jz))).update n (qS (·.pop))).get? b=Jp o:=λb o z e=>by rw[qA _ _ (qB z),qA _ _ (qB z)];exact e
 let#[fp,P,St,W,r,lt,C,fin]:=gv;have R:=(W u.in1 hd).toS;have lz:q.toList.9=q.size:=QM ..;refine QH #[WG QCr _,QCb R () _ C _ _ 0 _ _ _ rfl (Q3 _) (R.frame 0 i _ i.toks r (QV _) λb hb o e=>l b o (λz=>C (z▸hb)) e) s (ItemsOf.nil P) λs' w c X J it=>?_];refine QA (m:=load n) (QD4 J (QH ?_));have B:=fin w it;have q1:=X.gens;have H:=X.os;refine k s' w.toList (w.toList.map bT) (SS λv hv=>?_) ?_ (λb o e=>?_) (q1.trans g1) (H.trans g2) (hn▸QS J);let#[e,he,rfl]:=QY.mp (B.mem_iff.mp hv);exact N0 el he;have:=B.map bT;rw[Qi]at this;rw[<- M];exact this;have N:(sh.1.push nL).get? b=Jp o:=QI _ e;have G:b<n:=hn▸QS e;exact X.1 b o (λm=>(QK.mp m).elim (Qe G) λy=>nj b o N (QJ.mp y)) (l b o (Qe G) (Y b o N))
end
variable{Pv:Ju->Prop}
section
variable{f:jv}{d:jr}{u:ju}{Er:pB}{sh:Jq}{a:jy}
theorem BN{es:Array (Int×Ju)}{ep:Nat}{t:jt}{Q:LW->Jq->Prop}(H:u.handled=Jr)(G:sh.1.get? a=Jp (setO es ep t))(S:t.fits es.size=Js)(hb:t.led=!d.params.followText "set-order")(R:es.size=0∨t.plain=Jt)(sz:es.size<=4000)
  (k:∀s' vs,vs.Perm (es.toList.map (·.2))->(∀b o,sh.1.get? b=Jp o->s'.1.get? b=Jp o)->s'.gens=sh.gens->s'.os=sh.os->sh.1.1.size<s'.1.1.size->Q vs s'):Jw (jz f d) u (xq (.ref a)) Q Er sh:=by
 have hs:jx=16777216:=qR;have A:=QS G;generalize hn:sh.1.1.size=n at A;have Z:n≠a:=wQ A;unfold xq;refine QA (QBZ (qh QCT ?_));rw[qQ QCU _];refine QA (m:=y4 []) (Qu ?_);rw[hn];refine QH #[WG QAm _,qh QDQ ?_];rw[qQ QAm _];show Jw _ u.in1 (wz (.ref n) (.ref a) (.ref n)) _ _ _;have C:(sh.1.push nL).get? n=Jp nL:=hn▸QO _ rfl;have s:(sh.1.push nL).get? a=Jp (setO es ep t):=QI _ G;have N:QBn (.ref n) (.ref a)=false:=beq_eq_false_iff_ne.mpr Z;unfold wz QBG;refine QA (Wt (T:="set") #[_,s,rfl] ?_);rw[Gq (by simp only[N];decide)];refine QA (LZ (sh:={ sh with heap:=sh.1.push nL }) (n:=n) s S () (λh=>by rw[hb,h];rfl) R Z (QS C) λw j r g1 g2 g3 O gv=>?_);have ty:w.TypeIs (.ref a) "set":=#[_,r a _ s,rfl]
 refine QA (qG (QA (QBE ty F.slot_set_len.lookup ?_)));generalize hx:("set.__len__":String)=x
 wp_delta
 rw[show splitId x=Jp ("set","__len__") by rw[<- hx];decide +kernel];subst hx;refine QA (Wh (b:=Js) ty (by rw[QBa];kernel_rfl) ?_);show Jw _ _ (y3 (.ref a) >>= _) _ _ _;refine QA (Wt ty (QH ?_));rw[Gw (by decide)];have X:=r n _ C;refine QA (QBA (QA ?_));show Jw _ u.in1 (xp n (·.push .none) >>= λ_=>xp n (·.pop)) _ _ _;refine QA (QBH X rfl ?_);have v:=Q0 (qS (·.push Jz)) X rfl;refine QBH (hz:=by seq_fits) v rfl ?_;have p:=Q0 (qS (·.pop)) v rfl;have g:∀b o,b≠n->w.1.get? b=Jp o->((w.1.update n (qS (·.push Jz))).update n (qS (·.pop))).get? b=Jp o:=λb o z e=>by rw[qA _ _ (qB z),qA _ _ (qB z)];exact e
 let#[fp,P,St,W,l,lt,Y,fin]:=gv;have I:=(W u.in1 H).toS;have lz:es.toList.9=es.size:=QM ..;refine QH #[WG QCr _,QCb I () _ Y _ _ 0 _ _ _ rfl (Q3 _) (I.frame 0 w _ w.toks l (QV _) λb hb o e=>g b o (λz=>Y (z▸hb)) e) p (ItemsOf.nil P) λs' i c q B it=>?_];refine QA (m:=load n) (QD4 B (QH ?_));have M:=fin i it;have L:=q.gens;have J:=q.os;refine k s' i.toList M (λb o e=>?_) (L.trans g1) (J.trans g2) (hn▸QS B);have E:(sh.1.push nL).get? b=Jp o:=QI _ e;have K:b<n:=hn▸QS e;exact q.1 b o (λm=>(QK.mp m).elim (Qe K) λy=>O b o E (QJ.mp y)) (g b o (Qe K) (r b o E))
theorem fY{h:js}{w:jr}:∀{l:List (Int×Ju)}{ks:List NK},Kx (Ek Pv w h) l ks->Kx (λv k=>KG h k v) (l.map (·.2)) ks
 |_,_,.nil=>.nil|_,_,.cons r t=>.cons r.1 (fY t)
theorem n8{h:js}{w:jr}:∀{l:List (Int×Ju)}{ks:List NK},Kx (Ek Pv w h) l ks->∀v∈l.map (·.2),Pv v
 |_,_,.nil,_,m=>nomatch m
 |_,_,.cons r t,v,m=>(QK.mp m).elim (λe=>e▸r.2.2.2.2) (n8 t v)
theorem JR{h:js}:∀{vs:LW}{ks:List NK},Kx (λv k=>KG h k v) vs ks->NKvs h ks vs
 |_,_,.nil=>rfl|_,_,.cons r t=>#[_,_,rfl,r,JR t]
theorem vQ{ks:List NK}{Q:LW->Jq->Prop}(i:u.handled=Jr)(S:UQ Pv d sh.1 a (!d.params.followText "set-order") ks)(Z:ks.9<=4000)
  (k:∀s' vs h,NKvs s'.1 h vs->(∀v∈vs,Pv v)->h.Perm ks->h.Nodup->(∀b o,sh.1.get? b=Jp o->s'.1.get? b=Jp o)->s'.gens=sh.gens->s'.os=sh.os->sh.1.1.size<s'.1.1.size->Q vs s'):Jw (jz f d) u (xq (.ref a)) Q Er sh:=by
 let#[q,Y,t,s,x,_,g,w,_,_,nd]:=S;have X:q.size=ks.length:=by rw[<- QM];exact x.e.9
 refine BN i s (HI x.t) g w () λs' vs p z n m l=>?_;let#[h,y,j]:=NI p (fY x.e);exact k s' vs h (nks_keeps (λ_ _ #[o,e,r]=>#[o,z _ _ e,r]) (JR j)) (λv hv=>n8 x.e v (p.mem_iff.mp hv)) y (y.nodup_iff.mpr nd) z n m l
end
end L2.L3
namespace L2.L3
open PySem PySem.Spec PyProof.Rows
section
variable{x:jv}{h:jr}{y:ju}{Er:pB}{sh:Jq}{a:jy}
theorem EQ{u:LS}{Q:pB}(W:y.handled=Jr)(S:VH x h sh.1 a (!h.params.followText "set-order") u)(K:u.9<64)
  (k:∀s' l out v e,zx out v->v.Perm u->zy v=Js->s'.1.get? l=Jp (Zw "list" out.toArray e)->sh.1.1.size<=l->(∀b o,sh.1.get? b=Jp o->s'.1.get? b=Jp o)->s'.gens=sh.gens->s'.os=sh.os->Q (.ref l) s') :
  Jw (jz x h) y (vt (.builtin "sorted") [.ref a]) Q Er sh:=by
 refine QAC QDy QDY QDZ (QDa _) ?_;unfold Builtin.«sorted»;refine QA (m:=Yr "sorted" 1 1 _) (QH (QA (kQ W S () λi f v w r X G F ls=>?_)));have I:f.9=u.length:=(tM w).1.trans r.length_eq;refine QA (QBw ?_ ());have j:(i.1.push (Zw "list" f.toArray 0)).get? i.1.1.size=Jp (Zw "list" f.toArray 0):=QO _ rfl;refine QA (qG (Q5 QCi #[_,j,rfl] QCN ?body (QCj _)));refine list_sort_treeK strKind_oneLt j w.keysOf (λp n q e=>keyKind_strs (by rw[<- e];exact w)) () λz Z hs=>?_;let#[g,C,B,A]:=sorted_out_str w Z hs;let#[e,E]:=Gp (out:=(arrOf z).map (·.2)) j;refine#[_,rfl,QH #[_,rfl,k _ i.1.1.size ((arrOf z).map (·.2)).toList g e C (B.trans r) A (by rw[Array.toArray_toList];exact E) (QAs ls) (λb o Y=>?_) G F]];have s:=QS (X b o Y);rw[Gy (Qe s) (by rw[QD9];exact qM s)];exact QI _ (X b o Y)
end
def yY(K:QE)(x:V)(H:Hp)(Q:VK):Prop:=∃p,∃y:LS,x=.ref p/\uC K H p (y.map V.str)/\y.9<4000/\∀h:LS,h.Nodup->(∀s,s∈h↔s∈y)->Q (.int h.9) H
def Bg(K:QE)(x:V)(H:Hp)(Q:VK):Prop:=∃p,∃y:LS,x=.ref p/\uC K H p (y.map V.str)/\y.9<64/\∀(l:jy) (h:LS),H l=Jr->h.Nodup->(∀s,s∈h↔s∈y)->zy h=Js->Q (.ref l) (KA H l (.lst (h.map V.str)))
theorem _root_.L2.Inv.anyd{X:Cx}{h:GB}{σ:St}{H:Hp}{s:Jq}{d':Drawn}(I:Inv X h σ H s):Inv X h σ H { s with drawn:=d' }:=#[I.ok,I.os,I.bare,I.base,I.loc,I.cell,I.free,I.freeC,I.pin,I.hok,I.len]
theorem AS:∀{x:LS}{its:LW},uA (x.map V.str) its->zx its x
 |[],[],_=>.nil|y::x,u::its,h=>by
  rw[QT]at h;cases h with|cons h t=>let#[k,rfl]:=h;exact .cons _ _ (AS t)
 |_::_,[],h=>by cases h|[],_::_,h=>by cases h
theorem Rf{ss:LS}{its:LW}(h:zx its ss):uA (ss.map V.str) its:=by
 induction h with|nil=>exact .nil|cons y t _ x=>exact .cons #[t,rfl] x
section
variable{X:Cx}{a:Expr}{ta:TE}{p2 y:Pos}
theorem db{v:GB}{s:Jq}{σ:St}{H:Hp}{o:LW->Jq->Prop}{R:V->Hp->Prop}(hc:X.calm=Js)(F:Gl X "set")(B:X.mg "set"=Jr)(ha:PE X a ta)(st:jw [a] X.env=(Jt,kx a X.env)::jw [] X.env)(I:Inv X v σ H s)(h:ta σ H R)
  (k:∀x b f,R x b->Inv X v σ b f->∃p,∃ss:LS,x=.ref p/\uC X.K b p (ss.map V.str)/\ss.9<4000/\∀i e,Inv X v σ b i->VH X.prog X.w i.1 f.1.1.size (!X.w.params.followText "set-order") e->(∀z,z∈e↔z∈ss)->e.9<=ss.9->o [.ref f.1.1.size] i) (pos:Pos) :
  Jw (jz X.prog X.w) X.A (v1 (Vv pos (jw [.Call (.Name "set" p2) [a] [] y] X.env))) o X.xe s:=by
 show Jw _ _ (v1 ((Jt,kx (.Call (.Name "set" p2) [a] [] y) X.env)::[])) _ _ s;refine Wp (wL (rE I F B QCV (wM ?_ st rfl)));rw[st];show Jw _ _ (v1 ((Jt,kx a X.env)::[])) _ _ s;refine Wp (DB (ha v s σ H _ I h) λu f #[x,b,g,Z,r]=>WO ?_);let#[p,ss,rfl,E,lt,q]:=k x b f r g;cases Z;let#[j,n,W,G]:=g.list E;have hl:ss.9=j.length:=by rw[<- n.9,QG]
 refine kG (g.ok.hd hc) W.isList (by simpa using AS n) (by rw[QU];omega) λJ Y e S m l C=>WO (q _ e (g.kept (t':=Y) C) S m (by rw[QU]at l;omega))
theorem t5{k pos:Pos}(hc:X.calm=Js)(n:Gl X "len")(j:Gl X "set")(f:X.mg "len"=Jr)(b:X.mg "set"=Jr)(ha:PE X a ta)(st:jw [a] X.env=(Jt,kx a X.env)::jw [] X.env) :
  PE X (.Call (.Name "len" k) [.Call (.Name "set" p2) [a] [] y] [] pos) λσ H Q=>ta σ H λx u=>yY X.K x u Q:=by
 intro v s σ H Q I h;refine wL (rE I n f PySem.boot_len (WY (db hc j b ha st I h (λx u A #[p,w,e,g,lt,q] F=>#[p,w,e,g,lt,λW z Z S m l=>?_]) pos) rfl rfl));let#[r,C,t,Y,E,o,nd,i,hb,B]:=S;have sz:r.size=z.length:=by rw[<- o,QG,QM]
 refine call_len_set Y #[rfl,rfl,rfl] rfl i () #[.int z.9,u,Z.tok _,#[_,by rw[sz]],q z nd m]
end
open PySem.W PySem.SeqAt
def kS(r:LS):NK:=.t (r.map NK.s)
def uS:NK->Str
 | .s x=>x|_=>#[#[]]
def uK:NK->LS
 | .t h=>h.map uS|_=>[]
theorem BG(r:LS):uK (kS r)=r:=by show(r.map NK.s).map uS=r;rw[Qi];exact(qX λ_ _=>rfl).trans (QAK _)
theorem kZ:∀l:LS,nkds (l.map NK.s)=0
 |[]=>rfl|x::l=>by show max 0 (nkds (l.map NK.s))=0;rw[kZ l];rfl
theorem sM{h:js}:∀{ss:LS}{vs:LW},NKvs h (ss.map NK.s) vs->zx vs ss
 |[],vs,e=>by cases(show vs=[] from e);exact .nil|x::ss,vs,#[v,r,e,#[t,p],q]=>by subst e p;exact .cons _ _ (sM q)
theorem d6{h:js}{vs:LW}{ss:LS}(st:zx vs ss):NKvs h (ss.map NK.s) vs:=by
 induction st with|nil=>exact rfl|cons x t _ y=>exact#[_,_,rfl,#[t,rfl],y]
theorem l8{h:js}:∀{ks:List NK}{vs:LW},NKvs h ks vs->Kx (λv k=>KG h k v) vs ks
 |[],vs,e=>by cases(show vs=[] from e);exact .nil|_::_,_,#[_,_,e,p,q]=>by subst e;exact .cons p (l8 q)
section
variable{prog:jv}{w:jr}{A:ju}{E:pB}{s:Jq}
theorem HX{Q:Bool->Jq->Prop}{fin:Bool}(q:∀b,Q b s):∀{vs us:LW}{a b:LS}{i:Nat},zx vs a->zx us b->KatLex prog w A Js fin Q (vs.zip us) i s
 |_,_,_,_,_,.nil,_=>kat_nil (q _)|_,_,_,_,_,.cons _ _ _,.nil=>kat_nil (q _)|_,_,_,_,i,.cons x t r1,.cons y u r2=>by
  refine kat_cons (EqAt.str_str x t y u prog w _ _ ?_);cases(x==y) with
  |true=>exact kat_yes (HX q r1 r2)|false =>
   refine kat_no ?_;cases(Js&&i==0) with
   |false=>exact kat_one _ _ (PySem.P.lt_str (q _))|true=>exact oneLt_str (q _)
theorem Xg{v u:Ju}{a b:LS}{Q:Bool->Jq->Prop}(hv:KG s.1 (kS a) v)(y:KG s.1 (kS b) u)(q:∀b,Q b s):Jw (jz prog w) A (keyLt' (tuples' Js) v u) Q E s:=by let#[p,x,rfl,#[o,e,c,n,d],k]:=hv;let#[i,h,rfl,#[j,f,m,l,g],z]:=y;exact kat_lt e d f g (HX q (sM k) (sM z))
theorem cT{h:js}:∀{u:List (LS)}{vs:LW},NKvs h (u.map kS) vs->(∀r∈u,r≠[])->∃fs,KatTups h vs fs/\fs.9=vs.9/\∀f∈fs,∃x t,f=.str x t
 |[],vs,e,_=>by cases(show vs=[] from e);exact#[[],.nil,rfl,λ_ z=>(nomatch z)]
 |r::u,_,#[v,l,e,#[a,its,e2,#[o,g,c,n,d],p],q],hn=>by
  subst e e2;let#[fs,i,b,k]:=cT q λr m=>hn r (QC _ m);cases r with|nil=>exact gJ rfl (hn [] QD)|cons x r=>let#[f,Z,Y,#[t,X],_]:=p;subst X;refine#[.str x t::fs,.cons g c d (by rw[<- QX,Y];rfl) i,gV (·+1) b,λy j=>?_];rcases QK.mp j with rfl|z;exact#[x,t,rfl];exact k y z
theorem L4{vs:LW}{h:List (LS)}{Q:zt->Jq->Prop}(u:NKvs s.1 (h.map kS) vs)(k:∀r∈h,r≠[])(b:2<=vs.9)(q:Q (tuples' Js) s):Jw (jz prog w) A (Gx vs.toArray) Q E s:=by let#[fs,z,a,y]:=cT u k;exact kat_kind (T:=.type "str") z () (λv hv=>by let#[x,t,rfl]:=y v hv;exact .of_pure rfl) (by decide) q
end
section
variable{Pv:Ju->Prop}{u:jv}{x:jr}{z:ju}{Er:pB}{sh:Jq}{a:jy}
theorem JO{W:List (LS)}{Q:pB}(hd:z.handled=Jr)(S:UQ Pv x sh.1 a (!x.params.followText "set-order") (W.map kS))(h64:W.9<64)(hn:∀r∈W,r≠[])
  (k:∀s' l out (Z:List (LS)) e,NKvs s'.1 (Z.map kS) out->(∀v∈out,Pv v)->Z.Perm W->Z.Nodup->s'.1.get? l=Jp (Zw "list" out.toArray e)->sh.1.1.size<=l->(∀b o,sh.1.get? b=Jp o->s'.1.get? b=Jp o)->s'.gens=sh.gens->s'.os=sh.os->Q (.ref l) s') :
  Jw (jz u x) z (vt (.builtin "sorted") [.ref a]) Q Er sh:=by
 refine QAC QDy QDY QDZ (QDa _) ?_;unfold Builtin.«sorted»;refine QA (m:=Yr "sorted" 1 1 _) (QH (QA (vQ hd S (by rw[QG];omega) λw f X B pv H nd kp g1 g2 ls=>?_)));have e0:(X.map uK).map kS=X:=by rw[Qi];refine(qX λy M=>?_).trans (QAK _);let#[r,_,rfl]:=QY.mp (H.mem_iff.mp M);show kS (uK (kS r))=kS r;rw[BG]
 have E:(X.map uK).Perm W:=by have:=H.map uK;rw[Qi]at this;exact this.trans (by rw[show W.map (uK∘kS)=W from(qX λr _=>BG r).trans (QAK _)])
 generalize X.map uK=Z at e0 E;subst e0;have nd:Z.Nodup:=QA2 kS (λa b h e=>h (gV kS e)) nd;have lv:f.9=W.length:=by rw[bH B,QG,E.length_eq]
 refine QA (QBw ?_ ());have P:(w.1.push (Zw "list" f.toArray 0)).get? w.1.1.size=Jp (Zw "list" f.toArray 0):=QO _ rfl;refine QA (qG (Q5 QCi #[_,P,rfl] QCN ?body (QCj _)));have J:∀g:js,(∀b o,b≠w.1.1.size->(w.1.push (Zw "list" f.toArray 0)).get? b=Jp o->g.get? b=Jp o)->∀b Y,w.1.IsTuple b Y->g.IsTuple b Y:=λg K b Y #[o,e,r]=>#[o,K b o (Qe (QS e)) (QI _ e),r]
 have gm:∀i,i<f.9->∃r,KG w.1 (kS r) (f.getD i Jz):=λi O=>by let#[k,hk,hv]:=YR B i (f.getD i Jz) (by simp[O]);let#[r,_,rfl]:=QY.mp (Qq hk);exact#[r,hv]
 refine tZ (s:={ w with heap:=w.1.push (Zw "list" f.toArray 0) }) (κ:=tuples' Js) (R:=λ_=>True) P () (λG g K Q q=>L4 (s:={ w with heap:=g }) (nks_keeps (J g K) B) (λr hr=>hn r (E.mem_iff.mp hr)) G q) (λG g K=>?_) (λ_=>trivial) λp N _=>?_;refine XC.wp (λi j O hj C hC=>?_) (λp N=>#[rfl,N,trivial]) (sQ (n:=f.9) ());let#[r1,q1]:=gm i O;let#[r2,q2]:=gm j hj;exact Xg (s:={ w with heap:=g }) (ID (J g K) q1) (ID (J g K) q2) hC;have L:=ZT N;generalize (p.toList.map λi=>f.getD i Jz)=out at L;let#[e,ge]:=Gp (out:=out.toArray) P;let#[F,p2,G]:=NI L (l8 B);have A:∀b o,w.1.get? b=Jp o->(sortedHeap (w.1.push (Zw "list" f.toArray 0)) w.1.1.size f out.toArray).get? b=Jp o:=λb o I=>by have lb:=QS I;rw[Gy (Qe lb) (by rw[QD9];exact qM lb)];exact QI _ I
 have e1:(F.map uK).map kS=F:=by rw[Qi];refine(qX λy M=>?_).trans (QAK _);let#[r,_,rfl]:=QY.mp (p2.mem_iff.mp M);show kS (uK (kS r))=kS r;rw[BG]
 have p3:(F.map uK).Perm Z:=by have:=p2.map uK;rw[Qi]at this;exact this.trans (by rw[show Z.map (uK∘kS)=Z from(qX λr _=>BG r).trans (QAK _)])
 refine#[_,rfl,QH #[_,rfl,k _ w.1.1.size out (F.map uK) e ?_ (λv hv=>pv v (L.mem_iff.mp hv)) (p3.trans E) (p3.nodup_iff.mpr nd) ge (QAs ls) (λb o I=>A b o (kp b o I)) g1 g2]];rw[e1];exact nks_keeps (λb Y #[o,e,r]=>#[o,A b o e,r]) (JR G)
end
def Bo(K:QE)(H:Hp)(x:V)(r:LS):Prop:=∃b,x=.ref b/\HC K H b (r.map V.str)
def Cg(K:QE)(x:V)(H:Hp)(Q:VK):Prop:=∃(R:V->LS->Prop) (p:jy) (v:LV) (y:List (LS)),(x=.ref p/\uC K H p v/\Kx R v y/\∀x r,R x r->Bo K H x r)/\y.9<306/\(∀r∈y,r≠[]) /\
 ∀h:List (LS),h.Nodup->(∀z,z∈h↔z∈y)->h.9<64/\∀l u,H l=Jr->Kx R u h->Q (.ref l) (KA H l (.lst u))
def uR(K:QE)(x:V)(H:Hp)(Q:VK):Prop:=Bg K x H Q∨Cg K x H Q
theorem ET{h:js}{R:V->LS->Prop}:∀{xs:LV}{y:List (LS)}{its:LW},Kx R xs y->uA xs its->(∀x r u,R x r->lA x u->KG h (kS r) u)->NKvs h (y.map kS) its/\∀v∈its,∃x r,R x r/\lA x v
 |_,_,_,.nil,.nil,_=>#[rfl,λ_ z=>nomatch z]
 |_,_,_,.cons a t,.cons b u,k=>by let#[e,w]:=ET t u k;refine#[#[_,_,rfl,k _ _ _ a b,e],λv hv=>?_];rcases QK.mp hv with rfl|z;exact#[_,_,a,b];exact w v z
theorem fL{h:js}{R:V->LS->Prop}{its:LW}(k:∀v∈its,∃x r,R x r/\lA x v/\KG h (kS r) v):∀{u:List (LS)}{out:LW},NKvs h (u.map kS) out->(∀v∈out,v∈its)->∃z,Kx R z u/\uA z out
 |[],out,e,_=>by cases(show out=[] from e);exact#[[],.nil,.nil]|y::u,_,#[v,l,e,p,q],m=>by subst e;let#[z,a,b]:=fL k q λv hv=>m v (QC _ hv);let#[x,r,c,d,f]:=k v (m v QD);have e:=gV uK (kN f p);rw[BG,BG]at e;exact#[x::z,.cons (e▸c) a,.cons d b]
section
variable{X:Cx}{a:Expr}{ta:TE}{p2 d:Pos}
theorem nY{p1 pos:Pos}(hu:X.A.units+66<Ks)(hc:X.calm=Js)(g1:Gl X "sorted")(g2:Gl X "set")(m1:X.mg "sorted"=Jr)(m2:X.mg "set"=Jr)(ha:PE X a ta)(st:jw [a] X.env=(Jt,kx a X.env)::jw [] X.env) :
  PE X (.Call (.Name "sorted" p1) [.Call (.Name "set" p2) [a] [] d] [] pos) λσ H Q=>ta σ H λx W=>uR X.K x W Q:=by
 intro g s σ H Q I h;refine wL (rE I g1 m1 QBo (WY ?_ rfl rfl));show Jw _ _ (v1 ((Jt,kx (.Call (.Name "set" p2) [a] [] d) X.env)::[])) _ _ s;refine Wp (wL (rE I g2 m2 QCV (wM ?_ st rfl)));rw[st];show Jw _ _ (v1 ((Jt,kx a X.env)::[])) _ _ s;refine Wp (DB (ha g s σ H _ I h) λu L #[x,W,n,rx,r]=>WO ?_);rcases r with⟨p,ss,rfl,hq,lt,q⟩| ⟨R,p,xs,rs,⟨rfl,hq,pr,hR⟩,lt,hn,q⟩
 cases rx;let#[f,C,pl,hz']:=n.list hq;have hl:ss.9=f.length:=by rw[<- C.9,QG]
 refine kG (n.ok.hd hc) pl.isList (by simpa using AS C) (by rw[QU];omega) λh' i J S m l Z=>WO ?_;have j:Inv X g σ W { L with heap:=h',toks:=i }:=n.kept (t':=i) Z;have nd:=S;let#[_,_,_,_,_,_,nd,_]:=nd;rw[QU]at l;refine EQ (j.ok.hd hc) S () λs' l out B e sv Y so ge le Z g1 g2=>?_;let#[h',gs,dr,i,oo]:=s';cases g1;cases g2;have lo:=(tM sv).1;have lp:=Y.length_eq;exact#[.ref l,KA W l (.lst (B.map V.str)),(j.laid (t':=i) (h':=h') Z le (show ZA X.prog X.w _ h' _ (.lst (B.map V.str)) from#[by rw[QG];omega,out,e,Rf sv,ge])).anyd,rfl,q l B (j.hok.fresh le) (Y.nodup_iff.mpr nd) (λz=>(Y.mem_iff).trans (m z)) so];cases rx;let#[f,C,pl,hz']:=n.list hq;have hl:rs.9=f.length:=by rw[<- C.9,pr.length]
 have F:∀x r u,R x r->lA x u->KG L.1 (kS r) u:=λx r u a b=>by let#[c,rfl,sq]:=hR x r a;cases b;let#[G,rv2,it,_]:=n.tuple sq;exact#[c,G.toArray,rfl,it,by simpa using d6 (AS rv2)]
 let#[nk,mem]:=ET pr C F;refine HN (Pv:=λv=>v∈f) (ss:=rs.map kS) (n.ok.hd hc) pl.isList (by simpa using nk) (λk hk=>?_) () (by rw[QU];omega) (λv hv=>by simpa using hv) λh' i J S m l Z=>WO ?_;let#[r,hr,rfl]:=QY.mp hk;refine#[by show nkds (r.map NK.s)+1<=6;rw[kZ];omega,?_];cases r with|nil=>exact gJ rfl (hn [] hr)|cons x r=>exact#[x,r.map NK.s,rfl]
 have j:Inv X g σ W { L with heap:=h',toks:=i }:=n.kept (t':=i) Z;have e0:(J.map uK).map kS=J:=by rw[Qi];refine(qX λy hy=>?_).trans (QAK _);let#[r,_,rfl]:=QY.mp ((m y).mp hy);show kS (uK (kS r))=kS r;rw[BG]
 generalize J.map uK=ws at e0;subst e0;have nd:=S;let#[_,_,_,_,_,_,_,_,_,_,nd]:=nd;have nd:ws.Nodup:=QA2 kS (λa b h e=>h (gV kS e)) nd;have M:∀z,z∈ws↔z∈rs:=λz=>by
  have:=m (kS z);have ij:∀{l:List (LS)},kS z∈l.map kS↔z∈l:=λ{l}=>#[λh=>by let#[y,hy,e]:=QY.mp h;have e:=gV uK e;rw[BG,BG]at e;exact e▸hy,λh=>wE h]
  rwa [ij,ij]at this
 refine JO (j.ok.hd hc) S (q ws nd M).1 (λr hr=>hn r ((M r).mp hr)) λs' l out B e nv pv Y nd2 ge le E gg1 gg2=>?_;let#[N,gs,dr,P,oo]:=s';cases gg1;cases gg2;have kt:∀b f,L.1.IsTuple b f->N.IsTuple b f:=λb f #[o,e,r]=>#[o,E b o (Z b o e),r]
 let#[O,py,vy]:=fL (h:=N) (λv hv=>by let#[x,r,a,b]:=mem v hv;exact#[x,r,a,b,ID kt (F x r v a b)]) nv pv;have l1:=(q ws nd M).1;have l2:=Y.length_eq;have l3:=py.9;exact#[.ref l,KA W l (.lst O),(j.laid (t':=P) (h':=N) E le (show ZA X.prog X.w _ N _ (.lst O) from#[(),out,e,vy,ge])).anyd,rfl,(q B nd2 λz=>Y.mem_iff.trans (M z)).2 l O (j.hok.fresh le) py]
end
inductive Bi where
 |len|any|all|list|sorted|tuple|max
 deriving DecidableEq
inductive Mt where
 |append|pop|join|setd|reverse
 deriving DecidableEq
inductive ItK where
 |val|rng1|enum|itm
 deriving DecidableEq
inductive Tg where
 |nm (i:Nat)|tp (is:LN)
 deriving DecidableEq
set_option genSizeOf false in
set_option genInjectivity false in
inductive PX where
 |kw (i:Nat)|int (i:Int)|str (x:Str)|bl (b:Bool)|non
 |glo (x:Str)|bty (x:Str) (n:String)
 |bin (op:kv) (a b:PX)
 |cmp (op:Vr) (a b:PX)|neg (a:PX)
 |and (a b:PX)|or (a b:PX)|not (a:PX)
 |call (f:Str) (as:PX)
 |bi (f:Bi) (as:PX)|isi (a c:PX)
 |mt (m:Mt) (o as:PX)
 |idx (a b:PX)|slc (a lo hi:PX)|nop
 |lst (as:PX)|tup (as:PX)|dnew (b:Bool)|dsp (a b:PX)|lset (a:PX)|sset (a:PX)
 |comp (mask:List Bool) (tgs:LS) (tg:Tg) (ik:ItK) (its cond elt:PX)
 |nr|nq (a as:PX)
structure Ev where
 sp:Str->Sp
 va:Str->V
structure W3 where
 e:TE
 t:TT
 a:TA
def never:W3:=#[λ_ _ _=>False,λ_ _ _=>False,λ_ _ _=>False]
def HE(K:QE)(x:V)(H:Hp)(Q:Bool->Hp->Prop):Prop:=match x with
 | .bl b=>Q b H|.int i=>Q (i != 0) H|.non=>Q Jt H|.str z=>z.9<=jx/\Q ((z.9:Int) != 0) H|x=>∃k,Te K x H k/\Q k H
def B2(x:V)(H:Hp)(Q:Bool->Hp->Prop):Prop:=match x with
 | .bl b=>Q b H|_=>False
def L7(K:QE):kv->R2
 | .Add=>Eg K|.Sub=>Ug|.Mult=>Lg K|.FloorDiv=>d8|.Mod=>Mg|_=>λ_ _ _ _=>False
noncomputable def P6:R2:=λx y H Q=>∃b c,x=.bl b/\y=.bl c/\Q (.bl (decide (b=c))) H
def U1(K:QE):Vr->R2
 | .Eq=>rEq K Jt|.NotEq=>rEq K Js|.Lt=>mV λi j=>decide (i<j)|.LtE=>mV λi j=>decide (i<=j)|.Gt=>mV λi j=>decide (j<i)|.GtE=>mV λi j=>decide (j<=i)|.In=>MO K Jt|.NotIn=>MO K Js|.Is=>P6|_=>λ_ _ _ _=>False
def nV(K:QE):R2:=λx y H Q=>match x,y with
 | .str z,.int i=>z.9<=jx/\∃c,BE z.cps.toList i=Jp c/\Q (.str #[(WZ [c])]) H|.ref a,.int i=>∃h v,(uC K H a h∨HC K H a h)/\BE h i=Jp v/\Q v H|.ref a,.str z=>∃v,uO K H a (.str z) (Jp v)/\Q v H|.ref a,.ref b=>∃v,uO K H a (.ref b) (Jp v)/\Q v H|_,_=>False
def P4(K:QE):LV->Hp->VK->Prop:=λx H Q=>∃p h,x=[.ref p]/\(uC K H p h∨HC K H p h)/\∀l,H l=Jr->Q (.ref l) (KA H l (.lst h))
def pT(K:QE):LV->Hp->VK->Prop:=λv H Q=>∃p,v=[.ref p]/\((∃y:LS,uC K H p (y.map V.str)/\y.9<64/\∀l h,H l=Jr->h.Perm y->zy h=Js->Q (.ref l) (KA H l (.lst (h.map V.str)))) ∨
   (∃z,uC K H p z/\z.9<64/\(∀x∈z,∃a,∃y:LS,x=.ref a/\uC K H a (y.map V.str))/\∀l u,H l=Jr->u.Perm z->Q (.ref l) (KA H l (.lst u))))
def jY(K:QE):LV->Hp->VK->Prop:=λx H Q=>∃p h,x=[.ref p]/\uC K H p h/\∀l,H l=Jr->Q (.ref l) (KA H l (.tup h))
def Ui(K:QE):Bi->LV->Hp->VK->Prop
 | .len=>Ng K|.any=>Sg K|.all=>Ag K|.list=>P4 K|.sorted=>pT K|.tuple=>jY K|.max=>λh H Q=>∃i j,h=[.int i,.int j]/\Q (.int (if j > i then j else i)) H
def b8:V->LV->Hp->VK->Prop:=λx y H Q=>∃l i h k v,x=.ref l/\y=[.int i]/\H l=Jp (.lst h)/\dO h.9 i=Jp k/\h[k]?=Jp v/\Q v (KA H l (.lst (h.eraseIdx k)))
def c8(K:QE):V->LV->Hp->VK->Prop:=λx y H Q=>∃z b,∃h:LS,x=.str z/\y=[.ref b]/\uC K H b (h.map V.str)/\(h.map (·.length)).sum+h.9 * z.9<=16777216/\Q (.str (QBz z h)) H
def Y6(K:QE):Mt->V->LV->Hp->VK->Prop
 | .append=>rT|.pop=>b8|.join=>c8 K|.setd=>MI K|.reverse=>LO
noncomputable def Mt.ty:Mt->String
 | .append=>"list"|.pop=>"list"|.join=>"str"|.setd=>"dict"|.reverse=>"list"
def BJ(x:V)(H:Hp)(Q:Option Int->Hp->Prop):Prop:=match x with
 | .int i=>Q (Jp i) H|_=>False
inductive Item where
 |one (v:V)|tup (vs:LV)
def dC(K:QE):ItK->LV->Hp->(List Item->(Hp->Prop)->Hp->Prop)->Prop
 | .val,[.str z],H,R=>R (z.cps.toList.map λc=>.one (.str #[(WZ [c])])) (λ_=>True) H|.val,[.ref a],H,R=>(∃x,uC K H a x/\R (x.map .one) (λH=>uC K H a x) H)∨(∃x,HC K H a x/\R (x.map .one) (λH=>HC K H a x) H)∨(∃y,∃h:List KE,H a=Jp (.dT y h)/\R (h.map λp=>.one (.ref p.2.1)) (λH=>H a=Jp (.dT y h)) H)|.rng1,[.int j],H,R=>(-(2 ^ 62)<=j/\j<2 ^ 62)/\R ((Qj j.toNat).map λ(i:Nat)=>.one (.int (i:Int))) (λ_=>True) H|.enum,[.ref a],H,R=>∃z x,Src.adr z=a/\SW K H z x/\R (x.zipIdx.map λp=>.tup [.int (p.2:Int),p.1]) (λH=>SW K H z x) H|.itm,[.ref a],H,R=>∃y,∃h:List KE,H a=Jp (.dT y h)/\R (h.map λp=>.tup [.ref p.2.1,p.2.2]) (λH=>H a=Jp (.dT y h)) H|_,_,_,_=>False
noncomputable def IA:LN->LV->St->Option St
 |[],[],σ=>Jp σ|i::is,v::vs,σ=>IA is vs (σ.set i (Jp v))|_,_,_=>Jr
def vE(K:QE):Tg->TG
 | .nm i=>λv x H Q=>Q (x.set i (Jp v)) H|.tp z=>λv x H Q=>match v with
  | .ref p=>∃y h,HC K H p y/\IA z y x=Jp h/\Q h H|_=>False
def bindI(K:QE)(z:Tg):Item->St->Hp->(St->Hp->Prop)->Prop
 | .one v=>vE K z v|.tup y=>λx H Q=>match z with
  | .tp w=>∀u,Same H u->∃h,IA w y x=Jp h/\Q h u|.nm i=>∀p,H p=Jr->Q (x.set i (Jp (.ref p))) (KA H p (.tup y))
def Ih(K:QE)(xs:List Item)(st:Hp->Prop)(bind:Item->St->Hp->(St->Hp->Prop)->Prop)(tc:TT)(te:TE)(σ:St)(H:Hp)(Q:VK):Prop :=
 ∃W:Nat->LV->Hp->Prop,W 0 [] H/\(∀i h H,i<=xs.9->W i h H->st H) /\
  (∀i x h H,xs[i]?=Jp x->W i h H->bind x σ H λz u=>tc z u λb v=>if b=Js then te z v λy w=>h.9<jx/\W (i+1) (h++[y]) w else W (i+1) h v) /\
  ∀h u,W xs.9 h u->h.9<=jx/\∀p,u p=Jr->Q (.ref p) (KA u p (.lst h))
structure Yields(J:It)(xs:List Item)(st:Hp->Prop):Prop where
 go:∀i H,st H->i<xs.9->J.go i H
 yld:∀i H x H',st H->i<xs.9->J.yld i H x H'->∃it,xs[i]?=Jp it/\match it with
  | .one v=>x=v/\H'=H|.tup vs=>∃p,H p=Jr/\x=.ref p/\H'=KA H p (.tup vs)
 stop:∀i H,st H->xs.9<=i->J.stop i H
def ji(J:It)(g:TG)(tc:TT)(te:TE)(k:St)(l:Hp)(Q:VK):Prop:=∃W:Nat->Nat->LV->St->Hp->Prop,(∃m,W 0 m [] k l) /\
 ∀i m h v u,W i m h v u->(J.stop i u/\h.9<=jx/\∀p,u p=Jr->Q (.ref p) (KA u p (.lst h))) ∨
  (J.go i u/\∀x e,J.yld i u x e->g x v e λz j=>tc z j λb a=>if b=Js then te z a λy f=>h.9<jx/\∃w,w < m/\W (i+1) w (h++[y]) z f else ∃w,w < m/\W (i+1) w h z a)
def RU(K:QE)(xs:List Item)(st:Hp->Prop)(x:Tg)(tc:TT)(te:TE)(h:St)(H:Hp)(Q:VK):Prop:=∀J,Yields J xs st->ji J (vE K x) tc te h H Q
def isNop:PX->Bool
 | .nop=>Js|_=>Jt
def wp(K:QE)(Γ:Ev):PX->XK->W3
 | .kw i,E=>let e:TE:=λh H Q=>match h[i]? with
   |some (Jp v)=>Q v H|_=>False
  #[e,λh H Q=>e h H λx z=>HE K x z Q,never.a]
 | .int i,E=>#[λ_ H Q=>Q (.int i) H,λ_ H Q=>Q (i != 0) H,never.a]|.str x,E=>#[λ_ H Q=>Q (.str x) H,never.t,never.a]|.bl b,E=>#[λ_ H Q=>Q (.bl b) H,λ_ H Q=>Q b H,never.a]|.non,E=>#[λ_ H Q=>Q .non H,λ_ H Q=>Q Jt H,never.a]|.glo x,E=>#[λ_ H Q=>Q (Γ.va x) H,λ_ H Q=>HE K (Γ.va x) H Q,never.a]|.bty _ n,E=>#[λ_ H Q=>Q (.ty n) H,never.t,never.a]|.bin op a b,E=>let e:TE:=λh H Q=>(wp K Γ a E).e h H λx z=>(wp K Γ b E).e h z λy w=>L7 K op x y w Q
  #[e,λh H Q=>e h H λx z=>HE K x z Q,never.a]
 | .cmp op a b,E=>let e:TE:=λh H Q=>(wp K Γ a E).e h H λx z=>(wp K Γ b E).e h z λy w=>U1 K op x y w Q
  #[e,λh H Q=>e h H λx z=>B2 x z Q,never.a]
 | .neg a,E=>#[λh H Q=>(wp K Γ a E).e h H λx z=>match x with
   | .int i=>Q (.int (-i)) z|_=>False,never.t,never.a]
 | .and a b,E=>#[λh H Q=>(wp K Γ a E).e h H λx z=>B2 x z λc w=>if c=Js then(wp K Γ b E).e h w Q else Q (.bl Jt) w,
   λh H Q=>(wp K Γ a E).t h H λc z=>if c=Js then(wp K Γ b E).t h z Q else Q Jt z,never.a]
 | .or a b,E=>#[λh H Q=>(wp K Γ a E).e h H λx z=>B2 x z λc w=>if c=Js then Q (.bl Js) w else(wp K Γ b E).e h w Q,
   λh H Q=>(wp K Γ a E).t h H λc z=>if c=Js then Q Js z else(wp K Γ b E).t h z Q,never.a]
 | .not a,E=>#[λh H Q=>(wp K Γ a E).e h H λx z=>HE K x z λc w=>Q (.bl (!c)) w,λh H Q=>(wp K Γ a E).t h H λc z=>Q (!c) z,never.a]|.call f as,E=>let e:TE:=λh H Q=>(wp K Γ as E).a h H λg z=>Γ.sp f g z Q E
  #[e,λh H Q=>e h H λx z=>HE K x z Q,never.a]
 | .bi f as,E=>let e:TE:=λh H Q=>(wp K Γ as E).a h H λg z=>Ui K f g z Q
  #[e,λh H Q=>e h H λx z=>HE K x z Q,never.a]
 | .isi a c,E=>let e:TE:=λh H Q=>(wp K Γ a E).e h H λx z=>(wp K Γ c E).e h z λy w=>Cb K [x,y] w Q
  #[e,λh H Q=>e h H λx z=>HE K x z Q,never.a]
 | .mt m o as,E=>let e:TE:=λh H Q=>(wp K Γ o E).e h H λx z=>NW K m.ty x z/\(wp K Γ as E).a h z λg w=>Y6 K m x g w Q
  #[e,λh H Q=>e h H λx z=>HE K x z Q,never.a]
 | .idx a b,E=>let e:TE:=λh H Q=>(wp K Γ a E).e h H λx z=>(wp K Γ b E).e h z λy w=>nV K x y w Q
  #[e,λh H Q=>e h H λx z=>HE K x z Q,never.a]
 | .slc a lo hi,E=>#[λh H Q=>(wp K Γ a E).e h H λx z =>
   (if isNop lo=Js then λ(R:Option Int->Hp->Prop)=>R Jr z else λR=>(wp K Γ lo E).e h z λl w=>BJ l w R) λl w =>
   (if isNop hi=Js then λ(R:Option Int->Hp->Prop)=>R Jr w else λR=>(wp K Γ hi E).e h w λu j=>BJ u j R) λu j=>Vk K x l u j Q,never.t,never.a]
 | .nop,E=>never|.lst as,E=>#[λh H Q=>(wp K Γ as E).a h H λk z=>k.9<=jx/\∀p,z p=Jr->Q (.ref p) (KA z p (.lst k)),never.t,never.a]|.tup as,E=>#[λh H Q=>(wp K Γ as E).a h H λk z=>k.9<=jx/\∀p,z p=Jr->Q (.ref p) (KA z p (.tup k)),never.t,never.a]|.comp mask tgs tg ik its cond elt,E=>#[λh H Q=>(wp K Γ its E).a h H λg z=>dC K ik g z λk st w =>
   RU K k st tg (if isNop cond=Js then λ_ H Q=>Q Js H else(wp K Γ cond (λ_ _ _=>False)).t) (wp K Γ elt (λ_ _ _=>False)).e (sH tgs.9 mask h) w Q,never.t,never.a]
 | .dnew b,E=>#[λ_ H Q=>∀p,H p=Jr->Q (.ref p) (KA H p (.dT 0 [])),never.t,never.a]|.dsp a b,E=>#[λh H Q=>∀p,H p=Jr->(wp K Γ a E).e h (KA H p (.dT 0 [])) λy z=>(wp K Γ b E).e h z λv w=>w p=Jp (.dT 0 [])/\∃b q,y=.ref b/\HC K w b (q.map kV)/\∀r,Q (.ref p) (KA w p (.dT r [(q,b,v)])),never.t,never.a]|.lset a,E=>#[λh H Q=>(wp K Γ a E).e h H λx z=>yY K x z Q,never.t,never.a]|.sset a,E=>#[λh H Q=>(wp K Γ a E).e h H λx z=>uR K x z Q,never.t,never.a]|.nr,E=>#[never.e,never.t,λ_ H Q=>Q [] H]|.nq a as,E=>#[never.e,never.t,λh H Q=>(wp K Γ a E).e h H λx z=>(wp K Γ as E).a h z λk w=>Q (x::k) w]
structure Glob where
 ev:Ev
 fn:Str->Prop
 val:Str->Prop
 no:Str->Prop
noncomputable def Bi.nm:Bi->Str
 | .len=>"len"|.any=>"any"|.all=>"all"|.list=>"list"|.sorted=>"sorted"|.tuple=>"tuple"|.max=>"max"
noncomputable def Mt.nm:Mt->Str
 | .append=>"append"|.pop=>"pop"|.join=>"join"|.setd=>"setdefault"|.reverse=>"reverse"
def Nh(G:Glob):ItK->Prop
 | .val=>True|.rng1=>G.no "range"|.enum=>G.no "enumerate"|.itm=>True
def BA(G:Glob):PX->Prop
 | .glo x=>G.val x|.bty x n=>G.no x/\Kp x=Jp (.type n)|.bin _ a b | .cmp _ a b | .and a b | .or a b | .idx a b | .nq a b | .dsp a b=>BA G a/\BA G b
 | .not a | .neg a | .lst a | .tup a=>BA G a
 | .slc a b c=>BA G a/\BA G b/\BA G c|.lset a=>G.no "len"/\G.no "set"/\BA G a|.sset a=>G.no "sorted"/\G.no "set"/\BA G a|.call f y=>G.fn f/\BA G y|.bi f y=>G.no f.nm/\BA G y|.isi a c=>G.no "isinstance"/\BA G a/\BA G c|.mt _ o y=>BA G o/\BA G y|.comp _ _ _ v z h u=>Nh G v/\BA G z/\BA G h/\BA G u|_=>True
structure SC where
 N:LS
 sc:Kw
def yC:Expr->Bool
 | .Starred _ _=>Jt|_=>Js
noncomputable def Ea(S:SC)(i:Nat)(x:Str):Bool :=
 S.N[i]?==Jp x&&(S.sc.names.lookup x==Jp .local||S.sc.names.lookup x==Jp .cell||S.sc.names.lookup x==Jp .free)&&x != "__debug__" && x != "__classdict__"
noncomputable def Ac(S:SC)(i:Nat)(x:Str):Bool:=S.N[i]?==Jp x&&S.sc.names.lookup x==Jp .local
noncomputable def MK(S:SC)(x:Str):Bool:=S.sc.names.lookup x==Jp .globalImplicit&&x != "__debug__" && x != "__name__"
def XU(S:SC)(h:Kw)(x:LS)(mask:List Bool):SC:=#[x++tB mask 0 S.N,eJ h S.sc]
def NH:LS->Bool
 |[]=>Js|x::r=>!r.contains x&&NH r
def V1(S:SC)(h:Kw)(x:LS)(mask:List Bool):Bool :=
 h.kind==.function&&h.names.all (λy=>(y.2 != .cell||x.contains y.1)&&(y.2 != .local||(h.names.lookup y.1==Jp .local&&(x.contains y.1||y.1==(".0":Str)))) &&
  (y.2 != .free||S.sc.names.lookup y.1==Jp .cell||S.sc.names.lookup y.1==Jp .free))&&NH (x++tB mask 0 S.N)&&!(x++tB mask 0 S.N).contains (".0":Str)
noncomputable def rf(c:Str->Bool)(S:SC)(i:Nat)(x:Str):Bool:=S.N[i]?==Jp x&&(S.sc.names.lookup x==Jp .local||(c x&&S.sc.names.lookup x==Jp .cell))
def rj(c:Str->Bool)(S:SC):Tg->Expr->Bool
 | .nm i,.Name x _=>rf c S i x|.tp is,.Tuple es _ _=>is.9==es.9&&(is.zip es).all λp=>match p.2 with
  | .Name x _=>rf c S p.1 x|_=>Jt
 |_,_=>Jt
noncomputable def jN:Expr->Bool
 | .Call (.Name _ _) [] [] _=>Jt|_=>Js
def cP:Expr->Bool
 | .Set _ _ _=>Jt|_=>Js
def yN:Expr->Bool
 | .Slice _ _ _ _=>Jt|_=>Js
def tE:PX->Bool
 | .nr=>Js|.nq _ r=>tE r|_=>Jt
def pN:Expr->Bool
 | .Tuple _ _ _=>Js|_=>Jt
section
variable{α:Type}
section
variable{e:Expr}{l:List α}
noncomputable def nG(e:Expr)(f:Str->Pos->Bool):Bool:=match e with | .Name x p=>f x p|_=>Jt
noncomputable def uH(e:Expr)(f:y1->Bool):Bool:=match e with | .Constant c _ _=>f c|_=>Jt
noncomputable def X8(e:Expr)(f:Expr->kv->Expr->Pos->Bool):Bool:=match e with | .BinOp l o r p=>f l o r p|_=>Jt
noncomputable def Jc(e:Expr)(f:y2->Expr->Bool):Bool:=match e with | .UnaryOp o x _=>f o x|_=>Jt
noncomputable def V8(e:Expr)(f:Expr->List Vr->List Expr->Bool):Bool:=match e with | .Compare l x h _=>f l x h|_=>Jt
noncomputable def sR(e:Expr)(f:BoolOp->List Expr->Pos->Bool):Bool:=match e with | .BoolOp o h p=>f o h p|_=>Jt
noncomputable def rR(e:Expr)(f:Expr->List Expr->List v2->Pos->Bool):Bool:=match e with | .Call g x h p=>f g x h p|_=>Jt
noncomputable def HY(e:Expr)(f:Expr->Str->Pos->Bool):Bool:=match e with | .Attribute v n p=>f v n p|_=>Jt
noncomputable def MT(e:Expr)(f:Expr->Expr->Pos->Bool):Bool:=match e with | .Subscript v i p=>f v i p|_=>Jt
noncomputable def NT(e:Expr)(f:Option Expr->Option Expr->Option Expr->Bool):Bool:=match e with | .Slice l h s _=>f l h s|_=>Jt
noncomputable def SM(e:Expr)(f:List Expr->Pos->Bool):Bool:=match e with | .List h p=>f h p|_=>Jt
noncomputable def J8(e:Expr)(f:List Expr->Nat->Pos->Bool):Bool:=match e with | .Tuple h k p=>f h k p|_=>Jt
noncomputable def Yc(e:Expr)(f:Expr->List yu->Kw->Pos->Bool):Bool:=match e with | .ListComp x h sc p=>f x h sc p|_=>Jt
noncomputable def pR(e:Expr)(f:List (Option Expr)->List Expr->Bool):Bool:=match e with | .Dict x h _=>f x h|_=>Jt
noncomputable def RI(l:List α)(f:α->Bool):Bool:=match l with | [x]=>f x|_=>Jt
noncomputable def Gm(l:List α)(f:α->α->Bool):Bool:=match l with | [x,y]=>f x y|_=>Jt
noncomputable def S5(l:List α)(f:α->List α->Bool):Bool:=match l with|x::r=>f x r|_=>Jt
noncomputable def gh(o:Option α)(n:Bool)(f:α->Bool):Bool:=match o with|none=>n|some x=>f x
theorem TD{f:Str->Pos->Bool}(h:nG e f=Js):∃x p,e=.Name x p/\f x p=true:=by
 cases e with|Name x p=>exact#[x,p,rfl,h]|_=>exact(QF h).elim
theorem GF{f:y1->Bool}(h:uH e f=Js):∃c k p,e=.Constant c k p/\f c=true:=by
 cases e with|Constant c k p=>exact#[c,k,p,rfl,h]|_=>exact(QF h).elim
theorem T5{f:Expr->kv->Expr->Pos->Bool}(h:X8 e f=Js):∃l o r p,e=.BinOp l o r p/\f l o r p=true:=by
 cases e with|BinOp l o r p=>exact#[l,o,r,p,rfl,h]|_=>exact(QF h).elim
theorem DY{f:y2->Expr->Bool}(h:Jc e f=Js):∃o x p,e=.UnaryOp o x p/\f o x=true:=by
 cases e with|UnaryOp o x p=>exact#[o,x,p,rfl,h]|_=>exact(QF h).elim
theorem R5{f:Expr->List Vr->List Expr->Bool}(h:V8 e f=Js):∃l y x p,e=.Compare l y x p/\f l y x=true:=by
 cases e with|Compare l y x p=>exact#[l,y,x,p,rfl,h]|_=>exact(QF h).elim
theorem zP{f:BoolOp->List Expr->Pos->Bool}(h:sR e f=Js):∃o es p,e=.BoolOp o es p/\f o es p=true:=by
 cases e with|BoolOp o es p=>exact#[o,es,p,rfl,h]|_=>exact(QF h).elim
theorem yP{f:Expr->List Expr->List v2->Pos->Bool}(h:rR e f=Js):∃g es ks p,e=.Call g es ks p/\f g es ks p=true:=by
 cases e with|Call g es ks p=>exact#[g,es,ks,p,rfl,h]|_=>exact(QF h).elim
theorem GY{f:Expr->Str->Pos->Bool}(h:HY e f=Js):∃v n p,e=.Attribute v n p/\f v n p=true:=by
 cases e with|Attribute v n p=>exact#[v,n,p,rfl,h]|_=>exact(QF h).elim
theorem RM{f:Expr->Expr->Pos->Bool}(h:MT e f=Js):∃v i p,e=.Subscript v i p/\f v i p=true:=by
 cases e with|Subscript v i p=>exact#[v,i,p,rfl,h]|_=>exact(QF h).elim
theorem JV{f:Option Expr->Option Expr->Option Expr->Bool}(h:NT e f=Js):∃l u s p,e=.Slice l u s p/\f l u s=true:=by
 cases e with|Slice l u s p=>exact#[l,u,s,p,rfl,h]|_=>exact(QF h).elim
theorem GJ{f:List Expr->Pos->Bool}(h:SM e f=Js):∃es p,e=.List es p/\f es p=true:=by
 cases e with|List es p=>exact#[es,p,rfl,h]|_=>exact(QF h).elim
theorem M5{f:List Expr->Nat->Pos->Bool}(h:J8 e f=Js):∃es k p,e=.Tuple es k p/\f es k p=true:=by
 cases e with|Tuple es k p=>exact#[es,k,p,rfl,h]|_=>exact(QF h).elim
theorem oR{f:Expr->List yu->Kw->Pos->Bool}(h:Yc e f=Js):∃x y sc p,e=.ListComp x y sc p/\f x y sc p=true:=by
 cases e with|ListComp x y sc p=>exact#[x,y,sc,p,rfl,h]|_=>exact(QF h).elim
theorem jP{f:List (Option Expr)->List Expr->Bool}(h:pR e f=Js):∃ks vs p,e=.Dict ks vs p/\f ks vs=true:=by
 cases e with|Dict ks vs p=>exact#[ks,vs,p,rfl,h]|_=>exact(QF h).elim
theorem lI{f:α->List α->Bool}(h:S5 l f=Js):∃x r,l=x::r/\f x r=true:=by
 cases l with|nil=>exact(QF h).elim|cons x r=>exact#[x,r,rfl,h]
theorem mB{f:α->Bool}(h:RI l f=Js):∃x,l=[x]/\f x=true:=by
 cases l with
 |nil=>exact(QF h).elim|cons x r =>
  cases r with|nil=>exact#[x,rfl,h]|cons _ _=>exact(QF h).elim
theorem lh{f:α->α->Bool}(h:Gm l f=Js):∃x y,l=[x,y]/\f x y=true:=by
 cases l with
 |nil=>exact(QF h).elim|cons x r =>
  let#[y,e,h]:=mB (l:=r) (f:=f x) (by
   cases r with|nil=>exact h|cons y r=>cases r<;>exact h)
  exact#[x,y,by rw[e],h]
end
end
section
variable{c:y1}{n:Str}{e:Expr}
noncomputable def Ji(c:y1)(f:Int->Bool):Bool:=match c with | .int i=>f i|_=>Jt
noncomputable def ai(c:y1)(f:Str->Bool):Bool:=match c with | .str i=>f i|_=>Jt
noncomputable def f9(c:y1)(f:Bool->Bool):Bool:=match c with | .bool i=>f i|_=>Jt
def d9(c:y1):Bool:=match c with | .none=>Js|_=>Jt
theorem Ze{f:Int->Bool}(h:Ji c f=Js):∃i,c=.int i/\f i=true:=by
 cases c with|int i=>exact#[i,rfl,h]|_=>exact(QF h).elim
theorem Ye{f:Str->Bool}(h:ai c f=Js):∃i,c=.str i/\f i=true:=by
 cases c with|str i=>exact#[i,rfl,h]|_=>exact(QF h).elim
theorem F7{f:Bool->Bool}(h:f9 c f=Js):∃i,c=.bool i/\f i=true:=by
 cases c with|bool i=>exact#[i,rfl,h]|_=>exact(QF h).elim
theorem D7(h:d9 c=Js):c=.none:=by
 cases c with|none=>rfl|_=>exact(QF h).elim
theorem yA{a b:Bool}(h:(a&&b)=Js):a=Js/\b=true:=by cases a<;>cases b<;>first|exact#[rfl,rfl]| exact(QF h).elim
def iI(S:SC)(n:Str)(e:Expr)(f:List Expr->List v2->Pos->Bool):Bool:=rR e λg y h p=>nG g λx _=>n==x&&(MK S x&&f y h p)
theorem eE{S:SC}{f:List Expr->List v2->Pos->Bool}(h:iI S n e f=Js):∃y es ks p,e=.Call (.Name n y) es ks p/\MK S n=Js/\f es ks p=true:=by let#[g,es,ks,p,rfl,w]:=yP h;let#[x,y,rfl,v]:=TD w;have u:=yA v;have z:=yA u.2;have e:=qu u.1;exact#[y,es,ks,p,by rw[e],by rw[e];exact z.1,z.2]
def rZ(n:Str)(e:Expr)(f:Expr->List Expr->Pos->Pos->Bool):Bool:=rR e λg z y p=>HY g λv x h=>n==x&&(y.isEmpty&&(h.endLine==p.line&&f v z h p))
theorem kU{f:Expr->List Expr->Pos->Pos->Bool}(h:rZ n e f=Js):∃v y es p,e=.Call (.Attribute v n y) es [] p/\(y.endLine==p.line)=Js/\f v es y p=true:=by let#[g,es,i,p,rfl,a]:=yP h;let#[v,x,y,rfl,k]:=GY a;have w:=yA k;have u:=yA w.2;have z:=yA u.2;have e:=qu w.1;have b:=Q6.mp u.1;exact#[v,y,es,p,by rw[e,b],z.1,z.2]
noncomputable def G8(x:BoolOp)(r:Expr)(h:List Expr)(pos:Pos):Expr:=match h with
 |[]=>r|q::t=>.BoolOp x (r::q::t) pos
def Yj(y:Bool)(S:SC)(z:ItK)(c:List Expr->Pos->Bool)(t it:Expr)(pos:Pos):Bool:=match z with
 | .val=>y&&c [it] pos|.rng1=>iI S "range" it λh x p=>x.isEmpty&&RI h λa=>c [a] p|.enum=>pN t&&iI S "enumerate" it λh x p=>x.isEmpty&&RI h λa=>c [a] p|.itm=>pN t&&(y&&rZ "items" it λv h _ p=>jN v&&(h.isEmpty&&c [v] p))
noncomputable def ul(h:List Expr)(n:Bool)(f:Expr->Bool):Bool:=match h with
 |[]=>n|c::r=>r.isEmpty&&(!n&&f c)
def cZ(S:SC)(f g:Str)(e:Expr)(c:Expr->Bool):Bool:=iI S f e λz h _=>h.isEmpty&&RI z λx=>iI S g x λz h _=>h.isEmpty&&RI z λy=>yC y&&c y
theorem zU{S:SC}{f g:Str}{c:Expr->Bool}(h:cZ S f g e c=Js):∃u p2 pos z y,e=.Call (.Name f u) [.Call (.Name g p2) [y] [] z] [] pos/\MK S f=Js/\MK S g=Js/\yC y=Js/\c y=true:=by let#[u,o,b,pos,rfl,i,h]:=eE h;have a:=yA h;cases Q6.mp a.1;let#[x,rfl,m]:=mB a.2;let#[p2,o,b,z,rfl,v,l]:=eE m;have k:=yA l;cases Q6.mp k.1;let#[y,rfl,j]:=mB k.2;have w:=yA j;exact#[u,p2,pos,z,y,rfl,i,v,w.1,w.2]
def isItm:ItK->Bool
 | .itm=>Js|_=>Jt
def aB:PX->SC->Expr->Bool
 | .kw i,S,e=>nG e λx _=>Ea S i x|.int i,_,e=>uH e λc=>Ji c λj=>i==j|.str x,_,e=>uH e λc=>ai c λy=>x==y|.bl b,_,e=>uH e λc=>f9 c λk=>b==k|.non,_,e=>uH e d9|.glo x,S,e=>nG e λy _=>x==y&&MK S x|.bty x _,S,e=>nG e λy _=>x==y&&MK S x|.bin op a b,S,e=>X8 e λl o r _=>op==o&&(aB a S l&&aB b S r)|.cmp op a b,S,e=>V8 e λl Z Y=>RI Z λo=>RI Y λr=>op==o&&(cP r&&(aB a S l&&aB b S r))|.neg a,S,e=>Jc e λo x=>o==.USub&&aB a S x|.and a b,S,e=>sR e λo u p=>o==.And&&S5 u λl t=>S5 t λr t=>aB a S l&&aB b S (G8 .And r t p)|.or a b,S,e=>sR e λo u p=>o==.Or&&S5 u λl t=>S5 t λr t=>aB a S l&&aB b S (G8 .Or r t p)|.not a,S,e=>Jc e λo x=>o==.Not&&aB a S x|.call f as,S,e=>iI S f e λu w p=>w.isEmpty&&aB as S (.List u p)|.bi f as,S,e=>iI S f.nm e λu w p=>w.isEmpty&&S5 u λx t=>aB as S (.List (x::t) p)|.isi a c,S,e=>iI S "isinstance" e λu w _=>w.isEmpty&&Gm u λl r=>yC l&&(yC r&&(aB a S l&&aB c S r))|.mt m o as,S,e=>rZ m.nm e λv u _ p=>tE as&&(jN v&&(decide (u.9<20)&&(aB o S v&&aB as S (.List u p))))|.idx a b,S,e=>MT e λv i _=>yN i&&(aB a S v&&aB b S i)|.slc a lo hi,S,e=>MT e λv X _=>NT X λl h s=>s.isNone&&(aB a S v&&(gh l (isNop lo) (λe=>!isNop lo&&aB lo S e)&&gh h (isNop hi) λe=>!isNop hi&&aB hi S e))|.nop,_,_=>Jt|.lst as,S,e=>SM e λu p=>aB as S (.List u p)|.tup as,S,e=>J8 e λu _ p=>aB as S (.List u p)|.comp mask tgs tg ik its cond elt,S,e=>Yc e λK W z p=>RI W λg=>g.is_async==0&&(!isItm ik&&(V1 S z tgs mask&&(rj (λx=>z.names.lookup x==Jp .cell) (XU S z tgs mask) tg g.target&&(cP g.iter &&
   (Yj (tE its) S ik (λu p=>aB its S (.List u p)) g.target g.iter p&&(ul g.ifs (isNop cond) (λc=>aB cond (XU S z tgs mask) c)&&aB elt (XU S z tgs mask) K))))))
 | .dnew _,_,e=>pR e λw q=>w.isEmpty&&q.isEmpty|.dsp a b,S,e=>pR e λw q=>RI w λk=>RI q λv=>gh k Jt (aB a S)&&aB b S v|.lset a,S,e=>cZ S "len" "set" e (aB a S)|.sset a,S,e=>cZ S "sorted" "set" e (aB a S)|.nr,_,e=>SM e λu _=>u.isEmpty|.nq a as,S,e=>SM e λu p=>S5 u λx t=>yC x&&(aB a S x&&aB as S (.List t p))
end
variable{Γ:Ev}
theorem Me(x:V)(H:Hp)(Q:Bool->Hp->Prop):B2 x H Q=∃k,x=.bl k/\Q k H:=by
 apply gx;cases x with|bl b=>exact#[λh=>#[b,rfl,h],λ#[k,e,h]=>by cases e;exact h]|_=>exact#[λh=>Qh h,λ#[k,e,h]=>by cases e]
theorem iY(x:V)(H:Hp)(Q:Option Int->Hp->Prop):BJ x H Q=∃i,x=.int i/\Q (Jp i) H:=by
 apply gx;cases x with|int b=>exact#[λh=>#[b,rfl,h],λ#[k,e,h]=>by cases e;exact h]|_=>exact#[λh=>Qh h,λ#[k,e,h]=>by cases e]
theorem NS(K:QE)(x:V)(H:Hp)(Q:Bool->Hp->Prop):HE K x H Q=∃k,Te K x H k/\Q k H:=by
 apply gx;cases x with|bl b=>exact#[λh=>#[b,rfl,h],λ#[k,(e:k=b),h]=>by subst e;exact h]|int i=>exact#[λh=>#[i != 0,rfl,h],λ#[k,(e:k=(i != 0)),h]=>by subst e;exact h]|non=>exact#[λh=>#[Jt,rfl,h],λ#[k,(e:k=Jt),h]=>by subst e;exact h]|str z=>exact#[λh=>#[_,#[h.1,rfl],h.2],λ#[k,#[u,y],h]=>by subst y;exact#[u,h]]|_=>exact QAb
section
variable{X:Cx}
section
variable{e b:Expr}{es:List Expr}{env:Env}{its:LW}
theorem sY:PE X e never.e:=λ_ _ _ _ _ _ h=>Qh h
theorem ZJ:PT X e never.t:=λ_ _ _ _ _ _ h=>Qh h
theorem SO:PA X es never.a:=λ_ _ _ _ _ _ _ h=>Qh h
theorem IC{a:Expr}{ta:TE}(ha:PE X a ta)(g:∀y,isTrue a X.env y=(do let v <- y;standAt a.pos;Xr [v] (truthy v))) :
  PT X a (λσ H Q=>ta σ H λx j=>HE X.K x j Q):=by
 intro z s σ H Q I h;refine isTrue_plain (DB (ha z s σ H _ I h) λv k #[x,w,i,f,u]=>?_) (g _);have u:HE X.K x w Q:=u;rw[NS]at u;exact fX z k σ w x v Q i f u
theorem UY{f:Ju->Ju->Sem Ju}:NE X f (λ_ _ _ _=>False):=λ_ _ _ _ _ _ _ _ _ _ _ _ h=>h.elim
theorem fc(h:kv):NE X (Kq h) (L7 X.K h):=by
 cases h with|Add=>exact op_add|Sub=>exact op_sub|Mult=>exact cc|FloorDiv=>exact F5|Mod=>exact op_mod|_=>exact UY
theorem NZ{h:GB}{s:Jq}{σ:St}{H:Hp}{b c:Bool}{Q:VK}(I:Inv X h σ H s)(q:Q (.bl (decide (b=c))) H):Jw (jz X.prog X.w) X.A (jq .Is (.bool b) (.bool c)) (EP X h σ Q) X.xe s:=by
 have e:jq .Is (.bool b) (.bool c)=Gu (.bool (decide (b=c))):=by cases b<;>cases c<;>rfl
 rw[e];exact QH #[.bl _,H,I,rfl,q]
theorem BY(k:X.A.units+66<Ks)(z:Vr):NE X (jq z) (U1 X.K z):=by
 cases z with|Eq=>exact op_eq ()|NotEq=>exact op_ne ()|Lt=>exact NM _root_.L2.op_lt|LtE=>exact NM _root_.L2.op_le|Gt=>exact NM _root_.L2.op_gt|GtE=>exact NM _root_.L2.op_ge|In=>exact uh k|NotIn=>exact XY k|Is=>intro w s g H x y v u Q I f a h;let#[b,c,rfl,rfl,q]:=h;cases f;cases a;exact NZ I q|IsNot=>exact λ_ _ _ _ _ _ _ _ _ _ _ _ h=>h.elim
theorem Vd(Y:X.A.units+66<Ks):j3 X (nV X.K):=by
 intro w k f s n H x y v u Q I r p h hs;have sq:=λh=>Kd (X:=X) w k f s n H x y v u Q I r p h hs;have dc:=λh=>L6 Y w k f s n H x y v u Q I r p h hs;cases x with
 |str z =>
  cases y with|int i=>let#[Z,c,m,q]:=h;exact sq (.inr (.inr #[z,i,c,rfl,rfl,Z,m,q]))|_=>exact Qh h
 |ref a =>
  cases y with
  |int i=>let#[o,j,l,m,q]:=h;rcases l with l|l;exact sq (.inl #[a,o,i,j,rfl,rfl,l,m,q]);exact sq (.inr (.inl #[a,o,i,j,rfl,rfl,l,m,q]))
  |str z=>let#[j,g,q]:=h;exact dc #[a,j,rfl,g,q]|ref b=>let#[j,g,q]:=h;exact dc #[a,j,rfl,g,q]|_=>exact Qh h
 |_=>exact Qh h
theorem zZ{x:Vr}(h:cP b=Js):Xz x b=false:=by cases b<;>first|rfl|cases h
theorem x5(h:yN b=Js):LU b:=by intro o i;cases b<;>first|rfl|cases h
theorem VA(env:Env)(h:yC e=Js):jw (e::es) env=(Jt,kx e env)::jw es env:=by cases e<;>first|rfl|cases h
theorem iR(h:cP e=Js)(x:Ju):ky e env x=Gu x:=by cases e<;>first|rfl|cases h
theorem yZ{o:Expr}{n:Str}(h:jN o=Js):Vz o n env (kx o env)=kx o env:=by unfold Vz;split;cases h;rfl
theorem i6:af X "list.pop" b8:=by intro z s f H x u v g Q I j m h;let#[l,i,u,k,y,rfl,rfl,a,hk,n,q]:=h;let#[o,Y,r,p]:=nN hk;have hl:u.9<=sizeLine:=(show ZA X.prog X.w H s.1 l (.lst u) from I.hok l _ a).1;rw[qR]at hl;exact pZ z s f H _ _ v g Q I j m #[l,u,i,k,y,rfl,rfl,a,(),(),o,n,q]
theorem mJ{x:LS}(h:uA (x.map V.str) its):zx its x:=by
 induction x generalizing its with
 |nil=>cases h;exact .nil|cons y x z =>
  cases h with|cons h t=>let#[k,rfl]:=h;exact .cons _ _ (z t)
theorem J6:af X "str.join" (c8 X.K):=by intro y s l H x n v o Q I w g h;let#[z,b,m,rfl,rfl,j,i,q]:=h;let#[t,rfl]:=w;let#[u,rfl,f]:=UG g;cases f;let#[its,a,p,_]:=I.list j;exact join_list p.isList (by simpa using mJ a) i λr k=>#[.str _,H,I.tok _,#[_,rfl],q]
theorem AU{ss:LS}(h:zx its ss):uA (ss.map V.str) its:=by
 induction h with|nil=>exact .nil|cons y t _ x=>exact .cons #[t,rfl] x
theorem sV{out:LW}(g:its.Perm out):∀{xs:LV},uA xs its->∃z,z.Perm xs/\uA z out:=by
 induction g with
 |nil=>intro xs r;cases r;exact#[[],QAD _,.nil]|cons x _ k =>
  intro xs r;cases r with|cons h t=>let#[z,p,v]:=k t;exact#[_::z,p.cons _,.cons h v]
 |swap x y l =>
  intro xs r;cases r with
  |cons h t=>cases t with|cons i t=>exact#[_::_::_,QEH.swap _ _ _,.cons i (.cons h t)]
 |trans _ _ f a=>intro xs r;let#[z,p,v]:=f r;let#[w,q,u]:=a v;exact#[w,q.trans p,u]
theorem kX{xs:LV}{v:Ju}(r:uA xs its)(h:v∈its):∃x∈xs,lA x v:=by
 induction r with
 |nil=>exact nomatch h
 |cons r t z=>rcases QK.mp h with e|h;subst e;exact#[_,QD,r];let#[x,u,y]:=z h;exact#[x,QC _ u,y]
theorem gQ(hu:X.A.units+66<Ks):lD X (.builtin "sorted") (pT X.K):=by
 intro pins s σ H xs us Q I r h;let#[p,rfl,h]:=h;rcases h with⟨ss,N,P,q⟩| ⟨xs,N,P,M,q⟩
 skip;let#[u,rfl,B]:=UG r;cases B;let#[its,i,F,hz]:=I.list N;have hl:=i.9;rw[QG]at hl;refine sorted_strs F.isList (by simpa using mJ i) () λout l a1 a2 a3=>?_;let#[e,O]:=sortedAll_at s.1 its out;have hlen:=(aM a1).1;have hp:=a2.length_eq;refine#[.ref (s.1.1.size+1),_,I.laid (t':=s.toks) (λb o z=>Gr z) (wn _) (show ZA X.prog X.w _ _ _ (.lst (l.map V.str)) from#[by rw[QG,qR];omega,out.toList,e,AU a1,by simpa using O]),rfl,q _ l (I.hok.fresh (wn _)) a2 a3];skip;let#[u,rfl,B]:=UG r;cases B;let#[its,i,F,hz]:=I.list N;have hl:=i.9;have f:∀v∈its,∃b R Z n k,∃j:LS,v=.ref b/\s.1.get? b=Jp { cls:=.type "list",dict:=R,data:=.seq k n,slots:=Z }/\zx k.toList j:=λv hv=>by let#[x,L,W]:=kX i hv;let#[a,j,rfl,sq]:=M x L;cases W;let#[g,E,#[o,n,e,c,d,z],_]:=I.list sq;let#[oc,od,J,G]:=o;cases c;exact#[a,od,G,n,g.toArray,j,rfl,by rw[e,show J=Data.seq g.toArray n from z],by simpa using mJ E]
 refine K4 F.isList () (λv hv=>?_) (λh3 kp x M y hy C hC=>?_) λout hp=>?_;let#[b,R,Z,n,k,j,rfl,e,_]:=f v hv;exact#[b,_,rfl,e,rfl];let#[b,R,Z,n,k,j,rfl,e,st]:=f x M;let#[b2,dd2,sl2,n2,m,ts2,rfl,e2,Y]:=f y hy;exact nR (s:={ s with heap:=h3 }) (show X.A.units+1+1<Ks by omega) (kp _ _ e) (kp _ _ e2) st Y (hC _);let#[e,O]:=sortedAll_at s.1 its out.toArray;let#[S,py,vy]:=sV hp.symm i;have hp2:=py.length_eq;refine#[.ref (s.1.1.size+1),_,I.laid (t':=s.toks) (λb o z=>Gr z) (wn _) (show ZA X.prog X.w _ _ _ (.lst S) from#[by rw[qR];omega,out,e,vy,O]),rfl,q _ S (I.hok.fresh (wn _)) py]
theorem eW:lD X (.type "tuple") (jY X.K):=by intro x s y H k u Q I r h;let#[p,z,rfl,w,v]:=h;exact AK x s y H _ u Q I r #[p,z,rfl,.inl #[w,v]]
theorem Zi(h:X.A.units+66<Ks)(hc:X.calm=Js)(f:Bi):(∃id,Kp f.nm=Jp (.builtin id)/\lD X (.builtin id) (Ui X.K f))∨∃T,Kp f.nm=Jp (.type T)/\lD X (.type T) (Ui X.K f):=by
 cases f with|len=>exact .inl #[_,PySem.boot_len,M1]|any=>exact .inl #[_,PyProof.Rows.boot_any,O1 hc]|all=>exact .inl #[_,PyProof.Rows.boot_all,T1 hc]|list=>exact .inr #[_,PyProof.Rows.boot_list,MN]|tuple=>exact .inr #[_,by kernel_rfl,eW]|max=>exact .inl #[_,PyProof.Rows.boot_max,iW hc]|sorted=>exact .inl #[_,QBo,gQ h]
end
end
end L2.L3
namespace L2.L3
open PySem PySem.Spec PyProof.Rows
section
variable{S:SC}{i:Nat}{x:Str}
structure OkX(X:Cx)(S:SC)(G:Glob)(E:XK):Prop where
 N:X.N=S.N
 sc:X.env.scope=S.sc
 calm:X.calm=Js
 un:X.A.units+66<Ks
 fn:∀f,G.fn f->∃(CX:K3) (k:Nat) (a:jy) (fd:Kr) (ps:LS),FnOk X.prog X.w X.K X.mg X.base CX k a fd ps (G.ev.sp f)/\Room k X.A/\X.mg f=Jp (.ref a)/\Wm X.K (.ref a)=Js/\cG X.K fd ps [] /\
  iK CX X E/\∀l H s e s',CX l H s (λ_ _ _=>False) e s'->False
 val:∀x,G.val x->∃u,X.mg x=Jp u/\lA (G.ev.va x) u
 no:∀x,G.no x->X.mg x=Jr
def bO(X:Cx)(Γ:Ev)(E:XK):PX->List Expr->Prop
 | .nq a as,e::es=>PE X e (wp X.K Γ a E).e/\bO X Γ E as es|_,_=>True
structure Snd(X:Cx)(Γ:Ev)(E:XK)(p:PX)(e:Expr):Prop where
 pe:PE X e (wp X.K Γ p E).e
 pt:PT X e (wp X.K Γ p E).t
 pw:∀op es pos,e=.BoolOp op es pos->PW X e (wp X.K Γ p E).t
 pa:∀es pos,e=.List es pos->PA X es (wp X.K Γ p E).a
 pas:∀es pos,e=.List es pos->bO X Γ E p es
theorem z4(h:Ea S i x=Js):S.N[i]?=Jp x/\Ni S.sc x/\(x==("__debug__":Str))=Jt/\(x==("__classdict__":Str))=false:=by simp only[Ea,Qf,w8,beq_iff_eq,bne_iff_ne,ne_eq]at h;let#[#[#[v,y],u],z]:=h;refine#[v,?_,by simpa using u,by simpa using z];rcases y with(y|y)|y;exact .inl y;exact .inr (.inl y);exact .inr (.inr y)
theorem V6(h:Ac S i x=Js):S.N[i]?=Jp x/\S.sc.names.lookup x=Jp .local:=by simp only[Ac,Qf,beq_iff_eq]at h;exact h
theorem rC(h:MK S x=Js):S.sc.names.lookup x=Jp .globalImplicit/\(x==("__debug__":Str))=Jt/\x≠"__name__":=by simp only[MK,Qf,beq_iff_eq,bne_iff_ne,ne_eq]at h;exact#[h.1.1,by simpa using h.1.2,h.2]
theorem ED:∀{l:LS},NH l=Js->l.Nodup
 |[],_=>Qt|x::r,h=>by simp only[NH,Qf,Qp]at h;exact Qa.mpr #[by simpa using h.1,ED h.2]
theorem zQ{z:Kw}{v:LS}{mask:List Bool}(h:V1 S z v mask=Js):CompSt S.N S.sc z v mask:=by simp only[V1,Qf,qN,beq_iff_eq,Qp]at h;let#[#[#[b,w],a],k]:=h;refine#[b,λy u e=>?_,λy u e=>?_,λy u e=>?_,λy u e=>?_,ED a,by simpa using k];have:=(w y u).1.1;rw[e]at this;simpa using this;have:=(w y u).1.2;rw[e]at this;simp at this;exact this.1;have:=(w y u).2;rw[e]at this;simp at this;exact this;have:=(w y u).1.2;rw[e]at this;simp at this;exact this.2
theorem OkX.comp{X:Cx}{G:Glob}{E:XK}(ok:OkX X S G E)(y:Kw)(u:LS)(mask:List Bool)(s:Jq)(H:Hp)(ex:List jy):OkX (DA X y u mask s H ex) (XU S y u mask) G (λ_ _ _=>False) where
 N:=by show u++tB mask 0 X.N=u++tB mask 0 S.N;rw[ok.N]
 sc:=by show eJ y X.env.scope=eJ y S.sc;rw[ok.sc]
 calm:=ok.calm
 un:=ok.un
 fn:=λf h=>by let#[n,k,a,m,w,l,j,g,e,b,o,v]:=ok.fn f h;exact#[n,k,a,m,w,l,j,g,e,b,λ_ _ _ _ _ _ _ z=>(v _ _ _ _ _ z).elim,v]
 val:=ok.val
 no:=ok.no
end
section
variable{X:Cx}
theorem ZZ{c:Str->Bool}{S:SC}{i:Nat}{x:Str}(k:X.N=S.N)(y:X.env.scope=S.sc)(u:∀x,c x=Js->X.fn x=Js)(h:rf c S i x=Js):X.N[i]?=Jp x/\Jf X.env.scope x/\(X.fn x=Js∨X.env.scope.names.lookup x=Jp .local):=by
 simp only[rf,Qf,w8,beq_iff_eq]at h;rw[k,y];rcases h.2 with z|⟨w,v⟩
 exact#[h.1,.inl z,.inr z];exact#[h.1,.inr v,.inl (u x w)]
theorem cL{c:Str->Bool}{S:SC}(a:∀x,c x=Js->X.fn x=Js)(j:X.N=S.N)(k:X.env.scope=S.sc)(nd:X.N.Nodup):∀(w:LN) (es:List Expr),w.9=es.9->((w.zip es).all λp=>match p.2 with | .Name x _=>rf c S p.1 x|_=>Jt)=Js ->
  Im X es (λvs σ H Q=>∃y,IA w vs σ=Jp y/\Q y H)
 |[],[],_,_=>by
  intro z s σ H vs n Q I r h;let#[y,e,q]:=h;cases vs with|nil=>cases r;simp only[IA]at e;cases e;exact assignInOrder_nil #[σ,H,I,q]|cons _ _=>simp[IA]at e
 |[],_::_,h,_=>by cases h|_::_,[],h,_=>by cases h|i::w,e::es,hl,hz=>by
  simp only[QBR,wN,Qf]at hz;let#[l,W]:=hz;cases e with
  |Name x pos =>
   let#[g,f,b]:=ZZ j k a l;have Z:=cL a j k nd w es (by simpa using hl) W;intro z s σ H vs n Q I r h;let#[y,e,q]:=h;cases vs with
   |nil=>simp[IA]at e|cons v vs =>
    simp only[IA]at e;cases r with|cons r Y=>show Jw _ _ (Yq (vr (.Name x pos) X.env::(kz es X.env).map (·.2)) _) _ _ _;refine assignInOrder_cons (DB (UT (pos:=pos) nd g f b z s σ H v _ _ I r (show pU i v σ H (λu m=>u=σ.set i (Jp v)/\m=H) from#[rfl,rfl])) λ_ o #[u,m,B,A,K]=>?_);subst A K;exact Z z o _ _ vs _ Q B Y #[y,e,q]
  |_=>simp at l
theorem iP{c:Str->Bool}:∀(z:LN) (es:List Expr) (S:SC),z.9=es.9->((z.zip es).all λp=>match p.2 with | .Name x _=>rf c S p.1 x|_=>Jt)=Js->(kz es X.env).9=es.9/\(kz es X.env).findIdx? (·.1)=Jr
 |[],[],_,_,_=>#[rfl,rfl]|[],_::_,_,h,_=>by cases h|_::_,[],_,h,_=>by cases h|i::z,e::es,S,hl,hz=>by
  simp only[QBR,wN,Qf]at hz;let#[w,v]:=hz;cases e with|Name x y=>have u:=iP z es S (by simpa using hl) v;have k:kz (.Name x y::es) X.env=(Jt,vr (.Name x y) X.env)::kz es X.env:=rfl;rw[k];refine#[by rw[QL,QL,u.1],?_];rw[List.findIdx?_cons];simp[u.2]|_=>simp at w
theorem sJ:∀{y:LN}{vs:LV}{σ x:St},IA y vs σ=Jp x->vs.9=y.9
 |[],[],_,_,_=>rfl|[],_::_,_,_,h=>by simp[IA]at h|_::_,[],_,_,h=>by simp[IA]at h|_::y,_::vs,σ,x,h=>by simp only[IA]at h;rw[QL,QL,sJ h]
theorem XT{c:Str->Bool}{S:SC}{G:Glob}{E:XK}(ok:OkX X S G E)(z:∀x,c x=Js->X.fn x=Js)(nd:X.N.Nodup){b:Tg}{e:Expr}(h:rj c S b e=Js):PG X e (vE X.K b):=by
 cases b with
 |nm i =>
  cases e with|Name x pos=>let#[l,j,g]:=ZZ ok.N ok.sc z h;exact UT nd l j g|_=>cases h
 |tp o =>
  cases e with
  |Tuple m k pos =>
   let#[h0,Z]:=yA h;have f:=qu h0;let#[C,B]:=iP (X:=X) o m S f Z;have w:=Sb (pos:=pos) (k:=k) (n:=m.9) ok.calm (cL z ok.N ok.sc nd o m f Z) C B;intro y s W H v u Q I r Y;refine w y s W H v u Q I r ?_;cases v with|ref p=>let#[A,a,F,e,q]:=Y;exact#[p,A,rfl,F,by rw[sJ e,f],a,e,q]|_=>exact Qh Y
  |_=>cases h
end
variable{Γ:Ev}
theorem O3(K:QE)(a:jy)(xs:LV):Yields (Ln K a) (xs.map .one) (λH=>uC K H a xs) :=
  { go:=λi H h u=>by
      have z:i<xs.length:=by simpa using u
      exact#[xs,xs[i],h,by simp[z]]
    yld:=λi H x v h _ #[e,y]=>#[.one x,by rw[Qg,y xs h];rfl,rfl,e]
    stop:=λi H h u=>#[xs,h,by simpa using u] }
theorem La(K:QE)(a:jy)(xs:LV):Yields (Gn K a) (xs.map .one) (λH=>HC K H a xs) :=
  { go:=λi H h u=>by
      have z:i<xs.length:=by simpa using u
      exact#[xs,xs[i],h,by simp[z]]
    yld:=λi H x v h _ #[e,y]=>#[.one x,by rw[Qg,y xs h];rfl,rfl,e]
    stop:=λi H h u=>#[xs,h,by simpa using u] }
theorem Ma(z:Str):Yields (Ym z) (z.cps.toList.map λc=>.one (.str #[(WZ [c])])) (λ_=>True) :=
  { go:=λi H h u=>by
      have y:i<z.cps.size:=by simpa using u
      exact y
    yld:=λi H x w h _ #[e,c,hc,v]=>#[.one x,by rw[Qg,QX,hc,v];rfl,rfl,e]
    stop:=λi H h u=>by
      have y:z.cps.size<=i:=by simpa using u
      exact y }
theorem Na(u:Int)(n:Nat):Yields (Zm u n) ((Qj n).map λ(k:Nat)=>.one (.int (u+(k:Int)))) (λ_=>True) :=
  { go:=λi H h z=>by
      have y:i<n:=by simpa using z
      exact y
    yld:=λi H x w h z #[e,v]=>by
      have y:i<n:=by simpa using z
      exact#[.one x,by rw[Qg,QCq y,v];rfl,rfl,e]
    stop:=λi H h z=>by
      have y:n<=i:=by simpa using z
      exact y }
theorem R3(K:QE)(z:Src)(c:Nat)(xs:LV):Yields (Nn K z c) (xs.zipIdx.map λp=>.tup [.int ((c+p.2:Nat):Int),p.1]) (λH=>SW K H z xs) :=
  { go:=λi H h u=>by
      have y:i<xs.length:=by simpa using u
      exact#[xs,xs[i],h,by simp[y]]
    yld:=λi H x g h u #[p,a,v,e,w,k]=>by
      have y:i<xs.length:=by simpa using u
      have f:=k xs h;refine#[.tup [.int ((c+i:Nat):Int),a],?_,p,v,e,w];have b:xs.zipIdx[i]?=Jp (a,i):=by rw[QCc,f];simp
      rw[Qg,b];rfl
    stop:=λi H h u=>#[xs,h,by simpa using u] }
theorem EW(ep:Nat)(a:jy)(kvs:List KE):Yields (Hn ep kvs.9 a) (kvs.map λp=>.tup [.ref p.2.1,p.2.2]) (λH=>H a=Jp (.dT ep kvs)) :=
  { go:=λi H h y=>by
      have z:i<kvs.length:=by simpa using y
      exact#[kvs,kvs[i],h,rfl,by simp[z]]
    yld:=λi H x w h y #[q,p,u,e,v,k]=>#[.tup [.ref p.2.1,p.2.2],by rw[Qg,k kvs h];rfl,q,u,e,v]
    stop:=λi H h y=>#[kvs,h,rfl,by simpa using y] }
theorem P3(ep:Nat)(a:jy)(kvs:List KE):Yields (Mn ep kvs.9 a) (kvs.map λp=>.one (.ref p.2.1)) (λH=>H a=Jp (.dT ep kvs)) :=
  { go:=λi H h y=>by
      have z:i<kvs.length:=by simpa using y
      exact#[kvs,kvs[i],h,rfl,by simp[z]]
    yld:=λi H x b h y #[u,k]=>by let#[p,w,v]:=k kvs h;exact#[.one (.ref p.2.1),by rw[Qg,w];rfl,v,u]
    stop:=λi H h y=>#[kvs,h,rfl,by simpa using y] }
noncomputable def DQ(h:St->Hp->(List Item->(Hp->Prop)->Hp->Prop)->Prop):TI:=λx H R=>h x H λy st z=>∀J,Yields J y st->R J z
section
variable{X:Cx}{f:Expr}
section
variable{a:Expr}{ta:TA}{p pos k:Pos}{x:Str}{es:List Expr}{d:Nat}
theorem u5{l:Expr}{t:TE}(hl:PE X l t):PI X f l (DQ λσ H R=>t σ H λv m=>dC X.K .val [v] m R):=by
 intro j s σ H R I h;refine DB (hl j s σ H _ I h) λv y #[x,m,i,E,W]=>?_;have g:∀b∈[y.1.1.size],BH X j m b:=λb hb=>by
  have e:b=y.1.1.size:=by simpa using hb
  subst e;exact i.fpOk (QV _) (i.hok.fresh (QV _))
 cases x with
 |str z=>let#[t,rfl]:=E;refine wpAny_pyIter_strU ?_;exact#[y.1.1.size,[y.1.1.size],_,_,m,rfl,i.kept (t':=y.toks) λb o e=>QI _ e,dX _ z t,#[_,QO _ rfl,rfl,rfl],g,W _ (Ma z)]|ref a =>
  cases E;rcases W with⟨Z,B,q⟩| ⟨Z,B,q⟩| ⟨ep,u,e,q⟩
  let#[Y,F,p,G]:=i.list B;refine WT p.isList ?_;exact#[y.1.1.size,[y.1.1.size],_,_,m,rfl,i.kept (t':=y.toks) λb o e=>QI _ e,IU a _,#[_,QO _ rfl,rfl,rfl],g,q _ (O3 _ a Z)];let#[Y,F,p,G]:=i.tuple B;refine QC4 (show y.1.IsTuple a Y.toArray from p) ?_;exact#[y.1.1.size,[y.1.1.size],_,_,m,rfl,i.kept (t':=y.toks) λb o e=>QI _ e,MQ a _,#[_,QO _ rfl,rfl,rfl],g,q _ (La _ a Z)];let#[z,J,Z,r,P,C,O,N,M,L,Q]:=(show ZA X.prog X.w m y.1 a (.dT ep u) from i.hok a _ e)
  have A:C.size=u.length:=by have:=gV wm L;rw[QG,QM]at this;rw[this,<- qq r]
  refine N6 J O N.1 M ?_;exact#[y.1.1.size,[y.1.1.size],_,_,m,rfl,i.kept (t':=y.toks) λb o e=>QI _ e,jV (a:=a) (n:=u.9) (ep:=ep),#[_,QO _ rfl,rfl,by rw[<- A];rfl],g,q _ (P3 ep a u)]
 |_=>exact Qh W
theorem c5(g:x="range")(i:Gl X x)(hm:X.mg x=Jr)(ha:PA X [a] ta)(hs:yC a=Js) :
  PI X f (.Call (.Name x p) [a] [] pos) (DQ λσ H R=>ta σ H λvs v=>dC X.K .rng1 vs v R):=by
 subst g;intro z s σ H R I h;refine Call_ (rE I i hm boot_range (wM (DB (ha pos z s σ H _ I h) λm n #[vs,v,l,b,u]=>?_) (VA _ hs) rfl))
 match vs,u with
 |[.int j],#[#[u,q2],q] =>
  cases b with
  |cons r w =>
   cases w;let#[t,rfl]:=r;refine call_range_1 (IX l () () u q2 ?_);have e:(j - 0).toNat=j.toNat:=by simp
   rw[e];have y:=Na 0 j.toNat;refine q _ ?_;simpa using y
theorem YW:Kp ("enumerate":Str)=Jp (.type "enumerate"):=by kernel_rfl
theorem L0{y:GB}{σ:St}{e:Hp}{h:Jq}{R:It->Hp->Prop}{c:Nat}{z:Src}{xs:LV}{its:Array Ju}{h':js}(v:Inv X y σ e h)(sh:BB h.1 z its)(st:US (h.1.1.size+1) h.1.1.size z c 0 h')(i:∀c o,h.1.get? c=Jp o->h'.get? c=Jp o)
  (q:∀J,Yields J (xs.zipIdx.map λp=>.tup [.int ((c+p.2:Nat):Int),p.1]) (λH=>SW X.K H z xs)->R J e):Jw (jz X.prog X.w) X.A (Vs (.ref (h.1.1.size+1))) (mm X y σ (.Tuple es d k) R) X.xe { h with heap:=h' }:=by
 let#[#[g,j],_]:=id st;refine QDM j ?_;have l:=v.kept (h':=h') (t':=h.toks) i;have lt:=sh.lt;refine#[_,[h.1.1.size+1,h.1.1.size],_,_,e,rfl,l,yV (Uo (Nat.succ_ne_self _)) (Qe (qM lt)) (Qe lt),st,λb hb=>?_,q _ (R3 _ z c xs)];have u:h.1.1.size<=b:=by simp only[QK,Wi,or_false]at hb;rcases hb with rfl|rfl;exact QB7 _ _;exact QV _
 exact v.fpOk u (v.hok.fresh u)
theorem n5(l:x="enumerate")(m:Gl X x)(hm:X.mg x=Jr)(ha:PA X [a] ta)(hs:yC a=Js) :
  PI X (.Tuple es d k) (.Call (.Name x p) [a] [] pos) (DQ λσ H R=>ta σ H λvs w=>dC X.K .enum vs w R):=by
 subst l;intro u s σ H R I h;refine Call_ (rE I m hm YW (wM (DB (ha pos u s σ H _ I h) λn o #[vs,w,v,e,g]=>?_) (VA _ hs) rfl))
 match vs,g with
 |[.ref l1],#[z,xs,e1,h1,q] =>
  subst e1;cases e with|cons r b=>cases b;cases r;let#[j,_,y,_]:=v.src h1;refine iS y λY st i=>L0 (xs:=xs) v y st i ?_;simpa using q
theorem M6{K:QE}{u:V}{H:Hp}{R:List Item->(Hp->Prop)->Hp->Prop}(h:dC K .itm [u] H R):∃a ep kvs,u=.ref a/\H a=Jp (.dT ep kvs)/\R (kvs.map λp=>.tup [.ref p.2.1,p.2.2]) (λH=>H a=Jp (.dT ep kvs)) H:=by
 cases u with|ref a=>let#[ep,kvs,e,q]:=h;exact#[a,ep,kvs,rfl,e,q]|_=>exact Qh h
theorem Rb{o:Expr}{to:TE}{apos cpos:Pos}(J:PE X o to)(i:Vz o "items" X.env (kx o X.env)=kx o X.env)(g:(apos.endLine==cpos.line)=Js) :
  Bj X (.Tuple es d k) (.Call (.Attribute o "items" apos) [] [] cpos) (DQ λσ H R=>to σ H λv l=>dC X.K .itm [v] l R):=by
 intro u s σ H R I h;refine QBt i g (DB (J u s σ H _ I h) λv j #[x,l,C,E,G]=>?_);let#[a,ep,y,rfl,e,q]:=M6 G;cases E;let#[z,L,P,r,B,W,m,Z,N,M,Q]:=(show ZA X.prog X.w l j.1 a (.dT ep y) from C.hok a _ e)
 refine#["dict",_,QB0,PySem.F.slot_dict_items,PySem.F.type_dict_items,#[B,m,Z.1],λb O=>?_,QAf rfl (QCm (eS m Z.1 L ?_))];cases O;exact#[B,m,Z.2.1];have A:Inv X u σ l { j with heap:=j.1.push { cls:=.type "dict_items",data:=.fields (WZ [.ref a]) } }:=C.kept (t':=j.toks) λb o e=>QI _ e;refine MZ #[_,QO _ rfl,rfl,rfl] (QI _ m) N ?_;have Y:W.size=y.length:=by have:=gV wm M;rw[QG,QM]at this;rw[this,<- qq r]
 refine#[_,[_],_,_,l,rfl,A.kept (t':=j.toks) λb o e=>QI _ e,OQ (a:=a) (n:=y.9) (ep:=ep),#[.none,.none,?_],λb hb=>?_,q _ (EW ep a y)];rw[<- Y];exact QO _ rfl;have e:=QJ.mp hb;subst e;exact A.fpOk (QV _) (A.hok.fresh (QV _))
end
end
section
variable{u σ:St}{K:QE}{k:Tg}{H:Hp}{Q:St->Hp->Prop}
def Tg.at:Tg->LN
 | .nm i=>[i]|.tp h=>h
def KQ(k:Tg)(u σ:St):Prop:=u.9=σ.9/\∀(j:Nat),j∉k.at->u[j]?=σ[j]?
theorem xV{i:Nat}{v:Option V}(h:u.9=σ.9)(x:∀j,j≠i->u[j]?=σ[j]?):u.set i v=σ.set i v:=by apply wY;intro j;by_cases e:j=i;subst e;by_cases hl:j<σ.9;rw[wT (),wT hl];rw[qL (by rw[wf];omega),qL (by rw[wf];omega)];rw[qw (qB e),qw (qB e)];exact x j e
theorem OG:∀(x:LN) (vs:LV) (u σ:St),u.9=σ.9->(∀j,j∉x->u[j]?=σ[j]?)->IA x vs u=IA x vs σ
 |[],[],u,σ,hl,h=>by have:u=σ:=wY λj=>h j (by simp);rw[this]|[],_::_,_,_,_,_=>rfl|_::_,[],_,_,_,_=>rfl|i::x,v::vs,u,σ,hl,h=>by simp only[IA];refine OG x vs _ _ (by simp[hl]) λj z=>?_;by_cases e:j=i;subst e;by_cases y:j<σ.9;rw[wT (),wT y];rw[qL (by rw[wf];omega),qL (by rw[wf];omega)];rw[qw (qB e),qw (qB e)];exact h j (by simp[e,z])
theorem lE:∀(h:LN) (vs:LV) (σ u:St),IA h vs σ=Jp u->u.9=σ.9/\∀j,j∉h->u[j]?=σ[j]?
 |[],[],σ,u,e=>by simp only[IA]at e;cases e;exact#[rfl,λ_ _=>rfl]|[],_::_,_,_,e=>by simp[IA]at e|_::_,[],_,_,e=>by simp[IA]at e|i::h,v::vs,σ,u,e=>by simp only[IA]at e;let#[w,y]:=lE h vs _ _ e;refine#[by rw[w,wf],λj x=>?_];rw[y j (λz=>x (QC _ z)),qw (λz=>x (by simp[z]))]
theorem mQ{v:V}(a:KQ k u σ)(h:vE K k v σ H Q):vE K k v u H λx m=>KQ k x σ/\Q x m:=by
 let#[f,g]:=a;cases k with
 |nm i=>have e:u.set i (Jp v)=σ.set i (Jp v):=xV f λj y=>g j (by simpa[Tg.at]using y);show KQ (.nm i) (u.set i (Jp v)) σ/\Q (u.set i (Jp v)) H;rw[e];exact#[#[by simp,λj y=>qw (λz=>y (by simp[Tg.at,z]))],h]|tp b =>
  cases v with|ref p=>let#[w,x,l,e,q]:=h;exact#[w,x,l,by rw[OG b w u σ f λj y=>g j y];exact e,#[(lE b w σ x e).1,λj y=>(lE b w σ x e).2 j y],q]|_=>exact Qh h
theorem YS{v:V}{y:St->Hp->Prop}(m:∀σ H,Q σ H->y σ H)(h:vE K k v σ H Q):vE K k v σ H y:=by
 cases k with
 |nm i=>exact m _ _ h|tp a =>
  cases v with|ref p=>let#[z,x,w,e,q]:=h;exact#[z,x,w,e,m _ _ q]|_=>exact Qh h
theorem oK{it:Item}{x:V}{y:Hp}(w:match it with | .one v=>x=v/\y=H | .tup vs=>∃p,H p=Jr/\x=.ref p/\y=KA H p (.tup vs))(h:bindI K k it σ H Q):vE K k x σ y Q:=by
 cases it with
 |one v=>let#[rfl,rfl]:=w;exact h|tup vs =>
  let#[p,z,rfl,rfl]:=w;cases k with
  |nm i=>exact h p z|tp a =>
   let#[u,e,q]:=h (KA H p (.tup vs)) λb o e=>by rw[vA (aA e z)];exact e
   exact#[vs,u,HC.of YA,e,q]
theorem K1{xs:List Item}{st:Hp->Prop}{tc:TT}{te:TE}{a:St}{Q:VK}(h:Ih K xs st (bindI K k) tc te a H Q):RU K xs st k tc te a H Q:=by
 let#[W,Z,o,j,done]:=h;intro J Y;refine#[λi m v u f=>m=xs.9 - i/\i<=xs.9/\KQ k u a/\W i v f,#[xs.9,by simp,Q3 _,#[rfl,λ_ _=>rfl],Z],?_];rintro i m v u f ⟨rfl,C,F,w⟩;have n:=o i v f C w;by_cases g:i<xs.9;refine .inr #[Y.go i f n g,λx G y=>?_];let#[it,p,B]:=Y.yld i f x G n g y;have b:=mQ F (oK B (j i it v f p w));refine YS (λl I q=>?_) b;let#[r,q]:=q;have E:∀(z:LV) (s:Hp),(∃X,X < xs.9 - i/\X=xs.9 - (i+1)/\i+1<=xs.9/\KQ k l a/\W (i+1) z s)=W (i+1) z s:=λz s =>
  gx #[λ#[_,_,_,_,_,w]=>w,λw=>#[_,(),rfl,g,r,w]]
 simp only[E];exact q
 ·have e:i=xs.length:=()
  subst e;let#[A,q]:=done v f w;exact .inl #[Y.stop _ f n (QV _),A,q]
end
end L2.L3
namespace L2.L3
open PySem PySem.Spec PyProof.Rows
variable{Γ:Ev}
section
variable{X:Cx}{E:XK}{p its:PX}{es:List Expr}{e t it:Expr}{pos:Pos}{S:SC}{Q:LV->Hp->Prop}{G:Glob}{d:ItK}
def IM:PX->Bool
 | .nq _ _=>Jt|_=>Js
theorem pQ(h:IM p=Js):bO X Γ E p es:=by cases p<;>first|trivial|cases h
theorem EN(Q:Bool->Hp->Prop):(λ(x:V) (h:Hp)=>B2 x h Q)=λ(x:V) (h:Hp)=>∃k,x=.bl k/\Q k h:=by funext x h;exact Me x h Q
theorem Snd.of(pe:PE X e (wp X.K Γ p E).e)(pt:PT X e (wp X.K Γ p E).t)(hb:∀h es pos,e≠.BoolOp h es pos)(ha:(wp X.K Γ p E).a=never.a)(x:IM p=true:=by rfl):Snd X Γ E p e :=
 #[pe,pt,λh es pos z=>gJ z (hb h es pos),λes pos z=>by rw[ha];exact SO,λ_ _ _=>pQ x]
theorem Snd.lit(pe:PE X e (wp X.K Γ p E).e)(x:(wp X.K Γ p E).t=never.t)(hb:∀h es pos,e≠.BoolOp h es pos)(ha:(wp X.K Γ p E).a=never.a)(y:IM p=true:=by rfl):Snd X Γ E p e :=
 Snd.of pe (by rw[x];exact ZJ) hb ha y
theorem Snd.args(ha:PA X es (wp X.K Γ p E).a)(u:bO X Γ E p es)(v:(wp X.K Γ p E).e=never.e)(y:(wp X.K Γ p E).t=never.t):Snd X Γ E p (.List es pos) :=
 #[by rw[v];exact sY,by rw[y];exact ZJ,λ_ _ _ z=>(by cases z),λx h z=>by cases z;exact ha,λx h z=>by cases z;exact u]
theorem yc{x:Str}{v:V}{u:Ju}(y:X.env.scope=S.sc)(h:MK S x=Js)(hm:X.mg x=Jp u)(r:lA v u):PE X (.Name x pos) (λ_ H Q=>Q v H):=by let#[w,z,k]:=rC h;exact i5 (show X.env.scope.names.lookup x=Jp .globalImplicit by rw[y];exact w) hm r z
theorem bE:∀(p:PX) {es:List Expr},aB p S (.List es pos)=Js->es.all yC=true:=by
 intro p;induction p with|nr=>intro es h;have h:es.isEmpty=true:=h;rw[Q6.mp h];rfl|nq a u _ y=>intro es h;have h:S5 es _=true:=h;let#[x,t,rfl,h]:=lI h;have z:=yA h;rw[wN,z.1,y (yA z.2).2];rfl|lst u y=>exact λh=>y h|_=>exact λh=>(QF h).elim
theorem oQ{K:QE}{σ:St}{H:Hp}:∀(p:PX),tE p=Js->aB p S (.List [] pos)=Js->((wp K Γ p E).a σ H Q↔Q [] H):=by
 intro p;cases p with|nr=>exact λ_ _=>QAb|nq _ _=>exact λ_ h=>(QF h).elim|_=>exact λh=>(QF h).elim
theorem VW{K:QE}{σ:St}{H:Hp}(p:PX)(h:aB p S (.List [] pos)=Js)(q:(wp K Γ p E).a σ H Q):Q [] H:=by
 cases x:tE p with
 |true=>exact(oQ p x h).mp q|false =>
  cases p with|nr=>exact q|nq _ _=>exact(QF h).elim|_=>exact q.elim
theorem nQ{a:Expr}(p:PX)(h0:tE p=Js)(h:aB p S (.List [a] pos)=Js):∃x,p=.nq x .nr:=by
 cases p with
 |nq x r =>
  have y:aB r S (.List [] pos)=true:=(yA (yA h).2).2;cases r with|nr=>exact#[x,rfl]|nq _ _=>exact(QF y).elim|_=>exact(QF h0).elim
 |nr=>exact(QF h).elim|_=>exact(QF h0).elim
theorem Kh(h:X.A.units+66<Ks)(m:Mt):∃id,Yx m.ty/\Slot m.ty m.nm id/\y3 (.builtin id)=Gu (.type "method_descriptor")/\af X id (Y6 X.K m):=by
 cases m with|append=>exact#[_,QAc,PySem.F.slot_list_append,PySem.F.type_list_append,OV]|pop=>exact#[_,QAc,PySem.F.slot_list_pop,PySem.F.type_list_pop,i6]|join=>exact#[_,PySem.F.plainAttrs_str,PySem.F.slot_str_join,PySem.F.type_str_join,J6]|setd=>exact#[_,QB0,PySem.F.slot_dict_setdefault,PySem.F.type_dict_setdefault,NV h]|reverse=>exact#[_,QAc,PySem.F.slot_list_reverse,PySem.F.type_list_reverse,XR]
theorem cE{env:Env}{pos:Pos}:∀{es:List Expr},es.all yC=Js->(Vv pos (jw es env)).any (·.1)=Jt
 |[],_=>rfl|e::es,h=>by rw[wN]at h;let#[y,x]:=yA h;rw[VA env y];show(Jt||(Vv pos (jw es env)).any (·.1))=Jt;rw[cE x];rfl
theorem rQ{env:Env}{pos:Pos}:∀{es:List Expr},es.all yC=Js->(Vv pos (jw es env)).all (λx=>!x.1)=Js
 |[],_=>rfl|e::es,h=>by rw[wN]at h;let#[z,y]:=yA h;rw[VA env z];show(Js&&(Vv pos (jw es env)).all (λx=>!x.1))=Js;rw[rQ y];rfl
theorem lR(ok:OkX X S G E)(y:Yj (tE its) S d (λes p=>aB its S (.List es p)) t it pos=Js)(j:Nh G d)(m:isItm d=Jt)
  (b:∀es p,aB its S (.List es p)=Js->Snd X G.ev E its (.List es p)):PI X t it (DQ λσ H R=>(wp X.K G.ev its E).a σ H λvs o=>dC X.K d vs o R):=by
 have w:∀{x:Str},MK S x=Js->Gl X x:=λ{x} h=>by show X.env.scope.names.lookup x=Jp .globalImplicit;rw[ok.sc];exact(rC h).1
 have z:pN t=Js->∃es k p,t=.Tuple es k p:=λh=>by
  cases t with|Tuple es k p=>exact#[es,k,p,rfl]|_=>exact(QF h).elim
 cases d with|val=>have i:=yA y;have f:=(b _ pos i.2).pas _ pos rfl;let#[a,rfl]:=nQ its i.1 i.2;exact u5 f.1|rng1=>let#[l,es,n,p,rfl,g,h]:=eE y;have v:=yA h;cases Q6.mp v.1;let#[a,rfl,u]:=mB v.2;exact c5 rfl (w g) (ok.no _ j) ((b _ p u).pa _ p rfl) (by simpa using bE its u)|enum=>have i:=yA y;let#[es,k,pt,rfl]:=z i.1;let#[l,es,n,p,rfl,g,h]:=eE i.2;have v:=yA h;cases Q6.mp v.1;let#[a,rfl,u]:=mB v.2;exact n5 rfl (w g) (ok.no _ j) ((b _ p u).pa _ p rfl) (by simpa using bE its u)|itm=>cases m
theorem m5(ok:OkX X S G E)(x:Yj (tE its) S d (λes p=>aB its S (.List es p)) t it pos=Js)(g:Nh G d)
  (u:∀es p,aB its S (.List es p)=Js->Snd X G.ev E its (.List es p)):Bj X t it (DQ λσ H R=>(wp X.K G.ev its E).a σ H λvs j=>dC X.K d vs j R):=by
 cases b:isItm d with
 |false=>exact(lR ok x g b u).to0|true =>
  cases d with
  |itm =>
   have i:=yA x;have w:=yA i.2;cases t with|Tuple es k pt=>let#[v,l,es,p,rfl,hl,h]:=kU w.2;have f:=yA h;have z:=yA f.2;cases Q6.mp z.1;have y:=(u _ p z.2).pas _ p rfl;let#[a,rfl]:=nQ its w.1 z.2;exact Rb y.1 (yZ f.1) hl|_=>exact(QF i.1).elim
  |_=>cases b
theorem DF{te x:TE}(h:PE X e te)(q:∀σ H Q,x σ H Q->te σ H Q):PE X e x:=λy s σ H Q I z=>h y s σ H Q I (q σ H Q z)
theorem snd:∀(p:PX) {X:Cx}{S:SC}{E:XK}(ok:OkX X S G E) {e:Expr},aB p S e=Js->BA G p->Snd X G.ev E p e:=by
 intro p;induction p with
 |kw i =>
  intro X S E ok e h _;let#[x,pos,rfl,h]:=TD h;let#[Z,B,L,O]:=z4 h;have base:=Ab (pos:=pos) (show X.N[i]?=Jp x by rw[ok.N];exact Z) (show Ni X.env.scope x by rw[ok.sc];exact B) L O;have pe:PE X (.Name x pos) (wp X.K G.ev (.kw i) E).e:=DF base λA H Q q=>by
   have q:(match A[i]? with|some (Jp v)=>Q v H|_=>False):=q;cases hs:A[i]? with
   |none=>rw[hs]at q;exact q.elim|some o =>
    rw[hs]at q;cases o with|none=>exact q.elim|some v=>exact#[v,hs,q]
  exact Snd.of pe (IC pe λ_=>rfl) (λ_ _ _ z=>by cases z) rfl
 |int i=>intro X S E ok e h _;let#[c,k,pos,rfl,h]:=GF h;let#[j,rfl,h]:=Ze h;cases qu h;exact Snd.of tY (IC (ta:=λ_ H Q=>Q (.int i) H) tY λ_=>rfl) (λ_ _ _ z=>by cases z) rfl|str x=>intro X S E ok e h _;let#[c,k,pos,rfl,h]:=GF h;let#[j,rfl,h]:=Ye h;cases qu h;exact Snd.lit Ib rfl (λ_ _ _ z=>by cases z) rfl|bl b=>intro X S E ok e h _;let#[c,k,pos,rfl,h]:=GF h;let#[j,rfl,h]:=F7 h;cases qu h;exact Snd.of i8 (IC (ta:=λ_ H Q=>Q (.bl b) H) i8 λ_=>rfl) (λ_ _ _ z=>by cases z) rfl|non=>intro X S E ok e h _;let#[c,k,pos,rfl,h]:=GF h;cases D7 h;exact Snd.of rY (IC (ta:=λ_ H Q=>Q .non H) rY λ_=>rfl) (λ_ _ _ z=>by cases z) rfl|glo x=>intro X S E ok e h nd;let#[y,pos,rfl,h]:=TD h;have h:=yA h;cases qu h.1;let#[u,hm,r]:=ok.val x nd;have pe:=yc (pos:=pos) ok.sc h.2 hm r;exact Snd.of pe (IC pe λ_=>rfl) (λ_ _ _ z=>by cases z) rfl|bty x n=>intro X S E ok e h nd;let#[y,pos,rfl,h]:=TD h;have h:=yA h;cases qu h.1;let#[g1,g2,g3]:=rC h.2;exact Snd.lit (X5 (show X.env.scope.names.lookup x=Jp .globalImplicit by rw[ok.sc];exact g1) (ok.no x nd.1) nd.2 rfl g3 g2) rfl (λ_ _ _ z=>by cases z) rfl|bin op a b Y M=>intro X S E ok e h nd;let#[l,o,r,pos,rfl,h]:=T5 h;have Z:=yA h;have B:=yA Z.2;cases qu Z.1;have pe:=yh (pos:=pos) (fc op) (Y ok B.1 nd.1).pe (M ok B.2 nd.2).pe;exact Snd.of pe (IC pe λ_=>rfl) (λ_ _ _ z=>by cases z) rfl|cmp op a b Y M=>intro X S E ok e h nd;let#[l,os,rs,pos,rfl,h]:=R5 h;let#[o,rfl,h]:=mB h;let#[r,rfl,h]:=mB h;have Z:=yA h;have B:=yA Z.2;have L:=yA B.2;cases qu Z.1;have pa:=(Y ok L.1 nd.1).pe;have pb:=(M ok L.2 nd.2).pe;refine Snd.of (K5 (pos:=pos) (BY ok.un op) pa pb (zZ B.1)) (λJ s A H Q I q=>A4 (pos:=pos) (BY ok.un op) pa pb (zZ B.1) J s A H Q I ?_) (λ_ _ _ z=>by cases z) rfl;show jg _ _ _ A H (λ(x:V) (W:Hp)=>∃k,x=.bl k/\Q k W);rw[<- EN Q];exact q|neg a Y =>
  intro X S E ok e h nd;let#[o,e,pos,rfl,h]:=DY h;have h:=yA h;cases qu h.1;have base:=jh (pos:=pos) (Ia (X:=X)) (Y ok h.2 nd).pe;refine Snd.lit (λJ s A H Q I q=>base J s A H Q I ?_) rfl (λ_ _ _ z=>by cases z) rfl;have e:(λ(x:V) (W:Hp)=>rU (λi=>V.int (-i)) x W Q)=λ(x:V) (W:Hp)=>(match x with | .int i=>Q (.int (-i)) W|_=>False):=by
   funext x W;apply gx;cases x with|int i=>exact#[λ#[j,e,q]=>by cases e;exact q,λq=>#[i,rfl,q]]|_=>exact#[λ#[j,e,q]=>(by cases e),λq=>Qh q]
  show(wp X.K G.ev a E).e A H (λ(x:V) (W:Hp)=>rU (λi=>V.int (-i)) x W Q);rw[e];exact q
 |and a b Y M =>
  intro X S E ok e h nd;let#[o,es,pos,rfl,h]:=zP h;have Z:=yA h;cases qu Z.1;let#[l,t,rfl,B]:=lI Z.2;let#[r,t,rfl,L]:=lI B;have O:=yA L;have sa:=Y ok O.1 nd.1;have sb:=M ok O.2 nd.2;have eqA:∀(A:St) (Q:VK),(λ(x:V) (W:Hp)=>∃c,x=.bl c/\if c=Js then(wp X.K G.ev b E).e A W Q else Q (.bl Jt) W)=λ(x:V) (W:Hp)=>B2 x W λc H2=>if c=Js then(wp X.K G.ev b E).e A H2 Q else Q (.bl Jt) H2:=λA Q=>(EN _).symm
  have key:PW X (.BoolOp .And (l::r::t) pos) (wp X.K G.ev (.and a b) E).t/\PE X (.BoolOp .And (l::r::t) pos) (λA H Q=>(wp X.K G.ev a E).e A H λx W=>∃c,x=.bl c/\if c=Js then(wp X.K G.ev b E).e A W Q else Q (.bl Jt) W):=by
   cases t with|nil=>exact#[zY sa.pt (T4 sb.pt),eY (pos:=pos) sa.pe (pY sb.pe)]|cons q t=>exact#[zY sa.pt (sb.pw _ _ _ rfl),eY (pos:=pos) sa.pe sb.pe]
  refine#[DF key.2 λA H Q q=>?_,key.1.pt,λ_ _ _ _=>key.1,λ_ _ z=>(by cases z),λ_ _ z=>trivial];rw[eqA];exact q
 |or a b Y M =>
  intro X S E ok e h nd;let#[o,es,pos,rfl,h]:=zP h;have Z:=yA h;cases qu Z.1;let#[l,t,rfl,B]:=lI Z.2;let#[r,t,rfl,L]:=lI B;have O:=yA L;have sa:=Y ok O.1 nd.1;have sb:=M ok O.2 nd.2;have eqA:∀(A:St) (Q:VK),(λ(x:V) (W:Hp)=>∃c,x=.bl c/\if c=Js then Q (.bl Js) W else(wp X.K G.ev b E).e A W Q)=λ(x:V) (W:Hp)=>B2 x W λc H2=>if c=Js then Q (.bl Js) H2 else(wp X.K G.ev b E).e A H2 Q:=λA Q=>(EN _).symm
  have key:PW X (.BoolOp .Or (l::r::t) pos) (wp X.K G.ev (.or a b) E).t/\PE X (.BoolOp .Or (l::r::t) pos) (λA H Q=>(wp X.K G.ev a E).e A H λx W=>∃c,x=.bl c/\if c=Js then Q (.bl Js) W else(wp X.K G.ev b E).e A W Q):=by
   cases t with|nil=>exact#[g8 sa.pt (Db sb.pt),e8 (pos:=pos) sa.pe (pY sb.pe)]|cons q t=>exact#[g8 sa.pt (sb.pw _ _ _ rfl),e8 (pos:=pos) sa.pe sb.pe]
  refine#[DF key.2 λA H Q q=>?_,key.1.pt,λ_ _ _ _=>key.1,λ_ _ z=>(by cases z),λ_ _ z=>trivial];rw[eqA];exact q
 |not a Y=>intro X S E ok e h nd;let#[o,x,pos,rfl,h]:=DY h;have Z:=yA h;cases qu Z.1;have sa:=Y ok Z.2 nd;refine Snd.of (λJ s A H Q I q=>?_) (Gb sa.pt) (λ_ _ _ z=>by cases z) rfl;refine UnaryOp_ (DB (sa.pe J s A H _ I q) λv s1 #[x,W,I1,r1,q1]=>?_);have q1:HE X.K x W (λc H2=>Q (.bl (!c)) H2):=q1;rw[NS]at q1;refine not_of (DB (fX J s1 A W x v _ I1 r1 q1) λc s2 #[H2,I2,q2]=>?_);exact#[.bl (!c),H2,I2,rfl,q2]|call f as ih =>
  intro X S E ok e h nd;let#[p,es,ks,pos,rfl,hg,h]:=eE h;have Z:=yA h;cases Q6.mp Z.1;let#[g1,g2,g3]:=rC hg;have hg:Gl X f:=show X.env.scope.names.lookup f=Jp .globalImplicit by rw[ok.sc];exact g1
  let#[CX,k,a,fd,ps,F,hr,hm,hk,hb,hx,_]:=ok.fn f nd.1;have pa:=(ih ok Z.2 nd.2).pa es pos rfl;have st:=bE as Z.2;have pe:PE X (.Call (.Name f p) es [] pos) (wp X.K G.ev (.call f as) E).e:=by
   cases es with|nil=>exact DF (aY (pos:=pos) (p:=p) F hr hg hm hk hb .nil hx g2) λA H Q q=>VW as Z.2 q|cons e1 P=>have st:=yA st;refine DF (V5 (pos:=pos) (p:=p) F hr hg hm hk hb .nil hx pa g2 (VA _ st.1) (cE st.2)) λA H Q q=>?_;show(wp X.K G.ev as E).a A H λvs W=>G.ev.sp f (vs++[]) W Q E;simp only[wK];exact q
  exact Snd.of pe (IC pe λ_=>rfl) (λ_ _ _ z=>by cases z) rfl
 |idx a b Y M=>intro X S E ok e h nd;let#[v,i,pos,rfl,h]:=RM h;have Z:=yA h;have B:=yA Z.2;have pe:=zh (pos:=pos) (Vd ok.un) (Y ok B.1 nd.1).pe (M ok B.2 nd.2).pe (x5 Z.1);exact Snd.of pe (IC pe λ_=>rfl) (λ_ _ _ z=>by cases z) rfl|nop=>intro X S E ok e h nd;exact(QF h).elim|lst as ih=>intro X S E ok e h nd;let#[es,pos,rfl,h]:=GJ h;have pa:=(ih ok h nd).pa es pos rfl;exact#[jc pa,ZJ,λ_ _ _ z=>(by cases z),λ_ _ z=>SO,λ_ _ z=>trivial]|tup as ih=>intro X S E ok e h nd;let#[es,k,pos,rfl,h]:=M5 h;exact Snd.lit (Eb ((ih ok h nd).pa es pos rfl)) rfl (λ_ _ _ z=>by cases z) rfl|dnew b=>intro X S E ok e h nd;let#[ks,vs,pos,rfl,h]:=jP h;have Z:=yA h;cases Q6.mp Z.1;cases Q6.mp Z.2;exact Snd.lit Y5 rfl (λ_ _ _ z=>by cases z) rfl|dsp a b Y M =>
  intro X S E ok e h nd;let#[ks,vs,pos,rfl,h]:=jP h;let#[k,rfl,h]:=mB h;let#[v,rfl,h]:=mB h;have Z:=yA h;cases k with|none=>exact(QF Z.1).elim|some k=>exact Snd.lit (J5 ok.un (Y ok Z.1 nd.1).pe (M ok Z.2 nd.2).pe) rfl (λ_ _ _ z=>by cases z) rfl
 |lset a Y=>intro X S E ok e h nd;let#[p1,p2,pos,pos2,y,rfl,hg,hg',hy,h]:=zU h;refine Snd.lit (t5 ok.calm (show X.env.scope.names.lookup _=Jp .globalImplicit by rw[ok.sc];exact(rC hg).1) (show X.env.scope.names.lookup _=Jp .globalImplicit by rw[ok.sc];exact(rC hg').1) (ok.no _ nd.1) (ok.no _ nd.2.1) (Y ok h nd.2.2).pe (VA _ hy)) rfl (λ_ _ _ z=>by cases z) rfl|sset a Y=>intro X S E ok e h nd;let#[p1,p2,pos,pos2,y,rfl,hg,hg',hy,h]:=zU h;refine Snd.lit (nY ok.un ok.calm (show X.env.scope.names.lookup _=Jp .globalImplicit by rw[ok.sc];exact(rC hg).1) (show X.env.scope.names.lookup _=Jp .globalImplicit by rw[ok.sc];exact(rC hg').1) (ok.no _ nd.1) (ok.no _ nd.2.1) (Y ok h nd.2.2).pe (VA _ hy)) rfl (λ_ _ _ z=>by cases z) rfl|nr=>intro X S E ok e h nd;let#[es,pos,rfl,h]:=GJ h;cases Q6.mp h;exact Snd.args YY trivial rfl rfl|nq a as Y ih=>intro X S E ok e h nd;let#[es,pos,rfl,h]:=GJ h;let#[e1,P,rfl,h]:=lI h;have Z:=yA h;have B:=yA Z.2;have sa:=(Y ok B.1 nd.1).pe;have ss:=ih ok B.2 nd.2;exact Snd.args (LM sa (ss.pa P pos rfl) (VA _ Z.1)) #[sa,ss.pas P pos rfl] rfl rfl|bi f as ih =>
  intro X S E ok e h nd;let#[p,es,ks,pos,rfl,hg,h]:=eE h;have Z:=yA h;cases Q6.mp Z.1;let#[e1,P,rfl,L]:=lI Z.2;let#[g1,g2,g3]:=rC hg;have hg:Gl X f.nm:=show X.env.scope.names.lookup f.nm=Jp .globalImplicit by rw[ok.sc];exact g1
  have pa:=(ih ok L nd.2).pa _ pos rfl;have st:=yA (bE as L);have pe:PE X (.Call (.Name f.nm p) (e1::P) [] pos) (wp X.K G.ev (.bi f as) E).e:=by
   rcases Zi ok.un ok.calm f with⟨id,hb,hc⟩| ⟨T,hb,hc⟩
   exact RO (pos:=pos) (p:=p) hc hg (ok.no _ nd.1) hb pa g3 g2 (VA _ st.1) (cE st.2);exact tV (pos:=pos) (p:=p) hc hg (ok.no _ nd.1) hb pa g3 g2 (VA _ st.1) (cE st.2)
  exact Snd.of pe (IC pe λ_=>rfl) (λ_ _ _ z=>by cases z) rfl
 |isi a c Y ihc =>
  intro X S E ok e h nd;let#[p,es,ks,pos,rfl,hg,h]:=eE h;have Z:=yA h;cases Q6.mp Z.1;let#[l,r,rfl,B]:=lh Z.2;have L:=yA B;have O:=yA L.2;have h5:=yA O.2;let#[g1,g2,g3]:=rC hg;have hg:Gl X "isinstance":=show X.env.scope.names.lookup ("isinstance":Str)=Jp .globalImplicit by rw[ok.sc];exact g1
  have pe:PE X (.Call (.Name "isinstance" p) [l,r] [] pos) (wp X.K G.ev (.isi a c) E).e :=
   RO (pos:=pos) (p:=p) N1 hg (ok.no _ nd.1) (by kernel_rfl) (LM (Y ok h5.1 nd.2.1).pe (LM (ihc ok h5.2 nd.2.2).pe YY (VA _ O.1)) (VA _ L.1)) g3 g2 (VA _ L.1) (cE (by rw[wN,O.1];rfl))
  exact Snd.of pe (IC pe λ_=>rfl) (λ_ _ _ z=>by cases z) rfl
 |mt m o as iho ih =>
  intro X S E ok e h nd;let#[v,ap,es,pos,rfl,B,h]:=kU h;have h0:=yA h;have Z:=yA h0.2;have L:=yA Z.2;have O:=yA L.2;have po:=(iho ok O.1 nd.1).pe;have pa:=(ih ok O.2 nd.2).pa _ pos rfl;have st:=bE as O.2;let#[id,pat,sl,ty,mr]:=Kh (X:=X) ok.un m;have pe:PE X (.Call (.Attribute v m.nm ap) es [] pos) (wp X.K G.ev (.mt m o as) E).e:=by
   cases es with
   |nil =>
    refine DF (zc (apos:=ap) (cpos:=pos) pat sl ty mr po (yZ Z.1) B) λA H Q q=>?_;have e:(λ(x:V) (W:Hp)=>NW X.K m.ty x W/\Y6 X.K m x [] W Q)=λ(x:V) (W:Hp)=>NW X.K m.ty x W/\(wp X.K G.ev as E).a A W λvs H2=>Y6 X.K m x vs H2 Q:=by funext x W;rw[gx (oQ as h0.1 O.2)]
    show(wp X.K G.ev o E).e A H (λ(x:V) (W:Hp)=>NW X.K m.ty x W/\Y6 X.K m x [] W Q);rw[e];exact q
   |cons e1 P=>have s2:=yA st;refine kh (apos:=ap) (cpos:=pos) pat sl ty mr po pa (yZ Z.1) ?_ B (VA _ s2.1) (cE s2.2);rw[rQ st];have hl':(e1::P).9<20:=gy L.1;show(Js&&Js&&decide ((e1::P).9+0+0<30))=Js;rw[dT (Ql hl' (by decide:20<=30):(e1::P).9+0+0<30)];rfl
  exact Snd.of pe (IC pe λ_=>rfl) (λ_ _ _ z=>by cases z) rfl
 |slc a lo hi Y ihl ihh =>
  intro X S E ok e h nd;let#[v,sl,pos,rfl,h]:=RM h;let#[l,u,st,p2,rfl,h]:=JV h;have Z:=yA h;have B:=yA Z.2;have L:=yA B.2;have part:∀(q:PX) (w:Option Expr),(∀{e:Expr},aB q S e=Js->PE X e (wp X.K G.ev q E).e)->gh w (isNop q) (λe=>!isNop q&&aB q S e)=Js ->
    PO X w (λA H R=>(if isNop q=Js then λ(R:Option Int->Hp->Prop)=>R Jr H else λR=>(wp X.K G.ev q E).e A H λl H2=>BJ l H2 R) R):=by
   intro q w ihq hq;cases w with
   |none=>have e:isNop q=true:=hq;simp only[e,if_true];exact v5|some e' =>
    have q1:=yA hq;have e:isNop q=false:=(Qp _).mp q1.1;simp only[e,qF,if_false];intro J s A H Q I w;refine k5 (ihq q1.2) J s A H Q I ?_;show(wp X.K G.ev q E).e A H (λ(x:V) (W:Hp)=>∃i,x=.int i/\Q (Jp i) W);have e2:(λ(x:V) (W:Hp)=>∃i,x=.int i/\Q (Jp i) W)=λ(x:V) (W:Hp)=>BJ x W Q:=by funext x W;exact(iY x W Q).symm
    rw[e2];exact w
  cases QBY.mp Z.1;exact Snd.lit (oY (pos:=pos) (p2:=p2) bb (Y ok B.1 nd.1).pe (part lo l (λhc=>(ihl ok hc nd.2.1).pe) L.1) (part hi u (λhc=>(ihh ok hc nd.2.2).pe) L.2)) rfl (λ_ _ _ z=>by cases z) rfl
 |comp mask tgs tg d its cond elt ihi ihc ihe =>
  intro X S E ok e h nd;let#[e,gens,scope,pos,rfl,h]:=oR h;let#[#[t,it,ifs,asy],rfl,h]:=mB h;have h0:=yA h;have hi:=yA h0.2;have Z:=yA hi.2;have B:=yA Z.2;have L:=yA B.2;have O:=yA L.2;have h5:=yA O.2;have ea:asy=0:=qu h0.1;cases ea;have C:CompSt X.N X.env.scope scope tgs mask:=by rw[ok.N,ok.sc];exact zQ Z.1
  let#[n1,n2,n3,n4]:=nd;have pi:PI X t it (DQ λA H R=>(wp X.K G.ev its E).a A H λvs W=>dC X.K d vs W R):=lR ok O.1 n1 ((Qp _).mp hi.1) λes p q=>ihi ok q n2;refine Snd.lit (Z5 (pos:=pos) (g:=vE X.K tg) (tc:=if isNop cond=Js then λ_ H Q=>Q Js H else(wp X.K G.ev cond (λ_ _ _=>False)).t) (te:=(wp X.K G.ev elt (λ_ _ _=>False)).e) ok.calm pi C (λs H ex=>?_) (λx=>iR L.1 x)) rfl (λ_ _ _ z=>by cases z) rfl;have okc:=ok.comp scope tgs mask s H ex;refine#[XT okc (λ_ z=>z) C.nd B.1,?_,(ihe okc h5.2 n4).pe];have hif:=h5.1;cases ifs with|nil=>have e:isNop cond=true:=hif;simp only[e,if_true];exact VT|cons c r=>have q1:=yA hif;have q2:=yA q1.2;cases Q6.mp q1.1;have e:isNop cond=false:=(Qp _).mp q2.1;simp only[e,qF,if_false];exact KT (ihc okc q2.2 n3).pt
end
end L2.L3
namespace L2.L3
open PySem PySem.Spec PyProof.Rows
section
variable{s:Ku}{f:Expr->List Ku->List Ku->Bool}
set_option genSizeOf false in
set_option genInjectivity false in
inductive PT where
 |nil|seq (s r:PT)
 |set (i:Nat) (e:PX)
 |expr (e:PX)|ret (e:PX)
 |ife (c:PX) (a b:PT)
 |for_ (tg:Tg) (ik:ItK) (its:PX) (body:PT)
 |own (i:Nat) (e:PX)|tset (is:LN) (e:PX)|six (o i e:PX)|sdf (i:Nat) (k:PX)|whl (c:PX) (body:PT)|frz (is:LN) (s:PT)
def UO(K:QE):V->V->V->Hp->(Hp->Prop)->Prop:=λo i v H Q=>match o,i with
 | .ref p,.int k=>∃h j,H p=Jp (.lst h)/\dO h.9 k=Jp j/\Q (KA H p (.lst (h.set j v)))|.ref p,.str z=>bf K H p (.str z) v Q|.ref p,.ref b=>bf K H p (.ref b) v Q|_,_=>False
def Kg(i:Nat)(k:PX):PX:=.mt .setd (.kw i) %[k,.dnew Js|1]
def Yl(J:It)(g:TG)(v:TS)(D:Ends)(σ:St)(k:Hp):Prop:=∃W:Nat->Nat->St->Hp->Prop,(∃m,W 0 m σ k)/\∀i m σ H,W i m σ H ->
 (J.stop i H/\D.nx σ H)∨(J.go i H/\∃N:St->Hp->Prop,(∀h y,N h y->∃u,u < m/\W (i+1) u h y)/\∀x y,J.yld i H x y->g x σ y λz w=>v { D with nx:=N,ct:=N,bk:=D.nx } z w)
def xf(K:QE)(xs:List Item)(st:Hp->Prop)(h:Tg)(x:TS)(D:Ends)(σ:St)(H:Hp):Prop:=∀J,Yields J xs st->Yl J (vE K h) x D σ H
def gO(K:QE)(Γ:Ev)(E:XK):PT->TS
 | .nil=>λD h H=>D.nx h H|.seq s r=>λD h H=>gO K Γ E s { D with nx:=λh H=>gO K Γ E r D h H } h H|.set i e=>λD h H=>(wp K Γ e E).e h H λx y=>D.nx (h.set i (Jp x)) y|.own i e=>λD h H=>(wp K Γ e E).e h H λx y=>D.nx (h.set i (Jp x)) y|.expr e=>λD h H=>(wp K Γ e E).e h H λ_ y=>D.nx h y|.ret e=>λD h H=>(wp K Γ e E).e h H D.rt|.ife c a b=>λD h H=>(wp K Γ c E).t h H λk y=>if k=Js then gO K Γ E a D h y else gO K Γ E b D h y|.for_ l q u z=>λD h H=>(wp K Γ u E).a h H λj y=>dC K q j y λg st w=>xf K g st l (gO K Γ E z) D h w|.tset p e=>λD h H=>(wp K Γ e E).e h H λx y=>vE K (.tp p) x h y D.nx|.six o i e=>λD h H=>(wp K Γ e E).e h H λv y=>(wp K Γ o E).e h y λm w=>(wp K Γ i E).e h w λn Y=>UO K m n v Y λX=>D.nx h X|.sdf i k=>λD h H=>(wp K Γ (Kg i k) E).e h H λ_ y=>D.nx h y|.whl c z=>hX (wp K Γ c E).t (gO K Γ E z)|.frz _ s=>gO K Γ E s
def mE(G:Glob):PT->Prop
 | .nil=>True|.seq s r=>mE G s/\mE G r|.set _ e=>BA G e|.own _ e=>BA G e|.tset _ e=>BA G e|.six o i e=>BA G o/\BA G i/\BA G e|.sdf i k=>BA G (Kg i k)|.whl c h=>BA G c/\mE G h|.frz _ s=>mE G s|.expr e=>BA G e|.ret e=>BA G e|.ife c a b=>BA G c/\mE G a/\mE G b|.for_ _ y x h=>Nh G y/\BA G x/\mE G h
noncomputable def kF:Expr->Bool
 | .ListComp _ _ _ _ | .SetComp _ _ _ _ | .DictComp _ _ _ _ _=>Jt
 |_=>Js
noncomputable def eM(S:SC)(i:Nat)(x:Str):Bool:=S.N[i]?==Jp x&&(S.sc.names.lookup x==Jp .local||S.sc.names.lookup x==Jp .cell)
noncomputable def mU:PT->Bool
 | .nil=>Jt|.seq _ _=>Jt|.frz _ s=>mU s|_=>Js
noncomputable def kP(s:Ku)(f:List Expr->Expr->Bool):Bool:=match s with | .Assign h v _=>f h v|_=>Jt
noncomputable def Zc(s:Ku)(f:Expr->Bool):Bool:=match s with | .Expr v _=>f v|_=>Jt
noncomputable def Y8(s:Ku)(f:Option Expr->Bool):Bool:=match s with | .Return v _=>f v|_=>Jt
noncomputable def Z8(s:Ku)(f:Expr->List Ku->List Ku->Bool):Bool:=match s with | .If t x y _=>f t x y|_=>Jt
noncomputable def K8(s:Ku)(f:Expr->Expr->List Ku->List Ku->Pos->Bool):Bool:=match s with | .For t it x y p=>f t it x y p|_=>Jt
noncomputable def dh(s:Ku)(f:Expr->List Ku->List Ku->Bool):Bool:=match s with | .While t x y _=>f t x y|_=>Jt
noncomputable def mh:Expr->Bool
 | .Tuple _ _ _=>Jt|.List _ _=>Jt|_=>Js
theorem OI{f:List Expr->Expr->Bool}(h:kP s f=Js):∃ts v p,s=.Assign ts v p/\f ts v=true:=by
 cases s with|Assign ts v p=>exact#[ts,v,p,rfl,h]|_=>exact(QF h).elim
theorem FY{f:Expr->Bool}(h:Zc s f=Js):∃v p,s=.Expr v p/\f v=true:=by
 cases s with|Expr v p=>exact#[v,p,rfl,h]|_=>exact(QF h).elim
theorem N5{f:Option Expr->Bool}(h:Y8 s f=Js):∃v p,s=.Return v p/\f v=true:=by
 cases s with|Return v p=>exact#[v,p,rfl,h]|_=>exact(QF h).elim
theorem O5(h:Z8 s f=Js):∃t x y p,s=.If t x y p/\f t x y=true:=by
 cases s with|If t x y p=>exact#[t,x,y,p,rfl,h]|_=>exact(QF h).elim
theorem P5{f:Expr->Expr->List Ku->List Ku->Pos->Bool}(h:K8 s f=Js):∃t it x y p,s=.For t it x y p/\f t it x y p=true:=by
 cases s with|For t it x y p=>exact#[t,it,x,y,p,rfl,h]|_=>exact(QF h).elim
theorem gc(h:dh s f=Js):∃t x y p,s=.While t x y p/\f t x y=true:=by
 cases s with|While t x y p=>exact#[t,x,y,p,rfl,h]|_=>exact(QF h).elim
def setB(S:SC)(i:Nat)(c:Expr->Bool)(l:List Ku):Bool:=RI l λst=>kP st λh v=>RI h λt=>nG t λx _=>eM S i x&&((kF v||S.sc.names.lookup x==Jp .cell)&&c v)
def O8:PX->Bool
 | .comp _ _ _ _ _ _ _=>Js|_=>Jt
def vT(S:SC)(i:Nat)(e:PX)(l:List Ku):Bool:=RI l λst=>kP st λy v=>RI y λt=>nG t λx z=>Yc v λw u sc h=>Ac S i x&&(S.sc.kind==.function&&(z.line==h.line&&(!(sc.names.any λ(n,k)=>n==x&&(k==.local||k==.cell))&&(O8 e&&aB e S (.ListComp w u sc h)))))
def CN:PT->SC->List Ku->Bool
 | .nil,_,l=>l.isEmpty|.seq s r,S,l=>S5 l λst l=>mU s&&(CN s S [st]&&CN r S l)|.set i e,S,l=>setB S i (aB e S) l||vT S i e l
 | .own i e,S,l=>setB S i (aB e S) l||vT S i e l
 | .frz _ s,S,l=>CN s S l|.expr e,S,l=>RI l λst=>Zc st λv=>kF v&&aB e S v|.ret e,S,l=>RI l λst=>Y8 st λv=>gh v Jt (aB e S)|.ife c a b,S,l=>RI l λst=>Z8 st λt x y=>aB c S t&&(CN a S x&&CN b S y)|.for_ tg ik its body,S,l=>RI l λst=>K8 st λt it x y z=>y.isEmpty&&(rj (λ_=>Js) S tg t&&(cP it&&(Yj (tE its) S ik (λg p=>aB its S (.List g p)) t it z&&CN body S x)))|.tset is e,S,l=>RI l λst=>kP st λh v=>RI h λt=>mh v&&(kF v&&(pN t&&(rj (λ_=>Js) S (.tp is) t&&aB e S v)))|.six o i e,S,l=>RI l λst=>kP st λh v=>RI h λt=>MT t λw u _=>yN u&&(kF v&&(aB e S v&&(aB o S w&&aB i S u)))|.sdf i k,S,l=>RI l λst=>Zc st λv=>kF v&&aB (Kg i k) S v|.whl c body,S,l=>RI l λst=>dh st λt x y=>y.isEmpty&&(aB c S t&&CN body S x)
structure OkS(X:Cx)(S:SC)(G:Glob)(E:XK):Prop extends OkX X S G E where
 po:yq (jz X.prog X.w) X.A X.env X.xe
 nd:X.N.Nodup
 cel:∀x,X.fn x=Js
end
section
variable{X:Cx}{S:SC}{G:Glob}{E:XK}
section
variable{i:Nat}{x:Str}{e:PX}
theorem MJ{e:Expr}{t:Option Expr}{n:Nat}{env:Env}(h:kF e=Js):Vu e t n env=Gu false:=by cases e<;>first|rfl|cases h
theorem VX(n:X.A.units+66<Ks):R7 X (UO X.K):=by
 intro y s w H o i v l m u Q I f g a h;cases o with
 |ref p =>
  cases i with|int k=>let#[r,j,Z,Y,q]:=h;exact UX y s w H _ _ v l m u Q I f g a #[p,r,k,j,rfl,rfl,Z,Y,q]|str z=>exact XO n y s w H _ _ v l m u Q I f g a h|ref b=>exact XO n y s w H _ _ v l m u Q I f g a h|_=>exact Qh h
 |_=>exact Qh h
theorem zV(ok:OkX X S G E)(h:eM S i x=Js):X.N[i]?=Jp x/\Jf X.env.scope x:=by simp only[eM,Qf,w8,beq_iff_eq]at h;rw[ok.N,ok.sc];exact#[h.1,h.2]
theorem pV(ok:OkS X S G E){v:Expr}{w pos:Pos}(j:eM S i x=Js)(a:(kF v||S.sc.names.lookup x==Jp .cell)=Js)(pe:PE X v (wp X.K G.ev e E).e) :
  PS X (.Assign [.Name x w] v pos) (gO X.K G.ev E (.set i e)):=by
 let#[m,l]:=zV ok.toOkX j;refine Hb (pos':=w) ok.nd m l pe ?_ (.inl (ok.cel x));cases u:kF v with
 |true=>exact MJ u|false =>
  rw[u,QBr,beq_iff_eq,<- ok.sc]at a;have hk:X.env.kindOf x=Jp .cell:=a;have h:∀(b c:Bool) (z y:Nat),(Gu (b&&X.env.kindOf x==Jp .local&&z==y&&!c):Sem Bool)=Gu false:=λb c z y=>by
   rw[hk];have:(b&&(Jp NameKind.cell==Jp NameKind.local)&&z==y&&!c)=false:=by cases b<;>rfl
   rw[this]
  cases v with|ListComp n f sc g=>exact h _ _ _ _|SetComp n f sc g=>exact h _ _ _ _|DictComp k v f sc g=>exact h _ _ _ _|_=>cases u
theorem O6(h:O8 e=Js):∃a b c d f g k,e=.comp a b c d f g k:=by
 cases e with|comp a b c d f g k=>exact#[a,b,c,d,f,g,k,rfl]|_=>exact(QF h).elim
theorem Nb(ok:OkS X S G E){l:List Ku}(h:vT S i e l=Js)(nd:BA G e):∃st,l=[st]/\PS X st (gO X.K G.ev E (.set i e)):=by
 let#[st,e1,q1]:=mB h;let#[ts,v,p,e2,q2]:=OI q1;let#[t,e3,q3]:=mB q2;let#[x,px,e4,q4]:=TD q3;let#[el,gs,sc,cp,e5,q5]:=oR q4;subst e1 e2 e3 e4 e5;have L:=yA q5;have J:=yA L.2;have I:=yA J.2;have F:=yA I.2;have B:=yA F.2;let#[u,a,tg,ik,o,y,j,rfl]:=O6 B.1;refine#[_,rfl,?_];have h6:=B.2;let#[el',O,m,pos,ee,g]:=oR h6;cases ee;let#[#[t,it,Y,Z],rfl,g]:=mB g;have g0:=yA g;have M:=yA g0.2;have g1:=yA M.2;have g2:=yA g1.2;have g3:=yA g2.2;have R:=yA g3.2;have P:=yA R.2;have ea:Z=0:=qu g0.1;cases ea;have C:CompSt X.N X.env.scope sc a u:=by rw[ok.N,ok.sc];exact zQ g1.1
 let#[n1,n2,n3,n4]:=nd;let#[l1,l2]:=V6 L.1;have b:X.env.scope.names.lookup x=Jp .local:=by rw[ok.sc];exact l2
 refine z5 (g:=vE X.K tg) (tc:=if isNop y=Js then λ_ H Q=>Q Js H else(wp X.K G.ev y (λ_ _ _=>False)).t) (te:=(wp X.K G.ev j (λ_ _ _=>False)).e) ok.calm ok.nd (by rw[ok.N];exact l1) b (lR ok.toOkX (pos:=cp) R.1 n1 ((Qp _).mp M.1) λes p q=>snd o ok.toOkX q n2) C (λs H ex=>?_) (λx=>iR g3.1 x) ?_;have w:=ok.toOkX.comp sc a u s H ex;refine#[XT w (λ_ z=>z) C.nd g2.1,?_,(snd j w P.2 n4).pe];have f:=P.1;cases Y with|nil=>have e:isNop y=true:=f;simp only[e,if_true];exact VT|cons c r=>have A:=yA f;have W:=yA A.2;cases Q6.mp A.1;have e:isNop y=false:=(Qp _).mp W.1;simp only[e,qF,if_false];exact KT (snd y w W.2 n3).pt
 have k1:X.env.scope.kind=.function:=by rw[ok.sc];exact qu J.1
 have k2:(X.env.blockKind==.function)=true:=by simp[Env.blockKind,k1,ScopeKind.isAnnotationScope]
 have k3:(X.env.kindOf x==Jp .local)=true:=by show(X.env.scope.names.lookup x==Jp .local)=Js;rw[b];rfl
 show(Gu (X.env.blockKind==.function&&X.env.kindOf x==Jp .local&&px.line==cp.line&&!(sc.names.any λ(n,k)=>n==x&&(k==.local||k==.cell))):Sem Bool)=Gu Js;rw[k2,k3,I.1,F.1];rfl
theorem uk:∀(p:PT) {l:List Ku},OkS X S G E->CN p S l=Js->mE G p->XS X l (gO X.K G.ev E p)/\(mU p=Js->∀st,l=[st]->PS X st (gO X.K G.ev E p)):=by
 intro p;have one:∀{p:PT}{st:Ku},PS X st (gO X.K G.ev E p)->XS X [st] (gO X.K G.ev E p)/\(mU p=Js->∀j,[st]=[j]->PS X j (gO X.K G.ev E p)):=λh=>#[E4 h,λ_ j e=>by cases e;exact h]
 have f:∀{i:Nat}{e:PX}{l:List Ku},OkS X S G E->(setB S i (aB e S) l||vT S i e l)=Js->BA G e->∃st,l=[st]/\PS X st (gO X.K G.ev E (.set i e)):=λ{i e l} ok h nd=>by
  rcases(w8 _ _).mp h with h|h
  rotate_left
  exact Nb ok h nd;let#[st,B,n]:=mB h;let#[P,v,p,A,m]:=OI n;let#[t,W,q3]:=mB m;let#[x,px,O,F]:=TD q3;subst B A W O;have z:=yA F;have u:=yA z.2;exact#[_,rfl,pV ok z.1 u.1 (snd e ok.toOkX u.2 nd).pe]
 induction p with
 |nil=>intro l ok h nd;cases Q6.mp h;exact#[j5,λh=>(QF h).elim]|seq s r J L=>intro l ok h nd;let#[st,l,rfl,h]:=lI h;have z:=yA h;have u:=yA z.2;exact#[xY ((J ok u.1 nd.1).2 z.1 st rfl) (L ok u.2 nd.2).1,λh=>(QF h).elim]|set i e=>intro l ok h nd;let#[st,rfl,q]:=f ok h nd;exact one q|own i e=>intro l ok h nd;let#[st,rfl,q]:=f ok h nd;exact one q|expr e=>intro l ok h nd;let#[st,rfl,h]:=mB h;let#[v,p,rfl,h]:=FY h;have z:=yA h;exact one (eT (snd e ok.toOkX z.2 nd).pe (MJ z.1))|ret e =>
  intro l ok h nd;let#[st,rfl,h]:=mB h;let#[v,p,rfl,h]:=N5 h;cases v with|none=>exact(QF h).elim|some v=>exact one (Lb (snd e ok.toOkX h nd).pe)
 |ife c a b N M=>intro l ok h nd;let#[st,rfl,h]:=mB h;let#[t,x,y,p,rfl,h]:=O5 h;have z:=yA h;have u:=yA z.2;exact one (Ig (snd c ok.toOkX z.1 nd.1).pt (N ok u.1 nd.2.1).1 (M ok u.2 nd.2.2).1)|for_ tg ik I C Y=>intro l ok h nd;let#[st,rfl,h]:=mB h;let#[t,it,x,y,p,rfl,h]:=P5 h;have h0:=yA h;have z:=yA h0.2;have u:=yA z.2;have g:=yA u.2;cases Q6.mp h0.1;exact one (Mb ok.po ok.calm (m5 ok.toOkX g.1 nd.1 λH p q=>snd I ok.toOkX q nd.2.1) (XT ok.toOkX (λx _=>ok.cel x) ok.nd z.1) (Y ok g.2 nd.2.2).1 λx=>iR u.1 x)|tset is e =>
  intro l ok h nd;let#[st,B,n]:=mB h;let#[P,v,p,A,m]:=OI n;let#[t,W,h]:=mB m;subst B A W;have z:=yA h;have u:=yA z.2;have g:=yA u.2;have Z:=yA g.2;cases t with
  |Tuple H k pt =>
   refine one (cY (snd e ok.toOkX Z.2 nd).pe (XT ok.toOkX (λx _=>ok.cel x) ok.nd Z.1) ?_ ?_ ?_);show Vu v (Jp (.Tuple H k pt)) p.line X.env=Gu Jt;exact MJ u.1;cases v<;>first|rfl|exact(QF z.1).elim
   rfl
  |_=>exact(QF g.1).elim
 |six o i e =>
  intro l ok h nd;let#[st,B,n]:=mB h;let#[P,v,p,A,m]:=OI n;let#[t,W,h]:=mB m;subst B A W;let#[ov,R,Q,O,F]:=RM h;subst O;have z:=yA F;have u:=yA z.2;have g:=yA u.2;have Z:=yA g.2;refine one (cY (snd e ok.toOkX g.1 nd.2.2).pe (Tb (pos:=Q) (snd o ok.toOkX Z.1 nd.1).pe (snd i ok.toOkX Z.2 nd.2.1).pe (VX ok.un) ?_) ?_ ?_ ?_);intro w;cases R<;>first|rfl|exact(QF z.1).elim
  show Vu v (Jp (.Subscript ov R Q)) p.line X.env=Gu Jt;exact MJ u.1;cases v<;>rfl;rfl
 |sdf i k=>intro l ok h nd;let#[st,rfl,h]:=mB h;let#[v,p,rfl,h]:=FY h;have z:=yA h;exact one (eT (snd (Kg i k) ok.toOkX z.2 nd).pe (MJ z.1))|whl c C Y=>intro l ok h nd;let#[st,rfl,h]:=mB h;let#[t,x,y,p,rfl,h]:=gc h;have z:=yA h;have u:=yA z.2;cases Q6.mp z.1;exact one (uY ok.po (snd c ok.toOkX u.1 nd.1).pt (Y ok u.2 nd.2).1)|frz is s Y=>intro l ok h nd;exact Y ok h nd
end
end
noncomputable abbrev D:=Ky
set_option genInjectivity true in
inductive T where
 |d (x:D)|lst (ts:List T)|tup (ts:List T)|dct (b:Bool) (ks:List D) (ts:List T)
abbrev LT:=List T
mutual
def T.er:T->D
 | .d x=>x|.lst h=>.list (ersT h)|.tup h=>.tuple (ersT h)|.dct _ y h=>.dict (y.zip (ersT h))
def ersT:LT->List D
 |[]=>[]|t::r=>t.er::ersT r
end
theorem bB(ds:List D):ersT (ds.map T.d)=ds:=by
 induction ds with|nil=>rfl|cons d r h=>simp only[QT,ersT,h,T.er]
theorem C0:∀(ts:LT),(ersT ts).9=ts.9
 |[]=>rfl|t::r=>by simp only[ersT,QL,C0 r]
theorem ZN:∀(ts:LT),ersT ts=ts.map T.er
 |[]=>rfl|t::r=>by simp only[ersT,QT,ZN r]
def T.isD:T->Bool
 | .d _=>Js|_=>Jt
set_option genInjectivity true in
inductive Sl where
 |own (t:T)|ny (t:T)
noncomputable abbrev kA:=List (Option Sl)
abbrev bD(x:D):Option Sl:=Jp (.ny (.d x))
abbrev oW(t:T):Option Sl:=Jp (.own t)
def zG(t:T)(n:Bool):Bool:=n||t.isD
def bA(t:T):Bool->T
 |true=>.d t.er|false=>t
theorem fA(x:D)(n:Bool):bA (.d x) n=.d x:=by cases n<;>rfl
theorem tU(t:T)(n:Bool):(bA t n).er=t.er:=by cases n<;>rfl
noncomputable def VD:LT->Option (List D)
 |[]=>Jp []|.d x::r=>(VD r).map (x::·)|_::_=>Jr
theorem oA(ds:List D):VD (ds.map T.d)=Jp ds:=by
 induction ds with|nil=>rfl|cons d r h=>simp only[QT,VD,h,qV]
theorem fJ:∀{ts:LT}{ds:List D},VD ts=Jp ds->ts=ds.map T.d
 |[],ds,h=>by simp only[VD,Qs]at h;subst h;rfl|.d x::r,ds,h=>by
  simp only[VD]at h;cases e:VD r with|none=>rw[e]at h;cases h|some y=>rw[e]at h;cases h;rw[QT,fJ e]
 | .lst _::_,_,h=>by simp[VD]at h|.tup _::_,_,h=>by simp[VD]at h|.dct _ _ _::_,_,h=>by simp[VD]at h
noncomputable def iC:List (D×D)->Option Bool
 | (.tuple _,_)::_=>Jp Js|(.str _,_)::_=>Jp Jt|_=>Jr
def sE:Bool->D->Prop
 |true,k=>∃q,k=tD q|false,k=>∃z,k=.str z
open Classical in
noncomputable def dA:List D->D->Option Nat
 |[],_=>Jr|x::r,k=>if x=k then Jp 0 else(dA r k).map (·+1)
def cR(b:Bool)(ks:List D)(ts:LT)(k:D)(t:T):T:=match dA ks k with
 |some n=>.dct b ks (ts.set n t)|none=>.dct b (ks++[k]) (ts++[t])
theorem zE:∀{ks:List D}{k:D}{n:Nat},dA ks k=Jp n->ks[n]?=Jp k
 |[],_,_,h=>by cases h|x::r,k,n,h=>by
  unfold dA at h;by_cases e:x=k;rw[Gw e]at h;cases h;rw[e];rfl;rw[Gq e]at h;cases q:dA r k with|none=>rw[q]at h;cases h|some m=>rw[q]at h;cases h;simpa using zE q
theorem gC:∀{ks:List D}{k:D},dA ks k=Jr↔k∉ks
 |[],_=>by simp[dA]|x::r,k=>by unfold dA;by_cases e:x=k;simp[e];rw[Gq e,Option.map_eq_none_iff,gC];simp[qB e]
theorem zS{ks:List D}{k:D}:(dA ks k).isSome=Js↔k∈ks:=by
 cases h:dA ks k with|none=>simp[gC.mp h]|some n=>simp[Qq (zE h)]
set_option genInjectivity true in
inductive Vw where
 |sc (x:D)|ls (ts:LT)|tp (ts:LT)|dc (b:Bool) (ks:List D) (ts:LT)
def iB(kvs:List (D×D)):Vw:=match iC kvs with
 |some b=>.dc b (kvs.map (·.1)) (kvs.map λp=>T.d p.2)|none=>.sc (.dict kvs)
def T.vw:T->Vw
 | .lst h=>.ls h|.tup h=>.tp h|.dct b u h=>.dc b u h|.d x=>match x with
  | .list z=>.ls (z.map T.d)|.tuple z=>.tp (z.map T.d)|.dict y=>iB y|.none=>.sc .none|.bool b=>.sc (.bool b)|.int i=>.sc (.int i)|.str s=>.sc (.str s)
def dH(ts:LT):T:=match VD ts with
 |some h=>.d (.tuple h)|none=>.tup ts
noncomputable abbrev XD:=Ju×List (Str×D)
noncomputable abbrev XE:=XD->Prop
noncomputable abbrev TK:=T->Bool->kA->Prop
inductive Md where
 |kq|kr|ny|chg
 deriving DecidableEq
structure PSp where
 md:List Md:=[]
 run:LT->(T->LT->Prop)->XE->Prop
 mono:∀{ts:LT}{Q Q':T->LT->Prop}{E E':XE},(∀t os,Q t os->Q' t os)->(∀x,E x->E' x)->run ts Q E->run ts Q' E':=by intro _ _ _ _ _ h _ z;(repeat let#[y,z]:=z;refine#[y,?_]);first|exact h _ _ z|(intros;apply h;apply z<;>assumption)
structure PEv where
 sp:Str->PSp
 va:Str->Option D
def binT(w:kv)(x y:Vw)(Q:T->Bool->Prop):Prop:=match w with
 | .Add=>(∃i j,x=.sc (.int i)/\y=.sc (.int j)/\Q (.d (.int (i+j))) Jt)∨(∃a b,x=.sc (.str a)/\y=.sc (.str b)/\a.9+b.9<=jx/\Q (.d (.str (a++b))) Jt) ∨
  (∃v u z h,x=.ls v/\y=.ls u/\VD v=Jp z/\VD u=Jp h/\z.9+h.9<=jx/\Q (.lst ((z++h).map T.d)) Js) ∨
  (∃v u z h,x=.tp v/\y=.tp u/\VD v=Jp z/\VD u=Jp h/\z≠[]/\h≠[]/\z.9+h.9<=jx/\Q (.d (.tuple (z++h))) Jt)
 | .Sub=>∃i j,x=.sc (.int i)/\y=.sc (.int j)/\Q (.d (.int (i - j))) Jt|.Mult=>(∃i j,x=.sc (.int i)/\y=.sc (.int j)/\Xs i j/\Q (.d (.int (i * j))) Jt)∨(∃a k,x=.sc (.str a)/\y=.sc (.int k)/\(-(2 ^ 31)<=k/\k<2 ^ 31/\a.9 * k.toNat<=jx)/\Q (.d (.str (RG a k))) Jt)|.FloorDiv=>∃i j,x=.sc (.int i)/\y=.sc (.int j)/\(0<j/\j<2 ^ 200)/\Q (.d (.int (i / j))) Jt|.Mod=>∃i j,x=.sc (.int i)/\y=.sc (.int j)/\0<j/\Q (.d (.int (i % j))) Jt|_=>False
section
variable{Q:T->Bool->Prop}
theorem Fe(i j:Int):binT .Add (.sc (.int i)) (.sc (.int j)) Q=Q (.d (.int (i+j))) false:=by simp[binT]
theorem De(xs h:LT):binT .Add (.ls xs) (.ls h) Q=∃ds es,VD xs=Jp ds/\VD h=Jp es/\ds.9+es.9<=jx/\Q (.lst ((ds++es).map T.d)) true:=by simp[binT]
theorem Ce(i j:Int):binT .Sub (.sc (.int i)) (.sc (.int j)) Q=Q (.d (.int (i - j))) false:=by simp[binT]
theorem Be(i j:Int):binT .Mult (.sc (.int i)) (.sc (.int j)) Q=(Xs i j/\Q (.d (.int (i * j))) Jt):=by simp[binT]
theorem Ue(a:Str)(k:Int):binT .Mult (.sc (.str a)) (.sc (.int k)) Q=((-(2 ^ 31)<=k/\k<2 ^ 31/\a.9 * k.toNat<=jx)/\Q (.d (.str (RG a k))) Jt):=by simp[binT]
theorem Xe(i j:Int):binT .FloorDiv (.sc (.int i)) (.sc (.int j)) Q=((0<j/\j<2 ^ 200)/\Q (.d (.int (i / j))) Jt):=by simp[binT]
theorem Ve(i j:Int):binT .Mod (.sc (.int i)) (.sc (.int j)) Q=(0<j/\Q (.d (.int (i % j))) Jt):=by simp[binT]
end
section
variable{Q:T->Prop}
def Xj:D->D->(Bool->Prop)->Prop
 | .int i,.int j,Q=>Q (decide (i=j))|.str x,.str y,Q=>Q (decide (x=y))|.bool x,.bool y,Q=>Q (decide (x=y))|a,b,Q=>zF a/\zF b/\Q (qP a b)
noncomputable def VB:D->Bool
 | .none | .bool _ | .int _ | .str _=>Js
 |_=>Jt
def Zj:D->D->(Bool->Prop)->Prop
 | .str x,.str y,Q=>Q (inStr y x)|a,.list ds,Q|a,.tuple ds,Q=>((VB a=Js/\ds.all VB=Js)∨(zF a/\zF (.list ds)))/\Q (ds.any λy=>qP y a)
 |a,.dict kvs,Q=>∃b,iC kvs=Jp b/\sE b a/\Q (dA (kvs.map (·.1)) a).isSome|_,_,_=>False
def aV(f:Int->Int->Bool):D->D->(Bool->Prop)->Prop
 | .int i,.int j,Q=>Q (f i j)|_,_,_=>False
def zl(a b:D)(Q:Bool->Prop):Prop:=∃x y,a=.bool x/\b=.bool y/\Q (decide (x=y))
def B1:Vr->D->D->(Bool->Prop)->Prop
 | .Eq,a,b,Q=>Xj a b Q|.NotEq,a,b,Q=>Xj a b λk=>Q (!k)|.Lt,a,b,Q=>aV (λi j=>decide (i<j)) a b Q|.LtE,a,b,Q=>aV (λi j=>decide (i<=j)) a b Q|.Gt,a,b,Q=>aV (λi j=>decide (j<i)) a b Q|.GtE,a,b,Q=>aV (λi j=>decide (j<=i)) a b Q|.In,a,b,Q=>Zj a b Q|.NotIn,a,b,Q=>Zj a b λk=>Q (!k)|.Is,a,b,Q=>zl a b Q|_,_,_,_=>False
def Y7(h:Vr)(x:D)(y:T)(Q:Bool->Prop):Prop:=match y with
 | .dct b u _=>sE b x/\((h=.In/\Q (dA u x).isSome)∨(h=.NotIn/\Q (!(dA u x).isSome)))|.d y=>B1 h x y Q|.lst z=>B1 h x (.list (ersT z)) Q|.tup z=>B1 h x (.tuple (ersT z)) Q
def CG:D->(Bool->Prop)->Prop
 | .bool b,Q=>Q b|.int i,Q=>Q (i != 0)|.none,Q=>Q Jt|.str z,Q=>z.9<=jx/\Q ((z.9:Int) != 0)|.list ds,Q=>Q (!ds.isEmpty)|.tuple ds,Q=>Q (!ds.isEmpty)|_,_=>False
def sf:D->(Bool->Prop)->Prop
 | .bool b,Q=>Q b|_,_=>False
def OP(x:Vw)(k:D)(Q:T->Prop):Prop:=∃b y h n t,x=.dc b y h/\sE b k/\dA y k=Jp n/\h[n]?=Jp t/\Q t
def LK(x y:Vw)(Q:T->Prop):Prop:=(∃z i c,x=.sc (.str z)/\y=.sc (.int i)/\z.9<=jx/\BE z.cps.toList i=Jp c/\Q (.d (.str #[(WZ [c])]))) ∨
 (∃h i t,x=.ls h/\y=.sc (.int i)/\BE h i=Jp t/\Q t)∨(∃h i t,x=.tp h/\y=.sc (.int i)/\BE h i=Jp t/\Q t)
theorem Dd(z:Str)(i:Int):LK (.sc (.str z)) (.sc (.int i)) Q=(z.9<=jx/\∃c,BE z.cps.toList i=Jp c/\Q (.d (.str #[(WZ [c])]))):=by simp[LK]
theorem TZ(ts:LT)(i:Int):LK (.ls ts) (.sc (.int i)) Q=∃t,BE ts i=Jp t/\Q t:=by simp[LK]
theorem Cd(ts:LT)(i:Int):LK (.tp ts) (.sc (.int i)) Q=∃t,BE ts i=Jp t/\Q t:=by simp[LK]
noncomputable def kE{α:Type}(xs:List α)(h x:Option Int):List α:=(xs.drop (HT.sIx xs.9 0 h)).take (HT.sIx xs.9 xs.9 x - HT.sIx xs.9 0 h)
def rJ(x:Vw)(u v:Option Int)(Q:T->Bool->Prop):Prop:=(∃z,x=.sc (.str z)/\z.9<=jx/\Q (.d (.str (QEF z u v))) Jt)∨(∃y h,x=.ls y/\VD y=Jp h/\Q (.lst ((kE h u v).map T.d)) Js) ∨
 (∃y h,x=.tp y/\VD y=Jp h/\¬ (HT.sIx h.9 0 u=0/\HT.sIx h.9 h.9 v=h.9)/\Q (.d (.tuple (kE h u v))) Jt)
end
section
variable{Q:T->Bool->Prop}{h x:Option Int}
theorem JX(ts:LT):rJ (.ls ts) h x Q=∃ds,VD ts=Jp ds/\Q (.lst ((kE ds h x).map T.d)) true:=by simp[rJ]
end
def kH:D->(Option Int->Prop)->Prop
 | .int i,Q=>Q (Jp i)|_,_=>False
noncomputable def isD(n:String):D->Option Bool
 | .none=>Jp Jt|.bool _=>Jp (n == "bool" || n == "int")
 | .int _=>Jp (n == "int")|.str _=>Jp (n == "str")|.list _=>Jp (n == "list")|.tuple _=>Jp (n == "tuple")|.dict _=>Jr
noncomputable def lU(n:String):Bool:=n == "bool" || n == "int" || n == "str" || n == "list" || n == "tuple" || n == "ValueError"
def IF(l:LS):D:=.list (l.map Jx)
def ZW(f:Bi)(vs:List Vw)(Q:T->Bool->Prop):Prop:=match f with
 | .len=>(∃z,vs=[.sc (.str z)]/\z.9<=jx/\Q (.d (.int z.9)) Jt)∨(∃h,vs=[.ls h]/\Q (.d (.int h.9)) Jt)∨(∃h,vs=[.tp h]/\Q (.d (.int h.9)) Jt)|.all=>∃h,∃bs:List Bool,vs=[.ls h]/\VD h=Jp (bs.map PyData.bool)/\Q (.d (.bool (bs.all id))) Jt|.any=>∃h,∃bs:List Bool,vs=[.ls h]/\VD h=Jp (bs.map PyData.bool)/\Q (.d (.bool (bs.any id))) Jt|.list=>∃h u,vs=[.ls h]/\VD h=Jp u/\Q (.lst (u.map T.d)) Js|.tuple=>∃h u,vs=[.ls h]/\VD h=Jp u/\Q (.d (.tuple u)) Jt|.max=>∃i j,vs=[.sc (.int i),.sc (.int j)]/\Q (.d (.int (if j > i then j else i))) Jt|.sorted=>(∃h,∃v:LS,vs=[.ls h]/\VD h=Jp (v.map Jx)/\v.9<64/\∀x:LS,x.Perm v->zy x=Js->Q (.lst ((x.map Jx).map T.d)) Js) ∨
  (∃h,∃ls:List (LS),vs=[.ls h]/\VD h=Jp (ls.map IF)/\ls.9<64/\∀y:List (LS),y.Perm ls->Q (.lst ((y.map IF).map T.d)) Js)
section
variable{Q:T->Bool->Prop}
theorem g9(ts:LT):ZW .len [.ls ts] Q=Q (.d (.int ts.9)) false:=by simp[ZW]
theorem Xi(ts:LT):ZW .any [.ls ts] Q=∃bs:List Bool,VD ts=Jp (bs.map PyData.bool)/\Q (.d (.bool (bs.any id))) false:=by simp[ZW]
theorem Ki(ts:LT):ZW .tuple [.ls ts] Q=∃ds,VD ts=Jp ds/\Q (.d (.tuple ds)) false:=by simp[ZW]
theorem He(i j:Int):ZW .max [.sc (.int i),.sc (.int j)] Q=Q (.d (.int (if j > i then j else i))) false:=gx #[λ#[_,_,e,h]=>by cases e;exact h,λh=>#[_,_,rfl,h]]
theorem Vi(ts:LT):ZW .list [.ls ts] Q=∃ds,VD ts=Jp ds/\Q (.lst (ds.map T.d)) true:=by simp[ZW]
end
def L8(x:Vw)(Q:T->Bool->Prop):Prop:=∃z,∃y:LS,x=.ls z/\VD z=Jp (y.map Jx)/\y.9<4000/\∀h:LS,h.Nodup->(∀s,s∈h↔s∈y)->Q (.d (.int h.9)) Jt
def tpS(r:LS):D:=.tuple (r.map Jx)
def og(x:Vw)(Q:T->Bool->Prop):Prop:=∃z,∃y:LS,x=.ls z/\VD z=Jp (y.map Jx)/\y.9<64/\∀h:LS,h.Nodup->(∀s,s∈h↔s∈y)->zy h=Js->Q (.lst ((h.map Jx).map T.d)) Js
def vL(x:Vw)(Q:T->Bool->Prop):Prop:=og x Q∨∃u,∃y:List (LS),x=.ls u/\VD u=Jp (y.map tpS)/\(y.9<306/\∀r∈y,r≠[])/\∀h:List (LS),h.Nodup->(∀z,z∈h↔z∈y)->h.9<64/\Q (.lst ((h.map tpS).map T.d)) Js
def lf(m:Mt)(x:Vw)(vs:List Vw)(Q:T->Bool->Prop):Prop:=match m with
 | .join=>∃z y,∃h:LS,x=.sc (.str z)/\vs=[.ls y]/\VD y=Jp (h.map Jx)/\(h.map (·.length)).sum+h.9 * z.9<=16777216/\Q (.d (.str (QBz z h))) Jt|_=>False
theorem Vh{Q:T->Bool->Prop}(z:Str)(ts:LT):lf .join (.sc (.str z)) [.ls ts] Q=∃h:LS,VD ts=Jp (h.map Jx)/\(h.map (·.length)).sum+h.9 * z.9<=16777216/\Q (.d (.str (QBz z h))) false:=by simp[lf]
def Vw.isS:Vw->Bool
 | .sc (.str _)=>Js|_=>Jt
noncomputable def isMut:Mt->Bool
 | .append=>Js|.pop=>Js|.setd=>Js|.reverse=>Js|.join=>Jt
def UR(m:Mt)(x:Vw):Bool:=x.isS&&!isMut m
def cN(m:Mt)(s:T)(us:LT)(N:T->T->Prop):Prop:=match m with
 | .append=>∃h t,s=.lst h/\us=[t]/\h.9<jx/\N (.d .none) (.lst (h++[t]))|.pop=>∃h i k t,s=.lst h/\us=[.d (.int i)]/\dO h.9 i=Jp k/\h[k]?=Jp t/\N t (.lst (h.eraseIdx k))|.reverse=>∃x:List D,s=.lst (x.map T.d)/\us=[]/\N (.d .none) (.lst (x.reverse.map T.d))|_=>False
theorem oZ{N:T->T->Prop}(ts:LT)(t:T):cN .append (.lst ts) [t] N=(ts.9<jx/\N (.d .none) (.lst (ts++[t]))):=by simp[cN]
theorem nZ{N:T->T->Prop}(ts:LT)(i:Int):cN .pop (.lst ts) [.d (.int i)] N=∃k t,dO ts.9 i=Jp k/\ts[k]?=Jp t/\N t (.lst (ts.eraseIdx k)):=by simp[cN]
noncomputable def MR:Mt->Bool
 | .append=>Js|.pop=>Js|.setd=>Jt|.reverse=>Js|.join=>Jt
def nI(m:Mt):T->Bool
 | .lst _=>MR m|_=>Jt
noncomputable def Vw.seq:Vw->Option (LT)
 | .ls h=>Jp h|.tp h=>Jp h|_=>Jr
def ZB(v:ItK)(vs:List Vw)(R:LT->Prop):Prop:=match v with
 | .val=>(∃z,vs=[.sc (.str z)]/\R (z.cps.toList.map λc=>.d (.str #[(WZ [c])])))∨(∃h,vs=[.ls h]/\R h)∨(∃h,vs=[.tp h]/\R h)∨(∃y h,vs=[.dc Js y h]/\R (y.map T.d))|.rng1=>∃j,vs=[.sc (.int j)]/\(-(2 ^ 62)<=j/\j<2 ^ 62)/\R ((Qj j.toNat).map λ(i:Nat)=>.d (.int (i:Int)))|.enum=>∃x h u,vs=[x]/\x.seq=Jp h/\VD h=Jp u/\R (u.zipIdx.map λp=>.d (.tuple [.int (p.2:Int),p.1]))|.itm=>(∃y h u,vs=[.dc Js y h]/\VD h=Jp u/\R ((y.zip u).map λp=>.d (.tuple [p.1,p.2])))∨(vs=[.sc (.dict [])]/\R [])
section
variable{R:LT->Prop}
theorem CP(ts:LT):ZB .val [.ls ts] R=R ts:=by simp[ZB]
theorem HZ(ts:LT):ZB .val [.tp ts] R=R ts:=by simp[ZB]
theorem GZ(j:Int):ZB .rng1 [.sc (.int j)] R=((-(2 ^ 62)<=j/\j<2 ^ 62)/\R ((Qj j.toNat).map λ(i:Nat)=>.d (.int (i:Int)))):=by simp[ZB]
theorem BP(x:Vw):ZB .enum [x] R=∃ts ds,x.seq=Jp ts/\VD ts=Jp ds/\R (ds.zipIdx.map λp=>.d (.tuple [.int (p.2:Int),p.1])):=by apply gx;constructor;rintro⟨_,ts,ds,⟨⟩,h⟩;exact#[ts,ds,h];rintro⟨ts,ds,h⟩;exact#[_,ts,ds,rfl,h]
theorem UP(ks:List D)(ts:LT):ZB .itm [.dc Js ks ts] R=∃ds,VD ts=Jp ds/\R ((ks.zip ds).map λp=>.d (.tuple [p.1,p.2])):=by apply gx;constructor;rintro(⟨_,_,ds,⟨⟩,h⟩| ⟨⟨⟩,_⟩);exact#[ds,h];rintro⟨ds,h⟩;exact .inl #[_,_,ds,rfl,h]
theorem VP(ks:List D)(ts:LT):ZB .val [.dc Js ks ts] R=R (ks.map T.d):=by simp[ZB]
theorem FZ:ZB .itm [.sc (.dict [])] R=R []:=by apply gx;constructor;rintro(⟨_,_,x,⟨⟩,h⟩| ⟨_,h⟩);exact h;exact λh=>.inr #[rfl,h]
end
section
variable{K:QE}{H w:Hp}{vs:LV}{ds:List D}
noncomputable def fB:LN->LT->kA->Option kA
 |[],[],ρ=>Jp ρ|i::is,t::ts,ρ=>fB is ts (ρ.set i (Jp (.ny t)))|_,_,_=>Jr
def JI:Tg->T->kA->(kA->Prop)->Prop
 | .nm i,t,ρ,Q=>Q (ρ.set i (Jp (.ny t)))|.tp is,t,ρ,Q=>match t.vw with
  | .tp x=>∃h,fB is x ρ=Jp h/\Q h|_=>False
def Tg.ix:Tg->LN
 | .nm i=>[i]|.tp h=>h
def OX:PX->Option Nat
 | .kw i=>Jp i|_=>Jr
noncomputable def cF:Option Sl->Option Sl
 |some (.own t)=>Jp (.ny t)|s=>s
def lockA(ρ:kA):kA:=ρ.map cF
def lock:LN->kA->kA
 |[],ρ=>ρ|i::is,ρ=>lock is (ρ.modify i cF)
def ER:Option Sl->Option Sl
 |some (.own t)=>bD t.er|s=>s
noncomputable def frzAt:LN->kA->kA
 |[],ρ=>ρ|i::is,ρ=>frzAt is (ρ.modify i ER)
noncomputable def mF:Option Sl->Option Sl
 |some (.ny t)=>if t.isD=Js then Jp (.ny t) else Jr|s=>s
def kill:LN->kA->kA
 |[],ρ=>ρ|i::is,ρ=>kill is (ρ.modify i mF)
noncomputable def clear:LN->kA->kA
 |[],ρ=>ρ|i::is,ρ=>clear is (ρ.set i Jr)
noncomputable def NA:LN->kA->Option (LT)
 |[],_=>Jp []|i::is,ρ=>match ρ[i]? with
  |some (Jp (.own t))=>(NA is ρ).map (t::·)|_=>Jr
noncomputable def IB:LN->LT->kA->Option kA
 |[],[],ρ=>Jp ρ|i::is,t::ts,ρ=>IB is ts (ρ.set i (Jp (.own t)))|_,_,_=>Jr
noncomputable def sD:List Bool->kA->kA
 |b::m,v::ρ=>(if b then Jr else v)::sD m ρ|_,ρ=>ρ
def PK(k:Nat)(mask:List Bool)(ρ:kA):kA:=Q8 k Jr++sD mask ρ
def sq{α:Type}(x:T)(ρ:kA)(b:kA->(α->kA->Prop)->Prop)(K:α->kA->Prop):Prop :=
 if x.isD=Js then b ρ K else b (lockA ρ) λy _=>K y ρ
def cu(f:kA->TK->Prop):kA->(T×Bool->kA->Prop)->Prop:=λy K=>f y λx n h=>K (x,n) h
def RE:List (T×Bool)->LT
 |[]=>[]|p::r=>p.1::RE r
def OK:List (T×Bool)->LT
 |[]=>[]|p::r=>bA p.1 p.2::OK r
noncomputable def HB:List (T×Bool)->List Vw
 |[]=>[]|p::r=>(bA p.1 p.2).vw::HB r
noncomputable def aE:List (T×Bool)->Bool
 |[]=>Js|p::r=>zG p.1 p.2&&aE r
noncomputable def yO:List (T×Bool)->Bool
 |[]=>Js|p::r=>zG p.1 p.2&&yO r
def AE(t:T):Option T:=match t.vw with
 | .ls h=>(VD h).map λds=>.lst (ds.map T.d)|_=>if t.isD=Js then Jp t else Jr
def JA:List Md->List (T×Bool)->LT->Option (LT)
 |_,[],[]=>Jp []|_,[],_::_=>Jr|md,(x,n)::xs,os=>match md.headD .kq with
  | .kq=>match bA x n with
   | .d d=>(JA md.tail xs os).map (.d d::·)|_=>Jr
  | .kr=>match AE (bA x n) with
   |some t=>(JA md.tail xs os).map (t::·)|none=>Jr
  | .ny=>(JA md.tail xs os).map (bA x n::·)|.chg=>match os with
   |o::os=>(JA md.tail xs os).map (o::·)|[]=>Jr
noncomputable def YB:List Md->LT->LT
 |_,[]=>[]|md,t::ts=>match md.headD .kq with
  | .chg=>t::YB md.tail ts|_=>YB md.tail ts
noncomputable def cA:List Md->PX->LN
 | .chg::md,.nq (.kw j) as=>j::cA md as|_::md,.nq _ as=>cA md as|_,_=>[]
def Md.isMut:Md->Bool
 | .chg=>Js|_=>Jt
structure D3 where
 e:kA->TK->Prop
 t:kA->(Bool->kA->Prop)->Prop
 a:List Md->kA->(List (T×Bool)->kA->Prop)->Prop
def mD:D3:=#[λ_ _=>False,λ_ _=>False,λ_ _ _=>False]
def GC(body:T->(Option T->Prop)->Prop):LT->LT->(LT->Prop)->Prop
 |[],acc,Q=>acc.9<=jx/\Q acc|x::xs,acc,Q=>body x fun
  |some y=>acc.9<jx/\GC body xs (acc++[y]) Q|none=>GC body xs acc Q
def sF(v:Tg)(u:kA)(c:kA->(Bool->kA->Prop)->Prop)(e:kA->TK->Prop)(x:T)(R:Option T->Prop):Prop :=
 JI v x u λz=>c z λb h=>if b=Js then e h λy n _=>zG y n=Js/\R (Jp y) else R Jr
def Lh:PX->D->(Bool->Prop)->Prop
 | .bty _ n,d,Q=>∃b,isD n d=Jp b/\lU n=Js/\Q b|_,_,_=>False
def Mc(x:T)(Q:T->Prop):Prop:=∃i,x=.d (.int i)/\Q (.d (.int (-i)))
def sj:Option (Option Sl)->(T->Prop)->Prop
 |some (Jp (.own t)),Q=>Q t|some (Jp (.ny t)),Q=>Q t|some Jr,_=>False|none,_=>False
def zD:Option (Option Sl)->(T->Prop)->Prop
 |some (Jp (.own t)),Q=>Q t|some (Jp (.ny _)),_=>False|some Jr,_=>False|none,_=>False
def u8:Option Nat->(Nat->Prop)->Prop
 |none,_=>False|some j,Q=>Q j
def OZ:PX->Bool
 | .kw _=>Js|_=>Jt
def pe(Ψ:PEv):PX->XE->D3
 | .kw i,_=>let e:kA->TK->Prop:=λv Q=>sj v[i]? λt=>Q t Jt v
  #[e,λv Q=>e v λt _ h=>CG t.er λb=>Q b h,mD.a]
 | .int i,_=>#[λv Q=>Q (.d (.int i)) Jt v,λv Q=>Q (i != 0) v,mD.a]|.str x,_=>#[λv Q=>Q (.d (.str x)) Jt v,mD.t,mD.a]|.bl b,_=>#[λv Q=>Q (.d (.bool b)) Jt v,λv Q=>Q b v,mD.a]|.non,_=>#[λv Q=>Q (.d .none) Jt v,λv Q=>Q Jt v,mD.a]|.glo x,_=>let e:kA->TK->Prop:=λv Q=>match Ψ.va x with
   |some d=>Q (.d d) Jt v|none=>False
  #[e,λv Q=>e v λt _ h=>CG t.er λb=>Q b h,mD.a]
 | .bty _ _,_=>mD|.bin op a b,E=>let e:kA->TK->Prop:=λv Q=>(pe Ψ a E).e v λx n h=>sq (bA x n) h (cu (pe Ψ b E).e) λy g=>binT op (bA x n).vw (bA y.1 y.2).vw λz k=>Q z k g
  #[e,λv Q=>e v λt _ h=>CG t.er λb=>Q b h,mD.a]
 | .cmp op a b,E=>let t:kA->(Bool->kA->Prop)->Prop:=λv Q=>(pe Ψ a E).e v λx n h=>sq (bA x n) h (cu (pe Ψ b E).e) λy g=>Y7 op x.er (bA y.1 y.2) λk=>Q k g
  #[λv Q=>t v λk h=>Q (.d (.bool k)) Jt h,t,mD.a]
 | .neg a,E=>#[λv Q=>(pe Ψ a E).e v λx _ h=>Mc x λt=>Q t Jt h,mD.t,mD.a]|.and a b,E=>#[λv Q=>(pe Ψ a E).e v λx _ h=>sf x.er λc=>if c=Js then(pe Ψ b E).e h Q else Q (.d (.bool Jt)) Jt h,
   λv Q=>(pe Ψ a E).t v λc h=>if c=Js then(pe Ψ b E).t h Q else Q Jt h,mD.a]
 | .or a b,E=>#[λv Q=>(pe Ψ a E).e v λx _ h=>sf x.er λc=>if c=Js then Q (.d (.bool Js)) Jt h else(pe Ψ b E).e h Q,
   λv Q=>(pe Ψ a E).t v λc h=>if c=Js then Q Js h else(pe Ψ b E).t h Q,mD.a]
 | .not a,E=>#[λv Q=>(pe Ψ a E).e v λx _ h=>CG x.er λc=>Q (.d (.bool (!c))) Jt h,λv Q=>(pe Ψ a E).t v λc h=>Q (!c) h,mD.a]|.call f as,E=>let e:kA->TK->Prop:=λv Q=>∃W,NA (cA (Ψ.sp f).md as) v=Jp W/\(cA (Ψ.sp f).md as).Nodup/\(pe Ψ as E).a (Ψ.sp f).md (clear (cA (Ψ.sp f).md as) v) λp h=>∃Z,JA (Ψ.sp f).md p W=Jp Z/\(Ψ.sp f).run Z (λr X=>∃g,IB (cA (Ψ.sp f).md as) X h=Jp g/\Q r Js g) E
  #[e,λv Q=>e v λt _ h=>CG t.er λb=>Q b h,mD.a]
 | .isi a c,E=>let t:kA->(Bool->kA->Prop)->Prop:=λv Q=>(pe Ψ a E).e v λx _ h=>Lh c x.er λb=>Q b h
  #[λv Q=>t v λk h=>Q (.d (.bool k)) Jt h,t,mD.a]
 | .bi f as,E=>let e:kA->TK->Prop:=λv Q=>(pe Ψ as E).a [] v λp h=>ZW f (HB p) λz k=>Q z k h
  #[e,λv Q=>e v λt _ h=>CG t.er λb=>Q b h,mD.a]
 | .mt m o as,E=>let e:kA->TK->Prop:=λv Q=>if isMut m=Js then u8 (OX o) λj=>zD v[j]? λt=>nI m t=Js/\(pe Ψ as E).a [] (v.set j (Jp (.ny t))) λp g=>aE p=Js/\g[j]?=Jp (Jp (.ny t))/\cN m t (RE p) λr B=>Q r Js (g.set j (Jp (.own B))) else(pe Ψ o E).e v λx n h=>UR m (bA x n).vw=Js/\sq (bA x n) h ((pe Ψ as E).a []) λp g=>lf m (bA x n).vw (HB p) λz k=>Q z k g
  #[e,λv Q=>e v λt _ h=>CG t.er λb=>Q b h,mD.a]
 | .idx a b,E=>let e:kA->TK->Prop:=λv Q=>(pe Ψ a E).e v λx n h=>sq (bA x n) h (cu (pe Ψ b E).e) λy g=>(LK (bA x n).vw (bA y.1 y.2).vw λz=>Q z Jt g)∨(OP (bA x n).vw y.1.er λz=>Q z Jt g)
  #[e,λv Q=>e v λt _ h=>CG t.er λb=>Q b h,mD.a]
 | .slc a lo hi,E=>#[λv Q=>(pe Ψ a E).e v λx n h =>
   sq (α:=Option Int) (bA x n) h (if isNop lo=Js then λv (R:Option Int->kA->Prop)=>R Jr v else λv R=>(pe Ψ lo E).e v λl _ g=>kH l.er λo=>R o g) λl g =>
   sq (α:=Option Int) (bA x n) g (if isNop hi=Js then λv (R:Option Int->kA->Prop)=>R Jr v else λv R=>(pe Ψ hi E).e v λu _ q=>kH u.er λo=>R o q) λu q=>rJ (bA x n).vw l u λz k=>Q z k q,mD.t,mD.a]
 | .nop,_=>mD|.lst as,E=>#[λv Q=>(pe Ψ as E).a [] v λp h=>aE p=Js/\p.9<=jx/\Q (.lst (RE p)) Js h,mD.t,mD.a]|.tup as,E=>#[λv Q=>(pe Ψ as E).a [] v λp h=>aE p=Js/\p.9<=jx/\Q (dH (RE p)) Js h,mD.t,mD.a]|.comp mask tgs tg ik its cond elt,E=>#[λv Q=>(pe Ψ its E).a [] v λp h=>ZB ik (HB p) λs =>
   GC (sF tg (PK tgs.9 mask (lockA h)) (if isNop cond=Js then λv R=>R Js v else(pe Ψ cond (λ_=>False)).t) (pe Ψ elt (λ_=>False)).e) s [] λA=>Q (.lst A) Js h,mD.t,mD.a]
 | .dnew b,_=>#[λv Q=>Q (.dct b [] []) Js v,mD.t,mD.a]|.dsp a b,E=>#[λv Q=>(pe Ψ a E).e v λy m h=>zG y m=Js/\(pe Ψ b E).e h λx n g=>zG x n=Js/\sE Js y.er/\Q (.dct Js [y.er] [x]) Js g,mD.t,mD.a]|.lset a,E=>#[λv Q=>(pe Ψ a E).e v λx n h=>L8 (bA x n).vw λz k=>Q z k h,mD.t,mD.a]|.sset a,E=>#[λv Q=>(pe Ψ a E).e v λx n h=>vL (bA x n).vw λz k=>Q z k h,mD.t,mD.a]|.nr,_=>#[mD.e,mD.t,λ_ v Q=>Q [] v]|.nq a as,E=>#[mD.e,mD.t,λY v Q=>if(Y.headD .kq).isMut=Js then OZ a=Js/\(pe Ψ as E).a Y.tail v λp h=>Q ((.d .none,Js)::p) h
   else(pe Ψ a E).e v λx n h=>sq (α:=List (T×Bool)) (if n=Js then .d .none else x) h ((pe Ψ as E).a Y.tail) λp g=>Q ((x,n)::p) g]
structure PEnds where
 nx:kA->Prop
 rt:T->kA->Prop
 bk:kA->Prop:=λ_=>False
 ct:kA->Prop:=λ_=>False
noncomputable def SF:PX->LN
 | .kw i=>[i]|.idx a _=>SF a|.and a b | .or a b=>SF a++SF b
 | .nq a h=>SF a++SF h|_=>[]
noncomputable def FJ:Option (Option Sl)->Bool
 |some (Jp (.own _))=>Js|some (Jp (.ny _))=>Jt|some Jr=>Jt|none=>Jt
def jC(ρ:kA):LN->LN
 |[]=>[]|i::is=>if FJ ρ[i]?=Js then i::jC ρ is else jC ρ is
noncomputable def oC:LN->kA->kA->kA
 |[],_,ρ=>ρ|i::L,ρ0,ρ=>oC L ρ0 (ρ.set i (ρ0[i]?.getD Jr))
def LQ(J L:LN)(h:kA)(N:kA->Prop)(ρ:kA):Prop:=(∀i∈L,i∉J/\ρ[i]?=h[i]?.map cF)/\N (oC L h ρ)
def sG(body:PEnds->kA->Prop)(z:Tg)(Z:PEnds):LT->kA->Prop
 |[],ρ=>Z.nx ρ|x::xs,ρ=>JI z x ρ λy=>body { Z with nx:=λh=>sG body z Z xs h,ct:=λh=>sG body z Z xs h,bk:=Z.nx } y
def Kk(ρ:kA)(i:Nat)(R:T->kA->Prop):Option (Option Sl)->Prop
 |some (Jp (.own t))=>R t (ρ.set i Jr)|some (Jp (.ny t))=>t.isD=Js/\R t ρ|some Jr=>False|none=>False
def XI(Ψ:PEv)(E:XE)(y:T->kA->Prop):PX->kA->Prop
 | .kw i,ρ=>Kk ρ i y ρ[i]?|e,ρ=>(pe Ψ e E).e ρ λx n h=>zG x n=Js/\y x h
def lg:T->D->D->(T->Prop)->Prop
 | .lst ts,.int i,x,Q=>∃n,dO ts.9 i=Jp n/\Q (.lst (ts.set n (.d x)))|.dct b ks ts,k,x,Q=>sE b k/\ks.9<jx/\Q (cR b ks ts k (.d x))|_,_,_,_=>False
noncomputable def ck:PX->Option (Nat×Option PX)
 | .kw j=>Jp (j,Jr)|.idx (.kw j) k=>Jp (j,Jp k)|_=>Jr
def gb(k:D)(t:T)(Q:T->Prop):Prop:=∃h x,t=.dct Js h x/\sE Js k/\h.9<jx/\((∃n,dA h k=Jp n/\Q t)∨(dA h k=Jr/\Q (.dct Js (h++[k]) (x++[.dct Js [] []]))))
def g7:T->Bool
 | .dct Js _ _=>Js|_=>Jt
def cg(z:D)(t:T)(Q:T->(T->T)->Prop):Prop:=∃b x h n s,t=.dct b x h/\sE b z/\dA x z=Jp n/\h[n]?=Jp s/\Q s λy=>.dct b x (h.set n y)
def lB(Ψ:PEv)(E:XE):PT->PEnds->kA->Prop
 | .nil,Z,u=>Z.nx u|.seq s r,Z,u=>lB Ψ E s { Z with nx:=λf=>lB Ψ E r Z f } u|.set i e,Z,u=>(pe Ψ e E).e u λx n h=>zG x n=Js/\Z.nx (h.set i (bD x.er))|.expr e,Z,u=>(pe Ψ e E).e u λ_ _ h=>Z.nx h|.ret e,Z,u=>XI Ψ E Z.rt e u|.ife c a b,Z,u=>(pe Ψ c E).t u λk h=>if k=Js then lB Ψ E a Z h else lB Ψ E b Z h|.for_ tg ik its body,Z,u=>(pe Ψ its E).a [] u λY h=>ZB ik (HB Y) λg =>
   if yO Y=Js then sG (lB Ψ E body) tg { Z with nx:=λv=>Z.nx (kill tg.ix v) } g h
   else sG (lB Ψ E body) tg { Z with nx:=λv=>LQ tg.ix (jC h (SF its)) h Z.nx (kill tg.ix v) } g (lock (jC h (SF its)) h)
 | .own i e,Z,u=>(pe Ψ e E).e u λx n h=>zG x n=Js/\Z.nx (h.set i (Jp (.own x)))|.tset is e,Z,u=>(pe Ψ e E).e u λx n h=>zG x n=Js/\JI (.tp is) (.d x.er) h Z.nx|.six o i e,Z,u=>match ck o with
  |none=>False|some (j,Jr)=>zD u[j]? λt=>(pe Ψ e E).e (u.set j (Jp (.ny t))) λx n h=>zG x n=Js/\(pe Ψ i E).e h λy m v=>zG y m=Js/\v[j]?=Jp (Jp (.ny t))/\lg t y.er x.er λX=>Z.nx (v.set j (Jp (.own X)))|some (j,Jp k)=>zD u[j]? λt=>(pe Ψ e E).e (u.set j (Jp (.ny t))) λx n h=>zG x n=Js/\(pe Ψ k E).e h λz l v=>zG z l=Js/\cg z.er t λs put=>(pe Ψ i E).e v λy m p=>zG y m=Js/\p[j]?=Jp (Jp (.ny t))/\lg s y.er x.er λA=>Z.nx (p.set j (Jp (.own (put A))))
 | .sdf j k,Z,u=>zD u[j]? λt=>g7 t=Js/\(pe Ψ k E).e (u.set j (Jp (.ny t))) λy m h=>zG y m=Js/\h[j]?=Jp (Jp (.ny t))/\gb y.er t λX=>Z.nx (h.set j (Jp (.own X)))|.whl c body,Z,u=>∃W:Nat->kA->Prop,(∃m,W m u)/\∀m u,W m u->(pe Ψ c E).t u λb h=>if b=Js then
   lB Ψ E body { Z with nx:=λf=>∃q,q < m/\W q f,ct:=λf=>∃q,q < m/\W q f,bk:=Z.nx } h else Z.nx h
 | .frz is s,Z,u=>lB Ψ E s Z (frzAt is u)
abbrev pF(Ψ:PEv):PT->PEnds->kA->Prop:=lB Ψ λ_=>False
theorem _root_.L2.Same.rd{H w:Hp}(e:Same H w){a:jy}{u:HO}(h:Rd H a u):Rd w a u:=by
 rcases h with h|⟨o,h⟩
 exact .inl (e _ _ h);exact .inr #[o,e _ _ h]
theorem _root_.L2.Same.tupl{a:jy}{xs:LV}(e:Same H w)(h:HC K H a xs):HC K w a xs:=by rcases h with h|h;exact .inl (e.rd h);exact .inr h
theorem dI.mono(e:Same H w){b:Bool}{o:HO}{ks:List D}(h:dI K H b o ks vs):dI K w b o ks vs:=by
 cases b with|true=>let#[f,x,a,k,v,u,z]:=h;exact#[f,x,a,k,v,λp y=>e.tupl (u p y),z]|false=>exact h
theorem Rep.mono2(e:Same H w):(∀{v:V}{d:D},Rep K H v d->Rep K w v d)/\∀{vs:LV}{ds:List D},Reps K H vs ds->Reps K w vs ds :=
 Rep.both (P:=Rep K w) (R:=Reps K w) .non .bl .int .str (λh _ r=>.lst (e.seq h) r) (λh _ r=>.tup (e.tupl h) r) (λh q _ r=>.dct (e _ _ h) (q.mono e) r) .nil λ_ _ h r=>.cons h r
theorem Rep.mono(e:Same H w){v:V}{d:D}(h:Rep K H v d):Rep K w v d:=(Rep.mono2 e).1 h
theorem Reps.mono(e:Same H w)(h:Reps K H vs ds):Reps K w vs ds:=(Rep.mono2 e).2 h
theorem Reps.append{ws:LV}{es:List D}(h:Reps K H vs ds)(r:Reps K H ws es):Reps K H (vs++ws) (ds++es):=Reps.ind (R:=λvs ds=>Reps K H (vs++ws) (ds++es)) r (λh t=>.cons h t) h
theorem Reps.reverse(h:Reps K H vs ds):Reps K H vs.reverse ds.reverse:=Reps.ind (R:=λvs ds=>Reps K H vs.reverse ds.reverse) .nil (λr x=>by rw[QAh,QAh];exact x.append (.cons r .nil)) h
theorem Reps.drop{K:QE}{H:Hp}:∀{vs:LV}{ds:List D}(n:Nat),Reps K H vs ds->Reps K H (vs.drop n) (ds.drop n)
 |_,_,0,r=>r|_,_,_+1,.nil=>.nil|_,_,n+1,.cons _ t=>Reps.drop n t
theorem Reps.take{K:QE}{H:Hp}:∀{vs:LV}{ds:List D}(n:Nat),Reps K H vs ds->Reps K H (vs.take n) (ds.take n)
 |_,_,0,_=>.nil|_,_,_+1,.nil=>.nil|_,_,n+1,.cons h t=>.cons h (Reps.take n t)
theorem Reps.bools{K:QE}{H:Hp}:∀{vs:LV}{bs:List Bool},Reps K H vs (bs.map PyData.bool)->vs=bs.map V.bl
 |_,[],.nil=>rfl|_,b::bs,.cons h t=>by cases h;rw[QT,Reps.bools t]
theorem CB{p:jy}{o:HO}(h:H p=Jr):Same H (KA H p o):=λb u q=>by rw[vA (aA q h)];exact q
end
mutual
inductive Tr(K:QE)(F H:Hp):Bool->V->T->(jy->Prop)->Prop where
 |d {st:Bool}{v:V}{x:D}{S:kB}:Rep K F v x->(∀b,¬ S b)->Tr K F H st v (.d x) S
 |lst {st:Bool}{a:jy}{vs:LV}{ts:LT}{S S':kB}:H a=Jp (.lst vs)->F a=Jr->Trs K F H st vs ts S'->¬ S' a->(∀b,S b↔b=a∨S' b)->Tr K F H st (.ref a) (.lst ts) S
 |tup {st:Bool}{a:jy}{vs:LV}{ts:LT}{S S':kB}:H a=Jp (.tup vs)->F a=Jr->Trs K F H st vs ts S'->¬ S' a->(∀b,S b↔b=a∨S' b)->Tr K F H st (.ref a) (.tup ts) S
 |lstF {a:jy}{vs:LV}{ds:List D}{S:kB}:uC K F a vs->Reps K F vs ds->(∀b,¬ S b)->Tr K F H Jt (.ref a) (.lst (ds.map T.d)) S
 |dct {st b:Bool}{a:jy}{o:HO}{ks:List D}{vs:LV}{ts:LT}{S S':kB}:H a=Jp o->dI K F b o ks vs->F a=Jr->Trs K F H st vs ts S'->¬ S' a->(∀b,S b↔b=a∨S' b)->Tr K F H st (.ref a) (.dct b ks ts) S
inductive Trs(K:QE)(F H:Hp):Bool->LV->LT->(jy->Prop)->Prop where
 |nil {st:Bool}{S:kB}:(∀b,¬ S b)->Trs K F H st [] [] S
 |cons {st:Bool}{v:V}{t:T}{vs:LV}{ts:LT}{S S1 S2:kB}:Tr K F H st v t S1->Trs K F H st vs ts S2->(∀b,S1 b->¬ S2 b)->(∀b,S b↔S1 b∨S2 b)->Trs K F H st (v::vs) (t::ts) S
end
section
variable{K:QE}{F H w c:Hp}
section
variable{R:Bool->LV->LT->(jy->Prop)->Prop}{st b:Bool}{v:V}{t:T}{S:kB}{vs:LV}{ts:LT}{ds ks:List D}{i:Int}{kvs:List (D×D)}
theorem Tr.both{P:Bool->V->T->(jy->Prop)->Prop}
    (d:∀{st:Bool}{v:V}{x:D}{S:kB},Rep K F v x->(∀b,¬ S b)->P st v (.d x) S)
    (lst:∀{st:Bool}{a:jy}{vs:LV}{ts:LT}{S S':kB},H a=Jp (.lst vs)->F a=Jr->Trs K F H st vs ts S'->¬ S' a->(∀b,S b↔b=a∨S' b)->R st vs ts S'->P st (.ref a) (.lst ts) S)
    (tup:∀{st:Bool}{a:jy}{vs:LV}{ts:LT}{S S':kB},H a=Jp (.tup vs)->F a=Jr->Trs K F H st vs ts S'->¬ S' a->(∀b,S b↔b=a∨S' b)->R st vs ts S'->P st (.ref a) (.tup ts) S)
    (y:∀{a:jy}{vs:LV}{ds:List D}{S:kB},uC K F a vs->Reps K F vs ds->(∀b,¬ S b)->P Jt (.ref a) (.lst (ds.map T.d)) S)
    (dct:∀{st b:Bool}{a:jy}{o:HO}{ks:List D}{vs:LV}{ts:LT}{S S':kB},H a=Jp o->dI K F b o ks vs->F a=Jr->Trs K F H st vs ts S'->¬ S' a->(∀b,S b↔b=a∨S' b)->R st vs ts S'->P st (.ref a) (.dct b ks ts) S)
    (u:∀{st:Bool}{S:kB},(∀b,¬ S b)->R st [] [] S)
    (z:∀{st:Bool}{v:V}{t:T}{vs:LV}{ts:LT}{S S1 k:kB},Tr K F H st v t S1->Trs K F H st vs ts k->(∀b,S1 b->¬ k b)->(∀b,S b↔S1 b∨k b)->P st v t S1->R st vs ts k->R st (v::vs) (t::ts) S) :
    (∀{st:Bool}{v:V}{t:T}{S:kB},Tr K F H st v t S->P st v t S)/\∀{st:Bool}{vs:LV}{ts:LT}{S:kB},Trs K F H st vs ts S->R st vs ts S :=
  #[λh=>Tr.rec (motive_1:=λst v t S _=>P st v t S) (motive_2:=λst vs ts S _=>R st vs ts S) @d @lst @tup @y @dct @u @z h,
   λh=>Trs.rec (motive_1:=λst v t S _=>P st v t S) (motive_2:=λst vs ts S _=>R st vs ts S) @d @lst @tup @y @dct @u @z h]
theorem Tr.mono2(e:Same F w):(∀{st:Bool}{v:V}{t:T}{S:kB},Tr K F H st v t S->(∀b,S b->c b=H b/\w b=Jr)->Tr K w c st v t S)/\∀{st:Bool}{vs:LV}{ts:LT}{S:kB},Trs K F H st vs ts S->(∀b,S b->c b=H b/\w b=Jr)->Trs K w c st vs ts S :=
 Tr.both (P:=λst v t S=>(∀b,S b->c b=H b/\w b=Jr)->Tr K w c st v t S) (R:=λst v t S=>(∀b,S b->c b=H b/\w b=Jr)->Trs K w c st v t S)
  (λr n _=>.d (r.mono e) n)
  (λ{_ a _ _ _ _} h _ _ n q x k=>.lst ((k a ((q a).mpr (.inl rfl))).1.trans h) (k a ((q a).mpr (.inl rfl))).2 (x λb hb=>k b ((q b).mpr (.inr hb))) n q)
  (λ{_ a _ _ _ _} h _ _ n q x k=>.tup ((k a ((q a).mpr (.inl rfl))).1.trans h) (k a ((q a).mpr (.inl rfl))).2 (x λb hb=>k b ((q b).mpr (.inr hb))) n q)
  (λh r n _=>.lstF (e.seq h) (r.mono e) n)
  (λ{_ _ a _ _ _ _ _ _} h u _ _ n q x k=>.dct ((k a ((q a).mpr (.inl rfl))).1.trans h) (u.mono e) (k a ((q a).mpr (.inl rfl))).2 (x λb hb=>k b ((q b).mpr (.inr hb))) n q)
  (λn _=>.nil n)
  (λ_ _ n q z y k=>.cons (z λb hb=>k b ((q b).mpr (.inl hb))) (y λb hb=>k b ((q b).mpr (.inr hb))) n q)
theorem Tr.mono(e:Same F w)(h:Tr K F H st v t S)(k:∀b,S b->c b=H b/\w b=Jr):Tr K w c st v t S:=(Tr.mono2 e).1 h k
theorem Trs.mono(e:Same F w)(h:Trs K F H st vs ts S)(k:∀b,S b->c b=H b/\w b=Jr):Trs K w c st vs ts S:=(Tr.mono2 e).2 h k
theorem Tr.weak2:(∀{st:Bool}{v:V}{t:T}{S:kB},Tr K F H st v t S->Tr K F H Jt v t S)/\∀{st:Bool}{vs:LV}{ts:LT}{S:kB},Trs K F H st vs ts S->Trs K F H Jt vs ts S :=
 Tr.both (P:=λ_ v t S=>Tr K F H Jt v t S) (R:=λ_ v t S=>Trs K F H Jt v t S) .d (λh f _ n q x=>.lst h f x n q) (λh f _ n q x=>.tup h f x n q) .lstF (λh u f _ n q x=>.dct h u f x n q) .nil λ_ _ n q z y=>.cons z y n q
theorem Tr.weak(h:Tr K F H st v t S):Tr K F H Jt v t S:=Tr.weak2.1 h
theorem Trs.weak(h:Trs K F H st vs ts S):Trs K F H Jt vs ts S:=Tr.weak2.2 h
theorem K2{C:kB}{a:jy}{S':kB}(q:∀b,S b↔b=a∨S' b)(h:C a)(k:∀b,S' b->C b)(b:jy)(hb:S b):C b:=((q b).mp hb).elim (λe=>e▸h) (k b)
theorem Tr.dom2:(∀{st:Bool}{v:V}{t:T}{S:kB},Tr K F H st v t S->∀b,S b->H b≠Jr/\F b=Jr)/\∀{st:Bool}{vs:LV}{ts:LT}{S:kB},Trs K F H st vs ts S->∀b,S b->H b≠Jr/\F b=Jr :=
 have y:∀{a:jy}{o:HO},H a=Jp o->H a≠none:=λh z=>by rw[h]at z;cases z
 Tr.both (P:=λ_ _ _ S=>∀b,S b->H b≠Jr/\F b=Jr) (R:=λ_ _ _ S=>∀b,S b->H b≠Jr/\F b=Jr)
  (λ_ n b hb=>gJ hb (n b)) (λh f _ _ q x=>K2 q #[y h,f] x) (λh f _ _ q x=>K2 q #[y h,f] x) (λ_ _ n b hb=>gJ hb (n b)) (λh _ f _ _ q x=>K2 q #[y h,f] x)
  (λn b hb=>gJ hb (n b)) λ_ _ _ q k u b hb=>((q b).mp hb).elim (k b) (u b)
theorem Tr.dom(h:Tr K F H st v t S):∀b,S b->H b≠Jr/\F b=none:=Tr.dom2.1 h
theorem Trs.dom(h:Trs K F H st vs ts S):∀b,S b->H b≠Jr/\F b=none:=Tr.dom2.2 h
theorem Tr.kept2(e:Same F w):(∀{st:Bool}{v:V}{t:T}{S:kB},Tr K F H st v t S->(∀b u,S b->H b=Jp u->w b=Jp u)->Rep K w v t.er)/\∀{st:Bool}{vs:LV}{ts:LT}{S:kB},Trs K F H st vs ts S->(∀b u,S b->H b=Jp u->w b=Jp u)->Reps K w vs (ersT ts) :=
 Tr.both (P:=λ_ v t S=>(∀b u,S b->H b=Jp u->w b=Jp u)->Rep K w v t.er) (R:=λ_ v t S=>(∀b u,S b->H b=Jp u->w b=Jp u)->Reps K w v (ersT t))
  (λr _ _=>r.mono e)
  (λ{_ a _ _ _ _} h _ _ _ q x k=>by unfold T.er;exact .lst (uC.of (k a _ ((q a).mpr (.inl rfl)) h)) (x λb u hb=>k b u ((q b).mpr (.inr hb))))
  (λ{_ a _ _ _ _} h _ _ _ q x k=>by unfold T.er;exact .tup (HC.of (k a _ ((q a).mpr (.inl rfl)) h)) (x λb u hb=>k b u ((q b).mpr (.inr hb))))
  (λh r _ _=>by unfold T.er;rw[bB];exact .lst (e.seq h) (r.mono e))
  (λ{_ _ a _ _ _ _ _ _} h f _ _ _ q x k=>by unfold T.er;exact .dct (k a _ ((q a).mpr (.inl rfl)) h) (f.mono e) (x λb u hb=>k b u ((q b).mpr (.inr hb))))
  (λ_ _=>.nil)
  (λ_ _ _ q z y k=>.cons (z λb u hb=>k b u ((q b).mpr (.inl hb))) (y λb u hb=>k b u ((q b).mpr (.inr hb))))
theorem Tr.kept(e:Same F w)(h:Tr K F H st v t S)(k:∀b u,S b->H b=Jp u->w b=Jp u):Rep K w v t.er:=(Tr.kept2 e).1 h k
theorem Tr.rep(f:Same F H)(h:Tr K F H st v t S):Rep K H v t.er:=h.kept f λ_ _ _ e=>e
theorem Trs.ind(z:∀{st:Bool}{S:kB},(∀b,¬ S b)->R st [] [] S)
  (x:∀{st:Bool}{v:V}{t:T}{vs:LV}{ts:LT}{S S1 y:kB},Tr K F H st v t S1->Trs K F H st vs ts y->(∀b,S1 b->¬ y b)->(∀b,S b↔S1 b∨y b)->R st vs ts y->R st (v::vs) (t::ts) S) (h:Trs K F H st vs ts S):R st vs ts S :=
 (Tr.both (P:=λ_ _ _ _=>True) (λ_ _=>trivial) (λ_ _ _ _ _ _=>trivial) (λ_ _ _ _ _ _=>trivial) (λ_ _ _=>trivial) (λ_ _ _ _ _ _ _=>trivial) z λh t n q _ r=>x h t n q r).2 h
theorem Trs.length(h:Trs K F H st vs ts S):vs.9=ts.length:=Trs.ind (R:=λ_ vs ts _=>vs.9=ts.9) (λ_=>rfl) (λ_ _ _ _ e=>gV Nat.succ e) h
theorem Trs.of_reps(h:Reps K F vs ds):Trs K F H st vs (ds.map T.d) (λ_=>False) :=
 Reps.ind (R:=λvs ds=>Trs K F H st vs (ds.map T.d) λ_=>False) (.nil λ_ z=>z) (λh t=>.cons (.d h λ_ z=>z) t (λ_ z=>z.elim) λb=>by simp) h
theorem Trs.un(h:Trs K F H st vs ts S)(e:VD ts=Jp ds):Reps K F vs ds/\∀b,¬ S b:=by
 have u:=fJ e;clear e;revert ds;refine Trs.ind (R:=λ_ vs ts S=>∀{ds:List D},ts=ds.map T.d->Reps K F vs ds/\∀b,¬ S b) (λn ds e=>?_) (λh _ _ q x ds e=>?_) h;cases ds with|nil=>exact#[.nil,n]|cons d r=>cases e
 cases ds with
 |nil=>cases e|cons d r =>
  injection e with e1 e2;let#[z,y]:=x e2;subst e1;cases h with|d rep m=>exact#[.cons rep z,λb hb=>((q b).mp hb).elim (m b) (y b)]
theorem Trs.get{i:Nat}(h:Trs K F H st vs ts S)(e:ts[i]?=Jp t):∃v S1,vs[i]?=Jp v/\Tr K F H st v t S1/\∀b,S1 b->S b:=by
 revert i;refine Trs.ind (R:=λst vs ts S=>∀{i:Nat},ts[i]?=Jp t->∃v S1,vs[i]?=Jp v/\Tr K F H st v t S1/\∀b,S1 b->S b) (λn i e=>by cases e) (λh _ n q x i e=>?_) h;cases i with|zero=>cases e;exact#[_,_,rfl,h,λb hb=>(q b).mpr (.inl hb)]|succ i=>let#[v,S1,u,z,y]:=x (i:=i) e;exact#[v,S1,u,z,λb hb=>(q b).mpr (.inr (y b hb))]
theorem Trs.at(r:Trs K F H st vs ts S)(h:BE ts i=Jp t):∃v S1,BE vs i=Jp v/\Tr K F H st v t S1/\∀b,S1 b->S b:=by
 unfold BE at h ⊢;rw[r.9];cases e:dO ts.9 i with|none=>rw[e]at h;cases h|some j=>rw[e]at h;exact r.get h
theorem Trs.append{ws:LV}{us:LT}{S1 x:kB}(h:Trs K F H st vs ts S1)(r:Trs K F H st ws us x)(k:∀b,S1 b->¬ x b):Trs K F H st (vs++ws) (ts++us) (λb=>S1 b∨x b) :=
 Trs.ind (R:=λst vs ts S1=>Trs K F H st ws us x->(∀b,S1 b->¬ x b)->Trs K F H st (vs++ws) (ts++us) λb=>S1 b∨x b)
  (λ{_ S} n r _=>by have e:(λb=>S b∨x b)=x:=funext λb=>gx #[λz=>z.resolve_left (n b),.inr];rw[e];exact r)
  (λh _ n q y r k=>.cons h (y r λb hb=>k b ((q b).mpr (.inr hb))) (λb hb z=>z.elim (n b hb) (k b ((q b).mpr (.inl hb)))) λb=>by rw[q b,or_assoc]) h r k
theorem Trs.one(h:Tr K F H st v t S):Trs K F H st [v] [t] S:=.cons h (.nil (S:=λ_=>False) λ_ z=>z) (λ_ _ z=>z) λb=>by simp
theorem dG(e:(T.d (.dict kvs)).vw=.ls ts):False:=by
 have e:iB kvs=.ls ts:=e;unfold iB at e;cases h:iC kvs with|none=>rw[h]at e;cases e|some b=>rw[h]at e;cases e
theorem vJ(e:(T.d (.dict kvs)).vw=.tp ts):False:=by
 have e:iB kvs=.tp ts:=e;unfold iB at e;cases h:iC kvs with|none=>rw[h]at e;cases e|some b=>rw[h]at e;cases e
theorem Tr.ls(f:Same F H)(h:Tr K F H st v t S)(e:t.vw=.ls ts):∃a vs S',v=.ref a/\uC K H a vs/\Trs K F H Jt vs ts S'/\∀b,S' b->S b:=by
 cases h with
 |d r n =>
  cases r with|lst q r=>injection e with e;subst e;exact#[_,_,_,rfl,f.seq q,Trs.of_reps r,λb hb=>hb.elim]|dct _ _ _=>exact(dG e).elim|_=>cases e
 |lst h _ r n q=>injection e with e;subst e;exact#[_,_,_,rfl,uC.of h,r.weak,λb hb=>(q b).mpr (.inr hb)]|tup=>cases e|dct=>cases e|lstF h r n=>injection e with e;subst e;exact#[_,_,_,rfl,f.seq h,Trs.of_reps r,λb hb=>hb.elim]
theorem Tr.tp(f:Same F H)(h:Tr K F H st v t S)(e:t.vw=.tp ts):∃a vs S',v=.ref a/\HC K H a vs/\Trs K F H Jt vs ts S'/\∀b,S' b->S b:=by
 cases h with
 |d r n =>
  cases r with|tup q r=>injection e with e;subst e;exact#[_,_,_,rfl,f.tupl q,Trs.of_reps r,λb hb=>hb.elim]|dct _ _ _=>exact(vJ e).elim|_=>cases e
 |tup h _ r n q=>injection e with e;subst e;exact#[_,_,_,rfl,HC.of h,r.weak,λb hb=>(q b).mpr (.inr hb)]|lst=>cases e|lstF=>cases e|dct=>cases e
theorem bU{y:Bool}{o:HO}(h:dI K H y o ks vs)(e:iC (ks.zip ds)=Jp b):y=b:=by
 cases ks with
 |nil=>cases e|cons k ks =>
  cases ds with
  |nil=>cases e|cons d ds =>
   cases y with
   |true =>
    let#[u,kvs,_,x,_]:=h;cases kvs with|nil=>cases x|cons p r=>rw[QT]at x;injection x with x _;subst x;injection e
   |false =>
    rcases h with⟨kvs,_,_,x,_⟩| ⟨_,_,x,_⟩
    rotate_left
    cases x;cases kvs with
    |nil=>cases x|cons p r =>
     rw[QT]at x;injection x with x _;subst x;let#[k,v]:=p;cases k with|inl i=>cases e|inr z=>injection e
theorem Tr.dc(f:Same F H)(h:Tr K F H st v t S)(e:t.vw=.dc b ks ts):∃a o vs S',v=.ref a/\H a=Jp o/\dI K F b o ks vs/\Trs K F H Jt vs ts S'/\(∀b,S' b->S b)/\∀w c,Same F w->Same w c->(∀b,S b->c b=H b)->c a=Jp o:=by
 cases h with
 |d r n =>
  cases r with
  |@dct X a o y l ds h q r =>
   have hl:y.9=ds.length:=by rw[q.len,Reps.length r]
   have g:(y.zip ds).map (λx=>x.1)=y:=QAH (QAt hl);have u:(y.zip ds).map (λx=>x.2)=ds:=QAz (QAt hl.symm);have e:iB (y.zip ds)=.dc b ks ts:=e;unfold iB at e;cases z:iC (y.zip ds) with
   |none=>rw[z]at e;cases e|some p =>
    rw[z]at e;injection e with z1 z2 z3;subst z1;rw[g]at z2;subst z2;have m:ts=ds.map T.d:=by have j:=gV (List.map T.d) u;rw[Qi]at j;rw[<- z3,<- j];rfl
    subst m;cases bU q z;exact#[_,_,_,_,rfl,f _ _ h,q,Trs.of_reps r,λb hb=>hb.elim,λw c g u _=>u _ _ (g _ _ h)]
  |_=>cases e
 |dct h q _ r n s=>injection e with z1 z2 z3;subst z1 z2 z3;exact#[_,_,_,_,rfl,h,q,r.weak,λb hb=>(s b).mpr (.inr hb),λw c _ _ k=>(k _ ((s _).mpr (.inl rfl))).trans h]|lst=>cases e|tup=>cases e|lstF=>cases e
theorem Tr.sc{x:D}(h:Tr K F H st v t S)(e:t.vw=.sc x):t=.d x/\Rep K F v x:=by
 cases h with
 |@d _ _ y _ r n =>
  cases y with
  |list ds=>cases e|tuple ds=>cases e|dict ds =>
   have e:iB ds=.sc x:=e;unfold iB at e;cases z:iC ds with|none=>rw[z]at e;injection e with e;subst e;exact#[rfl,r]|some b=>rw[z]at e;cases e
  |_=>injection e with e;subst e;exact#[rfl,r]
 |tup=>cases e|lst=>cases e|lstF=>cases e|dct=>cases e
theorem Tr.int(h:Tr K F H st v t S)(e:t.vw=.sc (.int i)):v=.int i:=by let#[_,r]:=h.sc e;cases r;rfl
theorem Tr.str{i:Str}(h:Tr K F H st v t S)(e:t.vw=.sc (.str i)):v=.str i:=by let#[_,r]:=h.sc e;cases r;rfl
end
end
def Sl.t:Sl->T
 | .own t=>t|.ny t=>t
def Sl.st:Sl->Bool
 | .own _=>Js|.ny _=>Jt
noncomputable abbrev Ft:=Nat->jy->Prop
structure Rl(K:QE)(F H:Hp)(S:Ft)(ρ:kA)(σ:St):Prop where
 fh:Same F H
 len:ρ.9=σ.9
 sl:∀(i:Nat) s,ρ[i]?=Jp (Jp s)->∃v,σ[i]?=Jp (Jp v)/\Tr K F H s.st v s.t (S i)
 dj:∀(i j:Nat) t s,i≠j->ρ[i]?=Jp (Jp (.own t))->ρ[j]?=Jp (Jp s)->∀b,S i b->¬ S j b
def U(ρ:kA)(S:Ft)(b:jy):Prop:=∃(i:Nat) (t:T),ρ[i]?=Jp (Jp (.own t))/\S i b
structure Stp(F H:Hp)(S:Ft)(ρ:kA)(F' H':Hp)(S':Ft)(ρ':kA):Prop where
 ff:Same F F'
 hh:∀b u,H b=Jp u->¬ U ρ S b->H' b=Jp u
 dm:∀b,H' b=Jr->H b=Jr
 fn:∀b,F b=Jr->F' b≠Jr->U ρ S b∨H b=Jr
 uu:∀b,U ρ' S' b->U ρ S b∨H b=Jr
 bo:∀(j:Nat) t,ρ'[j]?=Jp (Jp (.ny t))->t.isD=Jt->ρ[j]?=Jp (Jp (.ny t))/\S' j=S j
structure Ste(F H:Hp)(S:Ft)(ρ:kA)(F' H':Hp)(S':Ft)(ρ':kA):Prop extends Stp F H S ρ F' H' S' ρ' where
 ow:∀(j:Nat) t,ρ'[j]?=Jp (Jp (.own t))->∃t0,ρ[j]?=Jp (Jp (.own t0))
section
variable{K:QE}{F H X m A C:Hp}{S S1 B:Ft}{ρ l Y:kA}{σ:St}
section
variable{v:V}{t:T}{Z W:kB}{i:Nat}{s:Sl}{b p:jy}{vs:LN}{g:Hp}{c:Ft}{y:kA}{n:Bool}
theorem Stp.refl:Stp F H S ρ F H S ρ:=#[.refl _,λ_ _ h _=>h,λ_ h=>h,λb h z=>gJ h z,λ_ h=>.inl h,λ_ _ h _=>#[h,rfl]]
theorem Ste.refl:Ste F H S ρ F H S ρ:=#[Stp.refl,λ_ t h=>#[t,h]]
theorem Stp.trans(a:Stp F H S ρ X m S1 l)(b:Stp X m S1 l A C B Y):Stp F H S ρ A C B Y where
 ff:=a.ff.trans b.ff
 hh:=λx u h n=>b.hh x u (a.hh x u h n) λz=>by rcases a.uu x z with q|q;exact n q;rw[q]at h;cases h
 dm:=λx h=>a.dm x (b.dm x h)
 fn:=λx h z=>by
  by_cases q:X x=Jr;rcases b.fn x q z with w|w
  ·exact a.uu x w
  exact .inr (a.dm x w);exact a.fn x h q
 uu:=λx h=>by rcases b.uu x h with w|w;exact a.uu x w;exact .inr (a.dm x w)
 bo:=λj t h n=>by let#[o,f]:=b.bo j t h n;let#[e,k]:=a.bo j t o n;exact#[e,f.trans k]
theorem Ste.trans(a:Ste F H S ρ X m S1 l)(b:Ste X m S1 l A C B Y):Ste F H S ρ A C B Y:=#[a.toStp.trans b.toStp,λj t h=>by let#[x,z]:=b.ow j t h;exact a.ow j x z]
theorem Stp.keep(s:Stp F H S ρ X m S1 l){st:Bool}(h:Tr K F H st v t Z)(n:∀b,Z b->¬ U ρ S b):Tr K X m st v t Z :=
 h.mono s.ff λb hb=>by
  let#[x,w]:=h.dom b hb;refine#[?_,?_];cases e:H b with|none=>exact gJ e x|some u=>exact s.hh b u e (n b hb)
  by_cases q:X b=Jr
  ·exact q
  rcases s.fn b w q with z|z
  ·exact gJ z (n b hb)
  exact gJ z x
theorem Rl.dom(I:Rl K F H S ρ σ)(h:ρ[i]?=Jp (Jp s))(hb:S i b):H b≠Jr/\F b=none:=by let#[v,_,r]:=I.sl i s h;exact r.dom b hb
theorem Rl.isD(I:Rl K F H S ρ σ)(h:ρ[i]?=Jp (Jp s))(x:s.t.isD=Js):¬ S i b:=by
 let#[v,_,r]:=I.sl i s h;generalize s.t=t at r x;generalize s.st=st at r;cases r with|d r n=>exact n b|_=>cases x
structure Held(F H:Hp)(S:Ft)(ρ:kA)(Z:kB):Prop where
 dom:∀b,Z b->H b≠Jr/\F b=Jr
 nw:∀(i:Nat) s,ρ[i]?=Jp (Jp s)->∀b,Z b->¬ S i b
theorem Held.nu(h:Held F H S ρ Z):∀b,Z b->¬ U ρ S b:=λb hb #[i,t,z,x]=>h.nw i _ z b hb x
theorem Held.step(h:Held F H S ρ Z)(s:Stp F H S ρ X m S1 l)(j:Rl K X m S1 l σ):Held X m S1 l Z where
 dom:=λb hb=>by
  let#[u,k]:=h.dom b hb;refine#[λz=>u (s.dm b z),?_];by_cases q:X b=Jr;exact q;rcases s.fn b k q with z|z
  ·exact gJ z (h.nu b hb)
  exact gJ z u
 nw:=λi w e b hb z=>by
  cases w with
  |own t=>rcases s.uu b ⟨i,t,e,z⟩ with q|q;exact h.nu b hb q;exact(h.dom b hb).1 q
  |ny t =>
   cases x:t.isD with|true=>exact j.isD e x z|false=>let#[f,a]:=s.bo i t e x;rw[a]at z;exact h.nw i _ f b hb z
theorem Held.none:Held F H S ρ λ_=>False:=#[λ_ z=>z.elim,λ_ _ _ _ z=>z.elim]
noncomputable def pH(F H:Hp)(W:kB):Hp:=open Classical in λb=>if W b then H b else F b
theorem oH(h:W b):pH F H W b=H b:=Gw h
theorem kC(h:¬ W b):pH F H W b=F b:=Gq h
theorem MF(h:∀b,W b->F b=Jr):Same F (pH F H W):=λb u e=>by rw[kC λz=>by rw[h b z]at e;cases e];exact e
theorem v7(f:Same F H):Same (pH F H W) H:=λb u e=>by by_cases hb:W b;rw[oH hb]at e;exact e;rw[kC hb]at e;exact f b u e
theorem Rl.frz(I:Rl K F H S ρ σ){W:kB}(h:Held F H S ρ W):Rl K (pH F H W) H S ρ σ where
 fh:=v7 I.fh
 len:=I.len
 sl:=λi s e=>by let#[v,u,x]:=I.sl i s e;refine#[v,u,x.mono (MF λb hb=>(h.dom b hb).2) λb hb=>#[rfl,?_]];rw[kC λz=>h.nw i s e b z hb];exact(x.dom b hb).2
 dj:=I.dj
theorem Stp.frz(s:Stp F H S ρ X m S1 l){W:kB}(x:∀b,W b->X b=Jr)(u:∀b,W b->H b=Jr∨U ρ S b):Stp F H S ρ (pH X m W) m S1 l :=
 #[s.ff.trans (MF x),s.hh,s.dm,λb h z=>by by_cases q:W b;exact(u b q).symm;rw[kC q]at z;exact s.fn b h z,s.uu,s.bo]
theorem Ste.frz(s:Ste F H S ρ X m S1 l){W:kB}(h:∀b,W b->X b=Jr)(x:∀b,W b->H b=Jr∨U ρ S b):Ste F H S ρ (pH X m W) m S1 l:=#[s.toStp.frz h x,s.ow]
theorem Stp.new(s:Stp F H S ρ X m S1 l){p:jy}(h:m p=Jr)(o:HO):Stp F H S ρ X (KA m p o) S1 l :=
 #[s.ff,λb u e n=>CB h b u (s.hh b u e n),λb e=>by by_cases hb:b=p;rw[hb,YA]at e;cases e;rw[vA hb]at e;exact s.dm b e,s.fn,s.uu,s.bo]
theorem Ste.new(s:Ste F H S ρ X m S1 l){p:jy}(h:m p=Jr)(o:HO):Ste F H S ρ X (KA m p o) S1 l:=#[s.toStp.new h o,s.ow]
theorem Rl.same(I:Rl K F H S ρ σ)(h:Same H m):Rl K F m S ρ σ where
 fh:=I.fh.trans h
 len:=I.len
 sl:=λi s e=>by
  let#[v,z,x]:=I.sl i s e;refine#[v,z,x.mono (.refl _) λb hb=>#[?_,(x.dom b hb).2]];cases e:H b with|none=>exact gJ e (x.dom b hb).1|some u=>exact h b u e
 dj:=I.dj
theorem Rl.new(I:Rl K F H S ρ σ){p:jy}(h:H p=Jr)(o:HO):Rl K F (KA H p o) S ρ σ:=I.same (CB h)
theorem Stp.newT(s:Stp F H S ρ X m S1 l)(h:m p=Jr)(u:X p=Jr)(o:HO):Stp F H S ρ (KA X p o) (KA m p o) S1 l :=
 let x:=s.new h o
 #[s.ff.trans (CB u),x.hh,x.dm,λb e z=>by by_cases hb:b=p;rw[hb];exact .inr (s.dm p h);rw[vA hb]at z;exact s.fn b e z,s.uu,s.bo]
theorem Ste.newT(s:Ste F H S ρ X m S1 l)(h:m p=Jr)(x:X p=Jr)(o:HO):Ste F H S ρ (KA X p o) (KA m p o) S1 l:=#[s.toStp.newT h x o,s.ow]
theorem Rl.newT(I:Rl K F H S ρ σ)(h:H p=Jr)(o:HO):Rl K (KA F p o) (KA H p o) S ρ σ where
 fh:=λb u e=>by by_cases hb:b=p;rw[hb,YA]at e ⊢;exact e;rw[vA hb]at e ⊢;exact I.fh b u e
 len:=I.len
 sl:=λi s e=>by let#[v,k,x]:=I.sl i s e;refine#[v,k,x.mono (CB (I.fh.free h)) λb hb=>?_];have w:b≠p:=λz=>(x.dom b hb).1 (by rw[z];exact h);rw[vA w,vA w];exact#[rfl,(x.dom b hb).2]
 dj:=I.dj
theorem EV(ρ:kA)(i:Nat):(lockA ρ)[i]?=ρ[i]?.map cF:=by unfold lockA;rw[Qg]
theorem gB{ρ:kA}(h:(lockA ρ)[i]?=Jp (Jp s)):∃x,ρ[i]?=Jp (Jp x)/\s=.ny x.t:=by
 rw[EV]at h;cases e:ρ[i]? with
 |none=>rw[e]at h;cases h|some o =>
  rw[e]at h;cases o with
  |none=>cases h|some x =>
   cases x with|own t=>injection h with h;injection h with h;subst h;exact#[_,rfl,rfl]|ny t=>injection h with h;injection h with h;subst h;exact#[_,rfl,rfl]
theorem MC(b:jy):¬ U (lockA ρ) S b:=λ#[i,t,h,_]=>by let#[x,_,e]:=gB h;cases e
theorem Rl.lockA(I:Rl K F H S ρ σ):Rl K F H S (lockA ρ) σ where
 fh:=I.fh
 len:=by unfold L3.lockA;rw[QG];exact I.len
 sl:=λi s e=>by let#[x,h,rfl]:=gB e;let#[v,u,z]:=I.sl i x h;exact#[v,u,z.weak]
 dj:=λi j t s _ h=>by let#[x,_,e]:=gB h;cases e
theorem Stp.unlockA(s:Stp F H S (L3.lockA ρ) X m S1 l):Stp F H S ρ X m S ρ :=
 #[s.ff,λb u e _=>s.hh b u e (MC b),s.dm,λb h z=>(s.fn b h z).elim (λq=>gJ q (MC b)) .inr,λ_ h=>.inl h,λ_ _ h _=>#[h,rfl]]
theorem Rl.unlockA(I:Rl K F H S ρ σ)(s:Stp F H S (L3.lockA ρ) X m S1 l)(f:Same X m):Rl K X m S ρ σ where
 fh:=f
 len:=I.len
 sl:=λi sl e=>by let#[v,x,h]:=I.sl i sl e;exact#[v,x,s.keep h λb _=>MC b]
 dj:=I.dj
structure VR(K:QE)(vs:LN)(g:Hp)(c:Ft)(y:kA)(F H:Hp)(S:Ft)(ρ:kA)(v:V)(t:T)(n:Bool)(Z:kB):Prop where
 tr:Tr K F H n v t Z
 fr:n=Js->∀b,Z b->g b=Jr∨U y c b
 tm:n=Jt->∀b,Z b->∃(i:Nat) (s:Sl),i∈vs/\ρ[i]?=Jp (Jp s)/\S i b
 nw:n=Js->∀(i:Nat) s,ρ[i]?=Jp (Jp s)->∀b,Z b->¬ S i b
theorem VR.d{vs:LN}{g:Hp}{c:Ft}{y:kA}{v:V}{x:D}(n:Bool)(r:Rep K F v x):VR K vs g c y F H S ρ v (.d x) n (λ_=>False) :=
 #[.d r λ_ z=>z,λ_ _ z=>z.elim,λ_ _ z=>z.elim,λ_ _ _ _ _ z=>z.elim]
theorem VR.held(h:VR K vs g c y F H S ρ v t Js Z):Held F H S ρ Z:=#[λb hb=>h.tr.dom b hb,h.nw rfl]
theorem VR.vars{ws:LN}(h:VR K vs g c y F H S ρ v t n Z)(k:∀i∈vs,i∈ws):VR K ws g c y F H S ρ v t n Z :=
 #[h.tr,h.fr,λe b hb=>let#[i,s,z,x]:=h.tm e b hb;#[i,s,k i z,x],h.nw]
theorem VR.from(s:Stp F H S ρ X m S1 l)(h:VR K vs m S1 l A C B Y v t n Z):VR K vs H S ρ A C B Y v t n Z :=
 #[h.tr,λe b hb=>by rcases h.fr e b hb with q|q;exact .inl (s.dm b q);exact(s.uu b q).symm,h.tm,h.nw]
theorem VR.frz{vs:LN}{v:V}{t:T}{n:Bool}{Z:kB}(s:Ste F H S ρ X m S1 l)(I:Rl K X m S1 l σ)(h:VR K vs H S ρ X m S1 l v t n Z) :
  ∃A o,Ste F H S ρ A m S1 l/\Rl K A m S1 l σ/\Tr K A m Jt v (bA t n) o/\(zG t n=Js->Rep K A v t.er)/\(∀b,o b->∃(i:Nat) (s:Sl),i∈vs/\l[i]?=Jp (Jp s)/\S1 i b) /\
   ∀st a t' k,Tr K X m st a t' k->(∀b,k b->∃(i:Nat) (s:Sl),l[i]?=Jp (Jp s)/\S1 i b)->Tr K A m st a t' k:=by
 cases n with
 |true =>
  have w:=h.held;have j:=MF (H:=m) λb hb=>(w.dom b hb).2;have f:=h.tr.kept j λb u hb e=>by rw[oH hb];exact e
  refine#[pH X m Z,λ_=>False,s.frz (λb hb=>(w.dom b hb).2) (h.fr rfl),I.frz w,.d f λ_ z=>z,λ_=>f,λb z=>z.elim,λst a t' k r G=>r.mono j λb hb=>#[rfl,?_]];let#[i,E,L,J]:=G b hb;rw[kC λz=>w.nw i E L b z J];exact(r.dom b hb).2
 |false =>
  refine#[X,Z,s,I,h.tr,?_,h.tm rfl,λ_ _ _ _ r _=>r];intro e;have q:=h.tr;cases t with
  |d x=>cases q with|d r n=>exact r
  |_=>cases e
end
end
noncomputable abbrev AA(K:QE)(vs:LN)(F H:Hp)(S:Ft)(ρ:kA)(σ:St)(Q:TK)(R:VK):Prop :=
 ∀v z x y h t n Z,Ste F H S ρ z x y h->Rl K z x y h σ->VR K vs H S ρ z x y h v t n Z->Q t n h->R v x
noncomputable abbrev xG(K:QE)(F H:Hp)(S:Ft)(ρ:kA)(σ:St)(Q:Bool->kA->Prop)(R:Bool->Hp->Prop):Prop :=
 ∀b z x y h,Ste F H S ρ z x y h->Rl K z x y h σ->Q b h->R b x
section
variable{K:QE}{ws:LN}{F H N L:Hp}{S S1:Ft}{ρ M:kA}{σ:St}{v w:V}{a b:T}{O Zb:kB}{Q:TK}{R:VK}{sa sb:Bool}
section
variable{J G:Hp}{C:Ft}{A:kA}{p:jy}{vs xs:LV}{ts:LT}{ds ks:List D}{x y:D}{X:Bool->Prop}{o:HO}{B:Vr}{E:Bool->Hp->Prop}{n:String}{k:Bool}{Y:kB}
theorem AA.from(k:AA K ws F H S ρ σ Q R)(s:Ste F H S ρ J G C A):AA K ws J G C A σ Q R:=λv g f u h t n Z z e r q=>k v g f u h t n Z (s.trans z) e (r.from s.toStp) q
theorem xG.from{Q:Bool->kA->Prop}{R:Bool->Hp->Prop}(k:xG K F H S ρ σ Q R)(s:Ste F H S ρ J G C A):xG K J G C A σ Q R:=λb g f u h z e q=>k b g f u h (s.trans z) e q
theorem AA.vars{us:LN}(k:AA K ws F H S ρ σ Q R)(h:∀i∈us,i∈ws):AA K us F H S ρ σ Q R:=λv f e u z t n Z s I r q=>k v f e u z t n Z s I (r.vars h) q
theorem AA.d(k:AA K ws F H S ρ σ Q R)(s:Ste F H S ρ N L S1 M)(I:Rl K N L S1 M σ){x:D}{n:Bool}(r:Rep K N v x)(q:Q (.d x) n M):R v L:=k v N L S1 M _ n _ s I (VR.d n r) q
theorem AA.list(k:AA K ws F H S ρ σ Q R)(s:Ste F H S ρ N L S1 M)(I:Rl K N L S1 M σ)(u:L p=Jr){W:kB}(r:Trs K N L Js vs ts W)
  (l:∀b,W b->H b=Jr∨U ρ S b) (f:Held N L S1 M W) (q:Q (.lst ts) Js M):R (.ref p) (KA L p (.lst vs)):=by
 have j:∀b,L b≠Jr->b≠p:=λb h z=>h (by rw[z];exact u);refine k _ N _ S1 M _ Js (λb=>b=p∨W b) (s.new u _) (I.new u _) #[.lst YA (I.fh.free u) (r.mono (.refl _) λb hb=>#[?_,(f.dom b hb).2]) (λz=>(f.dom p z).1 u) (λb=>QAb),λ_ b hb=>?_,λz=>(by cases z),λ_ i g e b hb z=>?_] q;rw[vA (j b (f.dom b hb).1)];rcases hb with rfl|hb
 ·exact .inl (s.dm _ u)
 exact l b hb;rcases hb with rfl|hb
 ·exact(I.dom e z).1 u
 exact f.nw i g e b hb z
theorem AA.listD(k:AA K ws F H S ρ σ Q R)(s:Ste F H S ρ N L S1 M)(I:Rl K N L S1 M σ)(h:L p=Jr)(r:Reps K N vs ds)(q:Q (.lst (ds.map T.d)) Js M):R (.ref p) (KA L p (.lst vs)) :=
 k.list s I h (Trs.of_reps r) (λb z=>z.elim) .none q
theorem AA.tupD(k:AA K ws F H S ρ σ Q R)(s:Ste F H S ρ N L S1 M)(I:Rl K N L S1 M σ)(h:L p=Jr){n:Bool}(r:Reps K N vs ds)(q:Q (.d (.tuple ds)) n M):R (.ref p) (KA L p (.tup vs)) :=
 AA.d k (s.newT h (I.fh.free h) _) (I.newT h _) (.tup (HC.of YA) (r.mono (CB (I.fh.free h)))) q
theorem AA.tup(k:AA K ws F H S ρ σ Q R)(s:Ste F H S ρ N L S1 M)(I:Rl K N L S1 M σ){p:jy}(u:L p=Jr){vs:LV}{ts:LT}{W:kB}(r:Trs K N L Js vs ts W)
  (l:∀b,W b->H b=Jr∨U ρ S b) (f:Held N L S1 M W) (q:Q (dH ts) Js M):R (.ref p) (KA L p (.tup vs)):=by
 unfold dH at q;cases e:VD ts with
 |some ds=>rw[e]at q;exact k.tupD s I u (r.un e).1 q|none =>
  rw[e]at q;have j:∀b,L b≠Jr->b≠p:=λb h z=>h (by rw[z];exact u);refine k _ N _ S1 M _ Js (λb=>b=p∨W b) (s.new u _) (I.new u _) #[.tup YA (I.fh.free u) (r.mono (.refl _) λb hb=>#[?_,(f.dom b hb).2]) (λz=>(f.dom p z).1 u) (λb=>QAb),λ_ b hb=>?_,λz=>(by cases z),λ_ i g e b hb z=>?_] q;rw[vA (j b (f.dom b hb).1)];rcases hb with rfl|hb
  ·exact .inl (s.dm _ u)
  exact l b hb;rcases hb with rfl|hb
  ·exact(I.dom e z).1 u
  exact f.nw i g e b hb z
theorem Ke{B:kv}(s:Ste F H S ρ N L S1 M)(I:Rl K N L S1 M σ)(r:Tr K N L sa v a O)(m:Tr K N L sb w b Zb)(h:binT B a.vw b.vw λz n=>Q z n M)(k:AA K ws F H S ρ σ Q R):L7 K B v w L R:=by
 have Z:∀{i j:Int},a.vw=.sc (.int i)->b.vw=.sc (.int j)->v=.int i/\w=.int j:=λe u=>#[r.int e,m.int u]
 cases B with
 |Add =>
  rcases h with⟨i,j,e,u,h⟩| ⟨x,y,e,u,h⟩| ⟨xs0,W,ds,es,e,u,e1,e2,hl,q⟩| ⟨xs0,W,ds,es,e,u,e1,e2,hn,hn2,hl,q⟩
  let#[rfl,rfl]:=Z e u;exact k.d s I (.int _) h;obtain rfl:=r.str e;obtain rfl:=m.str u;exact#[h.1,k.d s I (.str _) h.2];let#[p,xs,_,rfl,hp,rp,_]:=r.ls I.fh e;let#[p2,P,_,rfl,hq,rq,_]:=m.ls I.fh u;have g:=(rp.un e1).1;have f:=(rq.un e2).1;exact .inl #[xs,P,hp,hq,by rw[g.9,f.9];exact hl,λl hl=>k.listD s I hl (g.append f) q];let#[p,xs,_,rfl,hp,rp,_]:=r.tp I.fh e;let#[p2,P,_,rfl,hq,rq,_]:=m.tp I.fh u;have g:=(rp.un e1).1;have f:=(rq.un e2).1;refine .inr #[p,p2,xs,P,rfl,rfl,hp,hq,?_,by rw[g.9,f.9];exact hl,λz=>?_,λ_ l hl=>?_];intro z;subst z;cases g;exact hn rfl;subst z;cases f;exact gJ rfl hn2;exact k.tupD s I hl (g.append f) q
 |Sub=>let#[i,j,e,u,h]:=h;let#[rfl,rfl]:=Z e u;exact k.d s I (.int _) h|Mult =>
  rcases h with⟨i,j,e,u,h⟩| ⟨x,y,e,u,h⟩
  let#[rfl,rfl]:=Z e u;exact#[h.1,k.d s I (.int _) h.2];obtain rfl:=r.str e;obtain rfl:=m.int u;exact#[h.1,k.d s I (.str _) h.2]
 |FloorDiv=>let#[i,j,e,u,h]:=h;let#[rfl,rfl]:=Z e u;exact#[h.1,k.d s I (.int _) h.2]|Mod=>let#[i,j,e,u,h]:=h;let#[rfl,rfl]:=Z e u;exact#[h.1,k.d s I (.int _) h.2]|_=>exact h.elim
theorem A8(neg:Bool)(u:Rep K L v x)(z:Rep K L w y)(h:Xj x y λk=>X (if neg then !k else k))(k:∀c,X c->R (.bl c) L):rEq K neg v w L R:=by
 have l:zF x/\zF y/\X (if neg then !PyData.eqv x y else qP x y)->(∃f e,Rep K L v f/\Rep K L w e/\zF f/\zF e/\R (.bl (if neg then !PyData.eqv f e else qP f e)) L):=λ#[r,m,q] =>
  #[x,y,u,z,r,m,k _ q]
 unfold Xj at h;split at h;cases u;cases z;exact k _ h;cases u;cases z;exact k _ h;cases u;cases z;exact k _ h;have g:=l h;rename_i n1 n2 n3;cases u with
 |int i =>
  cases z with|int j=>exact gJ rfl (n1 i j rfl)|_=>exact g
 |str i =>
  cases z with|str j=>exact gJ rfl (n2 i j rfl)|_=>exact g
 |bl i =>
  cases z with|bl j=>exact gJ rfl (n3 i j rfl)|_=>exact g
 |_=>exact g
theorem K0{F:Hp}{v w:V}{a b:D}(z:Rep K F v a)(h:Rep K F w b)(e:VB a=Js)(u:VB b=Js):d7 v w=qP a b:=by cases z<;>cases h<;>first|exact gJ (show Jt=Js from e) QF|exact gJ (show Jt=Js from u) QF | (simp only[qP];rfl) | (simp only[qP])
theorem yS{F:Hp}{v:V}{a:D}(h:Rep K F v a)(z:VB a=Js):oF v=true:=by cases h<;>first|rfl|exact gJ (show Jt=Js from z) QF
theorem HP{F:Hp}(h:Reps K F vs ds)(f:ds.all VB=Js):vs.all oF=Js :=
 Reps.ind (R:=λvs ds=>ds.all VB=Js->vs.all oF=Js) (λ_=>rfl) (λh z f=>by rw[wN,Qf]at f ⊢;exact#[yS h f.1,z f.2]) h f
theorem kK{F:Hp}{v:V}{a:D}(z:Rep K F v a)(u:VB a=Js):∀{vs:LV}{ds:List D},Reps K F vs ds->ds.all VB=Js->inV v vs=ds.any λy=>qP y a
 |_,_,.nil,_=>rfl|_,_,.cons h t,f=>by rw[wN,Qf]at f;have e:=kK z u t f.2;unfold inV at e ⊢;rw[Wz,Wz,K0 h z f.1 u,e]
theorem UF{k:List Key}(h:Reps K F xs (k.map kD)):xs=k.map kV:=by
 induction k generalizing xs with
 |nil=>cases h;rfl|cons i k z =>
  cases h with|cons h t=>rw[QT,z t];cases i<;>(cases h;rfl)
theorem ZF(q:List Key):∀(kvs:List KE),TF kvs q=(dA (kvs.map λp=>tD p.1) (tD q)).bind λn=>(kvs.map (·.2.2))[n]?
 |[]=>rfl|p::r=>by rw[QT,QT];unfold dA;by_cases e:p.1=q;rw[nO e,Gw (by rw[e])];rfl;rw[oO e,Gq λz=>e (lX z),ZF q r];cases dA (r.map λp=>tD p.1) (tD q)<;>rfl
theorem CH(q:Key):∀(kvs:List (Key×V)),bJ kvs q=(dA (kvs.map λp=>kD p.1) (kD q)).bind λn=>(kvs.map (·.2))[n]?
 |[]=>rfl|p::r=>by rw[QT,QT];unfold dA;by_cases e:p.1=q;rw[xJ e,Gw (by rw[e])];rfl;rw[uJ e,Gq λz=>e (LR z),CH q r];cases dA (r.map λp=>kD p.1) (kD q)<;>rfl
theorem dI.get{a:jy}{b:Bool}{k:D}(ha:L a=Jp o)(q:dI K L b o ks vs)(e:Rep K L w k)(hk:sE b k):uO K L a w ((dA ks k).bind λn=>vs[n]?):=by
 cases b with
 |true =>
  let#[u,h,rfl,rfl,rfl,i,_]:=q;let#[q,rfl]:=hk;cases e with|tup g f=>cases UF f;exact#[u,h,q,ha,i,g,(ZF q h).symm]
 |false =>
  let#[z,rfl]:=hk;cases e;rcases q with⟨h,_,rfl,rfl,rfl,_⟩| ⟨u,rfl,rfl,rfl⟩
  exact .inl #[h,ha,(CH (.inr z) h).symm];exact .inr #[u,ha,rfl]
theorem LP{b:Bool}{k:D}(q:dI K L b o ks vs):((dA ks k).bind λn=>vs[n]?).isSome=(dA ks k).isSome:=by
 cases e:dA ks k with
 |none=>rfl|some n =>
  have z:=(Qb.mp (zE e)).1;have h:n<vs.length:=by rw[<- q.len];exact z
  simp[h]
theorem OR{b neg:Bool}{a:jy}(ha:L a=Jp o)(q:dI K L b o ks vs)(z:Rep K L v x)(hk:sE b x)(h:R (.bl (if neg then !(dA ks x).isSome else(dA ks x).isSome)) L):MO K neg v (.ref a) L R :=
 .inr (.inr #[_,q.get ha z hk,by rw[LP q];exact h])
theorem P8(neg:Bool)(z:Rep K L v x)(e:Rep K L w y)(h:Zj x y λk=>X (if neg then !k else k))(k:∀c,X c->R (.bl c) L):MO K neg v w L R:=by
 unfold Zj at h;split at h;cases z;cases e;exact k _ h;rename_i ds;have u:=e;cases e with
 |lst l f =>
  rcases h.1 with⟨g,fs⟩| ⟨j,i⟩
  refine .inl #[_,_,rfl,.inl l,yS z g,HP f fs,?_];rw[kK z g f fs];exact k _ h.2;exact .inr (.inl #[_,ds,z,.inl u,j,i,k _ h.2])
 rename_i ds;have u:=e;cases e with
 |tup l f =>
  rcases h.1 with⟨g,fs⟩| ⟨j,i⟩
  refine .inl #[_,_,rfl,.inr l,yS z g,HP f fs,?_];rw[kK z g f fs];exact k _ h.2;exact .inr (.inl #[_,ds,z,.inr u,j,i,k _ h.2])
 let#[b,s,hk,q]:=h;cases e with
 |@dct Z a o ks vs ds h m r =>
  have hl:ks.9=ds.length:=by rw[m.len,Reps.length r]
  rw[QAH (QAt hl)]at q;cases bU m s;exact OR h m z hk (k _ q)
 exact h.elim
theorem MM{g:Int->Int->Bool}(u:Rep K L v x)(z:Rep K L w y)(h:aV g x y X)(k:∀c,X c->R (.bl c) L):mV g v w L R:=by unfold aV at h;split at h;cases u;cases z;exact k _ h;exact h.elim
theorem lS(u:Rep K L v x)(z:Rep K L w y)(h:B1 B x y X)(k:∀c,X c->R (.bl c) L):U1 K B v w L R:=by
 cases B with|Eq=>exact A8 Jt u z h k|NotEq=>exact A8 Js u z h k|Lt=>exact MM u z h k|LtE=>exact MM u z h k|Gt=>exact MM u z h k|GtE=>exact MM u z h k|In=>exact P8 Jt u z h k|NotIn=>exact P8 Js u z h k|Is=>let#[a,b,rfl,rfl,q]:=h;cases z;cases u;exact#[_,_,rfl,rfl,k _ q]|IsNot=>exact h.elim
theorem J7(f:Same N L)(z:Rep K L v x)(u:Tr K N L sb w b Zb)(h:Y7 B x b X)(k:∀c,X c->R (.bl c) L):U1 K B v w L R:=by
 cases b with
 |d y=>exact lS z (u.rep f) h k|lst ts=>exact lS z (u.rep f) h k|tup ts=>exact lS z (u.rep f) h k|dct b ks ts =>
  let#[hk,h]:=h;cases u with
  |dct e g _ _ _ _ =>
   rcases h with⟨rfl,q⟩| ⟨rfl,q⟩
   exact OR (neg:=Jt) e (g.mono f) z hk (k _ q);exact OR (neg:=Js) e (g.mono f) z hk (k _ q)
theorem nH(r:Reps K F xs ds):(!ds.isEmpty)=!xs.isEmpty:=by cases r<;>rfl
theorem MS(z:Rep K L v x)(h:CG x X)(k:∀c,X c->E c L):HE K v L E:=by
 unfold CG at h;split at h;cases z;exact k _ h;cases z;exact k _ h;cases z;exact k _ h;cases z;exact#[h.1,k _ h.2];cases z with|lst e u=>rw[nH u]at h;exact#[_,.inl #[_,e,rfl],k _ h]
 cases z with|tup e u=>rw[nH u]at h;exact#[_,.inr (.inl #[_,e,rfl]),k _ h]
 exact h.elim
theorem U2(z:Rep K L v x)(h:sf x X)(k:∀c,X c->E c L):B2 v L E:=by unfold sf at h;split at h;cases z;exact k _ h;exact h.elim
theorem Ud(s:Ste F H S ρ N L S1 M)(I:Rl K N L S1 M σ)(W:Tr K N L sa v a O)(za:∀b,O b->∃(i:Nat) (s:Sl),i∈ws/\M[i]?=Jp (Jp s)/\S1 i b)(m:Tr K N L sb w b Zb)(h:LK a.vw b.vw λz=>Q z Jt M)(k:AA K ws F H S ρ σ Q R):nV K v w L R:=by
 rcases h with⟨z,i,c,j,g,f,e,q⟩| ⟨ts,i,d,j,g,f,q⟩| ⟨ts,i,d,j,g,f,q⟩
 obtain rfl:=W.str j;obtain rfl:=m.int g;exact#[f,c,e,k.d s I (.str _) q];let#[p,xs,Z',rfl,hp,l,P]:=W.ls I.fh j;obtain rfl:=m.int g;let#[x,Z,e,r,u]:=l.at f;exact#[xs,x,.inl hp,e,k _ N L S1 M _ Jt Z s I #[r,λz=>(by cases z),λ_ b hb=>za b (P b (u b hb)),λz=>(by cases z)] q];let#[p,xs,Z',rfl,hp,l,P]:=W.tp I.fh j;obtain rfl:=m.int g;let#[x,Z,e,r,u]:=l.at f;exact#[xs,x,.inr hp,e,k _ N L S1 M _ Jt Z s I #[r,λz=>(by cases z),λ_ b hb=>za b (P b (u b hb)),λz=>(by cases z)] q]
theorem Ed(s:Ste F H S ρ N L S1 M)(I:Rl K N L S1 M σ)(l:Tr K N L sa v a O)(e:∀b,O b->∃(i:Nat) (s:Sl),i∈ws/\M[i]?=Jp (Jp s)/\S1 i b)(j:Rep K L w y)(h:OP a.vw y λz=>Q z Jt M)(k:AA K ws F H S ρ σ Q R):nV K v w L R:=by
 let#[b,ks,ts,n,d,ea,hk,hf,W,q]:=h;let#[p,o,vs,Z',rfl,P,dk,f,m,_]:=l.dc I.fh ea;let#[x,Z,h2,r,u]:=f.get W;have g:=(dk.mono I.fh).get P j hk;rw[hf]at g;have g:uO K L p w (vs[n]?):=g;rw[h2]at g;have fin:=k _ N L S1 M _ Jt Z s I #[r,λz=>(by cases z),λ_ b hb=>e b (m b (u b hb)),λz=>(by cases z)] q;cases w with|str z=>exact#[x,g,fin]|ref c=>exact#[x,g,fin]|_=>exact g.elim
theorem Reps.cut(r:Reps K F xs ds)(h z:Option Int):Reps K F (jQ xs h z) (kE ds h z):=by unfold jQ kE;rw[r.9];exact(r.drop _).take _
theorem xb{j m:Option Int}(s:Ste F H S ρ N L S1 M)(I:Rl K N L S1 M σ)(g:Tr K N L sa v a O)(h:rJ a.vw j m λz n=>Q z n M)(k:AA K ws F H S ρ σ Q R):Vk K v j m L R:=by
 rcases h with⟨z,u,h⟩| ⟨ts,ds,u,e,q⟩| ⟨ts,ds,u,e,n,q⟩
 obtain rfl:=g.str u;exact#[h.1,k.d s I (.str _) h.2];let#[p,xs,_,rfl,i,f,_]:=g.ls I.fh u;exact .inl #[p,xs,rfl,i,λl hl=>k.listD s I hl ((f.un e).1.cut _ _) q];let#[p,xs,_,rfl,i,f,_]:=g.tp I.fh u;refine .inr #[p,xs,rfl,i,by rw[(f.un e).1.length];exact n,λl hl=>k.tupD s I hl ((f.un e).1.cut _ _) q]
theorem U5{P:Option Int->Prop}{z:Option Int->Hp->Prop}(u:Rep K L v x)(h:kH x P)(k:∀o,P o->z o L):BJ v L z:=by unfold kH at h;split at h;cases u;exact k _ h;exact h.elim
noncomputable def oj:D->Ju
 | .none=>.type "NoneType"|.bool _=>.type "bool"|.int _=>.type "int"|.str _=>.type "str"|.list _=>.type "list"|.tuple _=>.type "tuple"|.dict _=>.type "dict"
theorem Rep.ty(e:Rep K L v x):TyOf K L v (oj x)∨Lm K L v (oj x):=by
 cases e with
 |non=>exact .inl .non|bl b=>exact .inl (.bl _)|int b=>exact .inl (.int _)|str b=>exact .inl (.str _)|lst h u=>exact .inr (.inl #[_,_,rfl,h,rfl])|tup h u=>exact .inr (.inr #[_,_,rfl,h,rfl])|@dct b _ _ _ _ _ h q _ =>
  cases b with
  |true=>let#[f,z,rfl,_]:=q;exact .inl (.dT h)|false =>
   rcases q with⟨z,_,rfl,_⟩| ⟨f,rfl,_⟩
   exact .inl (.dK h);exact .inl (.dT h)
theorem yd(h:isD n x=Jp k)(z:lU n=Js):QCg K (oj x) (.type n)=Jp k:=by simp only[lU,w8,beq_iff_eq]at z;rcases z with((((rfl|rfl)|rfl)|rfl)|rfl)|rfl<;>cases x<;>simp[isD]at h<;>subst h<;>rfl
theorem Xd(z:Rep K L v x)(h:isD n x=Jp k)(u:lU n=Js)(q:R (.bl k) L):Cb K [v,.ty n] L R :=
 #[oj x,.type n,k,z.ty,rfl,yd h u,q]
inductive Tn(K:QE)(F H:Hp)(Y:kB):LV->LT->Prop where
 |nil:Tn K F H Y [] []
 |cons {v:V}{t:T}{vs:LV}{ts:LT}{Z:kB}:Tr K F H Jt v t Z->(∀b,Z b->Y b)->Tn K F H Y vs ts->Tn K F H Y (v::vs) (t::ts)
theorem kJ(ts:LT):∀{xs:List (T×Bool)},OK xs=ts->HB xs=ts.map T.vw
 |[],h=>by subst h;rfl|p::r,h=>by subst h;simp only[HB,OK,QT,kJ _ rfl]
theorem Tn.one{x:Vw}(h:Tn K F H Y vs ts)(e:ts.map T.vw=[x]):∃v t Z,vs=[v]/\ts=[t]/\t.vw=x/\Tr K F H Jt v t Z/\∀b,Z b->Y b:=by
 cases h with
 |nil=>cases e|cons r z t =>
  simp only[QT,QAd]at e;cases t with|nil=>exact#[_,_,_,rfl,rfl,e.1,r,z]|cons _ _ _=>simp at e
theorem Tn.two{x y:Vw}(h:Tn K F H Y vs ts)(e:ts.map T.vw=[x,y]):∃v w t u Z f,vs=[v,w]/\ts=[t,u]/\t.vw=x/\u.vw=y/\Tr K F H Jt v t Z/\Tr K F H Jt w u f/\(∀b,Z b->Y b)/\(∀b,f b->Y b):=by
 cases h with|nil=>cases e|cons r z t=>simp only[QT,QAd]at e;let#[v,u,f,rfl,rfl,j,i,g]:=t.one e.2;exact#[_,_,_,_,_,_,rfl,rfl,e.1,j,r,i,z,g]
theorem bC:∀{xs:LV}{z:LS},Reps K F xs (z.map Jx)->xs=z.map V.str
 |_,[],.nil=>rfl|_,y::z,.cons h t=>by cases h;rw[QT,bC t]
theorem DH:∀(h:LS),Reps K F (h.map V.str) (h.map Jx)
 |[]=>.nil|y::h=>.cons (.str y) (DH h)
theorem bV{α:Type}{g:α->D}{u:LV}(W:xs.Perm u):∀{l:List α},Reps K F xs (l.map g)->∃z:List α,z.Perm l/\Reps K F u (z.map g):=by
 induction W with
 |nil=>intro l r;exact#[l,QAD _,r]|cons x _ q =>
  intro l r;cases l with
  |nil=>cases r|cons a l=>cases r with|cons h t=>let#[z,p,v]:=q t;exact#[a::z,p.cons _,.cons h v]
 |swap x y l0 =>
  intro l r;cases l with
  |nil=>cases r|cons a l=>cases l with
   |nil=>cases r with|cons h t=>cases t
   |cons b l=>cases r with
    |cons h t=>cases t with|cons I t=>exact#[b::a::l,QEH.swap _ _ _,.cons I (.cons h t)]
 |trans _ _ Z s=>intro l r;let#[P,j,f]:=Z r;let#[m,i,e]:=s f;exact#[m,i.trans j,e]
theorem kR{ls:List (LS)}(h:Reps K F xs (ls.map IF)):∀x∈xs,∃a,∃ss:LS,x=.ref a/\uC K F a (ss.map V.str):=by
 induction ls generalizing xs with
 |nil=>cases h;exact λ_ z=>nomatch z
 |cons l ls u =>
  cases h with
  |cons r t =>
   intro x h;rcases QK.mp h with e|h;subst e;cases r with|lst q r=>exact#[_,l,rfl,by rw[<- bC r];exact q]
   exact u t x h
theorem mT{α:Type}{f:α->D}:∀{z:List α}{xs:LV},Reps K F xs (z.map f)->Kx (λx r=>Rep K F x (f r)) xs z
 |[],_,.nil=>.nil|_::_,_,.cons h t=>.cons h (mT t)
theorem JT{α:Type}{f:α->D}:∀{z:List α}{xs:LV},Kx (λx r=>Rep K F x (f r)) xs z->Reps K F xs (z.map f)
 |_,_,.nil=>.nil|_,_,.cons h t=>.cons h (JT t)
theorem Ge{bi:Bi}(s:Ste F H S ρ N L S1 M)(I:Rl K N L S1 M σ)(m:Tn K N L Y vs ts)(h:ZW bi (ts.map T.vw) λz n=>Q z n M)(k:AA K ws F H S ρ σ Q R):Ui K bi vs L R:=by
 cases bi with
 |len =>
  rcases h with⟨z,e,h⟩| ⟨W,e,h⟩| ⟨W,e,h⟩
  let#[v,t,Z,rfl,rfl,e,r,_]:=m.one e;obtain rfl:=r.str e;exact .inl #[_,rfl,h.1,k.d s I (.int _) h.2];let#[v,t,Z,rfl,rfl,e,r,_]:=m.one e;let#[p,xs,_,rfl,f,g,_]:=r.ls I.fh e;exact .inr #[_,xs,rfl,.inl f,by rw[g.9];exact k.d s I (.int _) h];let#[v,t,Z,rfl,rfl,e,r,_]:=m.one e;let#[p,xs,_,rfl,f,g,_]:=r.tp I.fh e;exact .inr #[_,xs,rfl,.inr f,by rw[g.9];exact k.d s I (.int _) h]
 |any=>let#[W,bs,e,hb,q]:=h;let#[v,t,Z,rfl,rfl,e,r,_]:=m.one e;let#[p,xs,_,rfl,f,g,_]:=r.ls I.fh e;obtain rfl:=(g.un hb).1.bools;exact#[bs,f,k.d s I (.bl _) q]|all=>let#[W,bs,e,hb,q]:=h;let#[v,t,Z,rfl,rfl,e,r,_]:=m.one e;let#[p,xs,_,rfl,f,g,_]:=r.ls I.fh e;obtain rfl:=(g.un hb).1.bools;exact#[bs,f,k.d s I (.bl _) q]|list=>let#[W,ds,e,hb,q]:=h;let#[v,t,Z,rfl,rfl,e,r,_]:=m.one e;let#[p,xs,_,rfl,f,g,_]:=r.ls I.fh e;exact#[_,xs,rfl,.inl f,λl hl=>k.listD s I hl (g.un hb).1 q]|tuple=>let#[W,ds,e,hb,q]:=h;let#[v,t,Z,rfl,rfl,e,r,_]:=m.one e;let#[p,xs,_,rfl,f,g,_]:=r.ls I.fh e;exact#[_,xs,rfl,f,λl hl=>k.tupD s I hl (g.un hb).1 q]|max=>let#[i,j,e,q]:=h;let#[v,w,t,u,Z1,Z2,rfl,rfl,e1,e2,r1,r2,_]:=m.two e;obtain rfl:=r1.int e1;obtain rfl:=r2.int e2;exact#[i,j,rfl,k.d s I (.int _) q]|sorted =>
  rcases h with⟨W,ss,e,hb,P,q⟩| ⟨W,ls,e,hb,P,q⟩
  let#[v,t,Z,rfl,rfl,e,r,_]:=m.one e;let#[p,xs,_,rfl,f,g,_]:=r.ls I.fh e;obtain rfl:=bC (g.un hb).1;exact#[_,rfl,.inl #[ss,f,P,λl ss' hl p1 p2=>k.listD s I hl (DH ss') (q ss' p1 p2)]];let#[v,t,Z,rfl,rfl,e,r,_]:=m.one e;let#[p,xs,_,rfl,f,g,_]:=r.ls I.fh e;have rr:=(g.un hb).1;refine#[_,rfl,.inr #[xs,f,by rw[Reps.length rr,QG];exact P,λx hx=>?_,λl ys hl f=>?_]];let#[a,ss,e,sq]:=kR rr x hx;exact#[a,ss,e,I.fh.seq sq];let#[ls',p1,r1]:=bV f.symm rr;exact k.listD s I hl r1 (q ls' p1)
theorem Rc{m:Mt}(s:Ste F H S ρ N L S1 M)(I:Rl K N L S1 M σ)(f:Tr K N L sa v a O)(i:Tn K N L Y vs ts)(h:lf m a.vw (ts.map T.vw) λz n=>Q z n M)(k:AA K ws F H S ρ σ Q R):Y6 K m v vs L R:=by
 cases m with|join=>let#[z,P,u,W,e,j,hl,q]:=h;let#[w,t,Z,rfl,rfl,e,r,_]:=i.one e;obtain rfl:=f.str W;let#[p,xs,_,rfl,l,g,_]:=r.ls I.fh e;obtain rfl:=bC (g.un j).1;exact#[z,p,u,rfl,rfl,l,hl,k.d s I (.str _) q]|_=>exact h.elim
theorem Mh{x:Vw}(h:x.isS=Js):∃z,x=.sc (.str z):=by
 cases x with
 |sc d=>cases d with|str z=>exact#[z,rfl]|_=>exact(QF h).elim
 |_=>exact(QF h).elim
theorem Zh{m:Mt}(u:Tr K N L sa v a O)(h:UR m a.vw=Js):NW K m.ty v L:=by
 have h:=yA h;let#[z,e]:=Mh h.1;obtain rfl:=u.str e;cases m with|join=>rfl|_=>exact(QF h.2).elim
end
end
inductive AV(K:QE)(F H:Hp):List Md->LV->List (T×Bool)->(jy->Prop)->(jy->Prop)->Prop where
 |nil {md:List Md}{W Y:kB}:(∀b,¬ W b)->AV K F H md [] [] W Y
 |chg {md:List Md}{v:V}{vs:LV}{x:T}{xs:List (T×Bool)}{W Y:kB}:(md.headD .kq).isMut=Js->AV K F H md.tail vs xs W Y->AV K F H md (v::vs) ((x,Js)::xs) W Y
 |new {md:List Md}{v:V}{vs:LV}{x:T}{xs:List (T×Bool)}{Z W W' Y:kB}:(md.headD .kq).isMut=Jt->Tr K F H Js v x Z->AV K F H md.tail vs xs W' Y->(∀b,Z b->¬ W' b)->(∀b,W b↔Z b∨W' b) ->
   AV K F H md (v::vs) ((x,Js)::xs) W Y
 |tmp {md:List Md}{v:V}{vs:LV}{x:T}{xs:List (T×Bool)}{Z W Y:kB}:(md.headD .kq).isMut=Jt->Tr K F H Jt v x Z->(∀b,Z b->Y b)->AV K F H md.tail vs xs W Y ->
   AV K F H md (v::vs) ((x,Jt)::xs) W Y
section
variable{K:QE}{F H o l:Hp}{S S1:Ft}{ρ g:kA}{σ:St}
section
variable{Y W:kB}{md:List Md}{vs:LV}{xs:List (T×Bool)}{ws:LN}{c:Hp}{w:Ft}{y:kA}
theorem AV.sub{u:kB}(h:AV K F H md vs xs W Y)(k:∀b,Y b->u b):AV K F H md vs xs W u:=by
 induction h with|nil h=>exact .nil h|chg h t x=>exact .chg h (x k)|new h r t n q x=>exact .new h r (x k) n q|tmp h r z t x=>exact .tmp h r (λb hb=>k b (z b hb)) (x k)
theorem AV.dom(h:AV K F H md vs xs W Y):∀b,W b->H b≠Jr/\F b=none:=by
 induction h with|nil h=>exact λb hb=>gJ hb (h b)|chg h t x=>exact x|new h r t n q x=>exact λb hb=>((q b).mp hb).elim (r.dom b) (x b)|tmp h r z t x=>exact x
theorem AV.length(h:AV K F H md vs xs W Y):vs.9=xs.length:=by
 induction h with|nil h=>rfl|chg h t x=>simp[x]|new h r t n q x=>simp[x]|tmp h r z t x=>simp[x]
theorem AV.trs(h:AV K F H md vs xs W Y):(∀(i:Nat),(md.getD i .kq).isMut=Jt)->aE xs=Js->Trs K F H Js vs (RE xs) W:=by
 induction h with
 |nil h=>exact λ_ _=>.nil h|@chg md _ _ _ _ _ _ h t u =>
  intro m;have:=m 0;cases md with|nil=>cases h|cons a r=>exact gJ h (by simpa using this)
 |@new md v vs x xs Z W k Y h r t n q u =>
  intro m e;simp only[aE,Qf]at e;exact .cons r (u (λi=>by cases md with|nil=>exact m i|cons a md=>exact m (i+1)) e.2) n q
 |@tmp md v vs x xs Z W Y h r z t u =>
  intro m e;simp only[aE,Qf]at e;refine .cons (S1:=λ_=>False) ?_ (u (λi=>by cases md with|nil=>exact m i|cons a md=>exact m (i+1)) e.2) (λ_ z=>z.elim) λb=>by simp
  cases x with
  |d x=>cases r with|d r n=>exact .d r λ_ z=>z
  |_=>exact gJ e.1 (by simp[zG,T.isD])
theorem Hc(i:Nat):((([]:List Md).getD i .kq).isMut)=false:=rfl
theorem AV.tn(h:AV K F H md vs xs W Y)(e:Same F o)(k:∀b,W b->o b=H b)(f:∀b,Y b->F b=Jr->o b=Jr)(hm:md=[]):Tn K o H Y vs (OK xs):=by
 induction h with|nil h=>exact .nil|chg h t a=>subst hm;cases h|@new md v vs x xs Z W j Y h r t n q a=>subst hm;refine .cons (Z:=λ_=>False) ?_ (λb z=>z.elim) (a (λb hb=>k b ((q b).mpr (.inr hb))) f rfl);exact .d (r.kept e λb u hb i=>by rw[k b ((q b).mpr (.inl hb))];exact i) λ_ z=>z|@tmp md v vs x xs Z W Y h r z t a=>subst hm;exact .cons (r.mono e λb hb=>#[rfl,f b (z b hb) (r.dom b hb).2]) z (a k f rfl)
structure AR(K:QE)(ws:LN)(md:List Md)(c:Hp)(w:Ft)(y:kA)(F H:Hp)(S:Ft)(ρ:kA)(vs:LV)(xs:List (T×Bool))(W Y:kB):Prop where
 av:AV K F H md vs xs W Y
 fr:∀b,W b->c b=Jr∨U y w b
 tm:∀b,Y b->∃(i:Nat) (s:Sl),i∈ws/\ρ[i]?=Jp (Jp s)/\S i b
 nw:∀(i:Nat) s,ρ[i]?=Jp (Jp s)->∀b,W b->¬ S i b
theorem AR.held(h:AR K ws md c w y F H S ρ vs xs W Y):Held F H S ρ W:=#[h.av.dom,h.nw]
theorem AR.from{v u:Hp}{z:Ft}{x:kA}(s:Stp F H S ρ o l S1 g)(h:AR K ws md l S1 g v u z x vs xs W Y):AR K ws md H S ρ v u z x vs xs W Y :=
 #[h.av,λb hb=>by rcases h.fr b hb with q|q;exact .inl (s.dm b q);exact(s.uu b q).symm,h.tm,h.nw]
theorem AR.vars{us:LN}(h:AR K ws md c w y F H S ρ vs xs W Y)(k:∀i∈ws,i∈us):AR K us md c w y F H S ρ vs xs W Y :=
 #[h.av,h.fr,λb hb=>let#[i,s,z,x]:=h.tm b hb;#[i,s,k i z,x],h.nw]
theorem AR.frz{ws:LN}{vs:LV}{xs:List (T×Bool)}{W Y:kB}(s:Ste F H S ρ o l S1 g)(I:Rl K o l S1 g σ)(h:AR K ws [] H S ρ o l S1 g vs xs W Y) :
  ∃v,Ste F H S ρ v l S1 g/\Rl K v l S1 g σ/\Tn K v l Y vs (OK xs) /\
   ∀st k t' u,Tr K o l st k t' u->(∀b,u b->∃(i:Nat) (s:Sl),g[i]?=Jp (Jp s)/\S1 i b)->Tr K v l st k t' u:=by
 have x:=h.held;have f:=MF (H:=l) λb hb=>(x.dom b hb).2;refine#[pH o l W,s.frz (λb hb=>(x.dom b hb).2) h.fr,I.frz x,h.av.tn f (λb hb=>oH hb) (λb m n=>?_) rfl,λst k t' u r j=>r.mono f λb hb=>#[rfl,?_]];let#[i,a,_,e,p]:=h.tm b m;rw[kC λz=>h.nw i a e b z p];exact n;let#[i,a,q,e]:=j b hb;rw[kC λz=>x.nw i a q b z e];exact(r.dom b hb).2
noncomputable def uB:List Md->LV->LV
 |_,[]=>[]|md,v::vs=>match md.headD .kq with
  | .chg=>v::uB md.tail vs|_=>uB md.tail vs
noncomputable abbrev xj(K:QE)(p:PX)(md:List Md)(F H:Hp)(S:Ft)(ρ:kA)(σ:St)(Q:List (T×Bool)->kA->Prop)(R:LV->Hp->Prop):Prop :=
 ∀vs u x z h xs W Y,Ste F H S ρ u x z h->Rl K u x z h σ->AR K (SF p) md H S ρ u x z h vs xs W Y->(uB md vs).map (λv=>Jp (Jp v))=(cA md p).map (λj=>σ[j]?)->Q xs h->R vs x
def Mi(K:QE)(F H:Hp)(x:XD)(h:Option jy):Prop:=∃a fs,h=Jp a/\H a=Jp (.xd fs)/\Kx (λ(p:Str×V) (q:Str×D)=>p.1=q.1/\Rep K F p.2 q.2) fs x.2
def fE(K:QE)(F H:Hp)(S:Ft)(ρ:kA)(E:XE)(a:XK):Prop:=∀x v u h k z,Stp F H S ρ u h k z->Same u h->Mi K u h x v->E x->a x.1 v h
theorem fE.from{E:XE}{u:XK}(h:fE K F H S ρ E u)(s:Stp F H S ρ o l S1 g):fE K o l S1 g E u:=λx k e b a z v f r q=>h x k e b a z (s.trans v) f r q
theorem fE.never:fE K F H S ρ (λ_=>False) (λ_ _ _=>False):=λ_ _ _ _ _ _ _ _ _ z=>z
inductive ArgsR(K:QE)(F H:Hp)(Y:kB):List Md->LV->LT->Prop where
 |nil {md:List Md}:ArgsR K F H Y md [] []
 |chg {md:List Md}{v:V}{vs:LV}{t:T}{ts:LT}:md.headD .kq=.chg->ArgsR K F H Y md.tail vs ts->ArgsR K F H Y md (v::vs) (t::ts)
 |rd {md:List Md}{v:V}{vs:LV}{t:T}{ts:LT}{Z:kB}:md.headD .kq≠.chg->Tr K F H Jt v t Z->(∀b,Z b->Y b)->ArgsR K F H Y md.tail vs ts->ArgsR K F H Y md (v::vs) (t::ts)
structure Frm(M:kB)(F H F' H':Hp):Prop where
 ff:Same F F'
 fh:Same F' H'
 hh:∀b u,H b=Jp u->¬ M b->H' b=Jp u
 dm:∀b,H' b=Jr->H b=Jr
 fn:∀b,F b=Jr->F' b≠Jr->M b∨H b=Jr
def lift(K:QE)(P:PSp):Sp:=λvs H Q E=>∃(F:Hp) (u:LT) (M Y:kB),Same F H/\ArgsR K F H Y P.md vs u/\Trs K F H Js (uB P.md vs) (YB P.md u) M/\(∀b,Y b->¬ M b) /\
 P.run u (λr e=>∀v z h Z k,Frm M F H z h->Tr K z h Js v r Z->Trs K z h Js (uB P.md vs) e k->(∀b,Z b->¬ k b)->(∀b,Z b∨k b->M b∨H b=Jr)->Q v h)
  (λx=>∀a z h,Frm M F H z h->Mi K z h x a->E x.1 a h)
structure GOk(K:QE)(Γ:Ev)(Ψ:PEv):Prop where
 sp:∀f vs H Q E,lift K (Ψ.sp f) vs H Q E->Γ.sp f vs H Q E
 va:∀x d,Ψ.va x=Jp d->∀F,Rep K F (Γ.va x) d
structure PSnd(K:QE)(Γ:Ev)(Ψ:PEv)(p:PX):Prop where
 e:∀{E:XE}{EK:XK}{F H:Hp}{S:Ft}{ρ:kA}{σ:St}{Q:TK}{R:VK},Rl K F H S ρ σ->fE K F H S ρ E EK->(pe Ψ p E).e ρ Q->AA K (SF p) F H S ρ σ Q R->(wp K Γ p EK).e σ H R
 t:∀{E:XE}{EK:XK}{F H:Hp}{S:Ft}{ρ:kA}{σ:St}{Q:Bool->kA->Prop}{R:Bool->Hp->Prop},Rl K F H S ρ σ->fE K F H S ρ E EK->(pe Ψ p E).t ρ Q->xG K F H S ρ σ Q R->(wp K Γ p EK).t σ H R
 a:∀{E:XE}{EK:XK}{F H:Hp}{S:Ft}{ρ:kA}{σ:St}{md:List Md}{Q:List (T×Bool)->kA->Prop}{R:LV->Hp->Prop},Rl K F H S ρ σ->fE K F H S ρ E EK->(∀j∈cA md p,∃v,σ[j]?=Jp (Jp v))->(pe Ψ p E).a md ρ Q->xj K p md F H S ρ σ Q R->(wp K Γ p EK).a σ H R
end
end
section
variable{K:QE}{Γ:Ev}{Ψ:PEv}{E:XE}{u:XK}{F H B A:Hp}{S S1:Ft}{ρ U:kA}{σ:St}
section
variable{b a as:PX}{RR:LV->Hp->Prop}{P:List (T×Bool)->kA->Prop}{Y Z:kB}{t:T}{st:Bool}{ts:LT}{v:V}
theorem eg(N:PSnd K Γ Ψ b)(I:Rl K F H S ρ σ)(X:fE K F H S ρ E u){x:T}{P:T×Bool->kA->Prop}{RR:VK}(h:sq x ρ (cu (pe Ψ b E).e) P)
  (M:∀w o g S' k y m Z,Ste F H S ρ o g S' k->Rl K o g S' k σ->(∀st v l,Tr K F H st v x l->Tr K o g st v x l)->(x.isD=Jt->k=ρ/\S'=S)->VR K (SF b) H S ρ o g S' k w y m Z->P (y,m) k->RR w g) :
  (wp K Γ b u).e σ H RR:=by
 unfold sq at h;cases p:x.isD with
 |true =>
  rw[p,Gw rfl]at h;refine N.e I X h λw o g S' k y m Z s C r q=>M w o g S' k y m Z s C (λst v l W=>?_) (λz=>(by rw[p]at z;cases z)) r q;cases x with
  |d x=>cases W with|d r n=>exact .d (r.mono s.ff) n
  |_=>cases p
 |false =>
  rw[p,Gq (by simp)]at h;have X':fE K F H S (lockA ρ) E u:=λx dx F2 H2 S2 O Q f r q=>X x dx F2 H2 S ρ Q.unlockA f r q;refine N.e I.lockA X' h λw o g S' k y m Z s C r q=>?_;have kp:∀st v t l,Tr K F H st v t l->Tr K o g st v t l:=λst v t l W=>s.keep W λb _=>MC b;refine M w o g S ρ y m Z #[s.unlockA,λj t h=>#[t,h]] (I.unlockA s.toStp C.fh) (λst v l W=>kp st v _ l W) (λ_=>#[rfl,rfl]) #[r.tr,λe b hb=>?_,λe b hb=>?_,λe i L hi b hb z=>?_] q;exact .inl ((r.fr e b hb).elim id λz=>gJ z (MC b));let#[i,L,h1,J,G]:=r.tm e b hb;cases L with
  |own t=>let#[t0,h0]:=s.ow i t J;let#[_,_,e0]:=gB h0;cases e0|ny t =>
   cases p:t.isD with|true=>exact gJ G (C.isD J p)|false=>let#[g1,g2]:=s.bo i t J p;let#[R,g3,_]:=gB g1;rw[g2]at G;exact#[i,R,h1,g3,G]
  rcases r.fr e b hb with q|q
  ·exact(I.dom hi z).1 q
  exact gJ q (MC b)
theorem Jg{md:List Md}(O:PSnd K Γ Ψ b)(I:Rl K F H S ρ σ)(X:fE K F H S ρ E u)(hm:∀j∈cA md b,∃v,σ[j]?=Jp (Jp v)){x:T}(h:sq x ρ ((pe Ψ b E).a md) P)
  (N:∀ws l e S' k L W Y,Ste F H S ρ l e S' k->Rl K l e S' k σ->(∀st v g,Tr K F H st v x g->Tr K l e st v x g)->(x.isD=Jt->k=ρ/\S'=S)->AR K (SF b) md H S ρ l e S' k ws L W Y->(uB md ws).map (λv=>Jp (Jp v))=(cA md b).map (λj=>σ[j]?)->P L k->RR ws e) :
  (wp K Γ b u).a σ H RR:=by
 unfold sq at h;cases m:x.isD with
 |true =>
  rw[m,Gw rfl]at h;refine O.a I X hm h λw l e S' k y W Y s p r C q=>N w l e S' k y W Y s p (λst v g o=>?_) (λz=>(by rw[m]at z;cases z)) r C q;cases x with
  |d x=>cases o with|d r n=>exact .d (r.mono s.ff) n
  |_=>cases m
 |false =>
  rw[m,Gq (by simp)]at h;have X':fE K F H S (lockA ρ) E u:=λx dx F2 H2 S2 Q R f r q=>X x dx F2 H2 S ρ R.unlockA f r q;refine O.a I.lockA X' hm h λw l e S' k y W Y s p r C q=>?_;have kp:∀st v t g,Tr K F H st v t g->Tr K l e st v t g:=λst v t g o=>s.keep o λb _=>MC b;refine N w l e S ρ y W Y #[s.unlockA,λj t h=>#[t,h]] (I.unlockA s.toStp p.fh) (λst v g o=>kp st v _ g o) (λ_=>#[rfl,rfl]) #[r.av,λb hb=>?_,λb hb=>?_,λi M hi b hb z=>?_] C q;exact .inl ((r.fr b hb).elim id λz=>gJ z (MC b));let#[i,M,h1,J,G]:=r.tm b hb;cases M with
  |own t=>let#[t0,h0]:=s.ow i t J;let#[_,_,e0]:=gB h0;cases e0|ny t =>
   cases m:t.isD with|true=>exact gJ G (p.isD J m)|false=>let#[g1,g2]:=s.bo i t J m;let#[s0,g3,_]:=gB g1;rw[g2]at G;exact#[i,s0,h1,g3,G]
  rcases r.fr b hb with q|q
  ·exact(I.dom hi z).1 q
  exact gJ q (MC b)
theorem rD(l:PSnd K Γ Ψ a)(I:Rl K F H S ρ σ)(X:fE K F H S ρ E u){P:TK}{RR:VK}(h:(pe Ψ a E).e ρ P)
  (j:∀v w z S' y x n Z,Ste F H S ρ w z S' y->Rl K w z S' y σ->fE K w z S' y E u->Tr K w z Jt v (bA x n) Z->(zG x n=Js->Rep K w v x.er)->(∀b,Z b->∃(i:Nat) (s:Sl),i∈SF a/\y[i]?=Jp (Jp s)/\S' i b)->P x n y->RR v z) :
  (wp K Γ a u).e σ H RR:=by
 refine l.e I X h λv w z S' y x n Z s W r q=>?_;let#[C,o,k,p,g,m,f,_]:=r.frz s W;exact j v C z S' y x n o k p (X.from k.toStp) g m f q
theorem cX(ia:PSnd K Γ Ψ a)(ib:PSnd K Γ Ψ b)(I:Rl K F H S ρ σ)(X:fE K F H S ρ E u){P:T->Bool->T->Bool->kA->Prop}{RR:V->V->Hp->Prop}
  (h:(pe Ψ a E).e ρ λx n U=>sq (bA x n) U (cu (pe Ψ b E).e) λy k=>P x n y.1 y.2 k)
  (kk:∀v w l f S' z x n y m j Zb,Ste F H S ρ l f S' z->Rl K l f S' z σ->fE K l f S' z E u->Tr K l f Jt v (bA x n) j->(∀b,j b->∃(i:Nat) (s:Sl),i∈SF a/\z[i]?=Jp (Jp s)/\S' i b)->Tr K l f Jt w (bA y m) Zb ->
   P x n y m z->RR v w f):(wp K Γ a u).e σ H λv A=>(wp K Γ b u).e σ A λw q=>RR v w q:=by
 refine rD ia I X h λv B A S1 U x n j M I1 X1 o _ G R=>?_;refine eg ib I1 X1 R λw F2 q C k y m Z L I2 kp hs O Q=>?_;let#[F3,Z3,J,I3,N,_,_,k3]:=O.frz L I2;have W:∀b,j b->∃(i:Nat) (s:Sl),i∈SF a/\k[i]?=Jp (Jp s)/\C i b:=by
  cases p:(bA x n).isD with
  |true =>
   intro b hb;exfalso;generalize bA x n=t at o p;cases o with|d r n=>exact n b hb|_=>cases p
  |false=>let#[e1,e2]:=hs p;rw[e1,e2];exact G
 have g:=M.trans J;exact kk v w F3 q C k x n y m j Z3 g I3 (X.from g.toStp) (k3 _ _ _ _ (kp _ _ _ o) λb hb=>let#[i,s,_,h2]:=W b hb;#[i,s,h2]) W N Q
theorem ZS(e:PSnd K Γ Ψ as)(I:Rl K F H S ρ σ)(X:fE K F H S ρ E u)(h:(pe Ψ as E).a [] ρ P)
  (k:∀vs z y S' x xs Y,Ste F H S ρ z y S' x->Rl K z y S' x σ->fE K z y S' x E u->Tn K z y Y vs (OK xs)->(∀b,Y b->∃(i:Nat) (s:Sl),i∈SF as/\x[i]?=Jp (Jp s)/\S' i b)->P xs x->RR vs y):(wp K Γ as u).a σ H RR:=by
 refine e.a (md:=[]) I X (λj f=>by cases as<;>cases f) h λvs z y S' x xs W Y s l r _ q=>?_;let#[m,w,g,t,_]:=r.frz s l;exact k vs m y S' x xs Y w g (X.from w.toStp) t r.tm q
theorem Sf(ia:PSnd K Γ Ψ a)(ib:PSnd K Γ Ψ as)(I:Rl K F H S ρ σ)(X:fE K F H S ρ E u){P1:T->Bool->Prop}{P:T->Bool->List (T×Bool)->kA->Prop}{R1:V->Hp->Prop}{RR:V->LV->Hp->Prop}
  (h:(pe Ψ a E).e ρ λx n U=>P1 x n/\sq (bA x n) U ((pe Ψ as E).a []) λxs z=>P x n xs z)
  (k1:∀v f w x n k,Tr K f w Jt v (bA x n) k->P1 x n->R1 v w)
  (kk:∀v vs f w S' y x n xs k Y,Ste F H S ρ f w S' y->Rl K f w S' y σ->fE K f w S' y E u->Tr K f w Jt v (bA x n) k->(∀b,k b->∃(i:Nat) (s:Sl),i∈SF a/\y[i]?=Jp (Jp s)/\S' i b)->Tn K f w Y vs (OK xs) ->
   P x n xs y->RR v vs w):(wp K Γ a u).e σ H λv A=>R1 v A/\(wp K Γ as u).a σ A λvs o=>RR v vs o:=by
 refine rD ia I X h λv B A S1 U x n k L I1 X1 l _ C #[Q,O]=>#[k1 v B A x n k l Q,?_]
 refine Jg ib I1 X1 (λj hj=>by cases as<;>cases hj) O λvs F2 o q z xs W Y J I2 R hs M _ N=>?_;let#[F3,G,I3,tn,k3]:=M.frz J I2;have p:∀b,k b->∃(i:Nat) (s:Sl),i∈SF a/\z[i]?=Jp (Jp s)/\q i b:=by
  cases m:(bA x n).isD with
  |true =>
   intro b hb;exfalso;generalize bA x n=t at l m;cases l with|d r n=>exact n b hb|_=>cases m
  |false=>let#[e1,e2]:=hs m;rw[e1,e2];exact C
 have g:=L.trans G;exact kk v vs F3 o q z x n xs k Y g I3 (X.from g.toStp) (k3 _ _ _ _ (R _ _ _ l) λb hb=>let#[i,s,_,h2]:=p b hb;#[i,s,h2]) p tn N
def GW(K:QE)(F H:Hp)(Y:kB):Item->T->Prop
 | .one v,t=>∃Z,Tr K F H Jt v t Z/\∀b,Z b->Y b|.tup vs,t=>∃h,t=.d (.tuple h)/\Reps K F vs h
theorem GW.mono{it:Item}(h:GW K F H Y it t)(e:Same F B)(k:∀b,Y b->A b=H b/\B b=Jr):GW K B A Y it t:=by
 cases it with|one v=>let#[Z,r,z]:=h;exact#[Z,r.mono e λb hb=>k b (z b hb),z]|tup y=>let#[ts,x,r]:=h;exact#[ts,x,r.mono e]
theorem CZ{xs:LV}(h:Trs K F H st xs ts Z)(z:∀b,Z b->Y b):Kx (GW K F H Y) (xs.map .one) ts :=
 Trs.ind (R:=λ_ xs ts Z=>(∀b,Z b->Y b)->Kx (GW K F H Y) (xs.map .one) ts) (λ_ _=>.nil) (λh _ _ q x z=>.cons #[_,h.weak,λb hb=>z b ((q b).mpr (.inl hb))] (x λb hb=>z b ((q b).mpr (.inr hb)))) h z
theorem oN{Y:kB}{α:Type}(f:α->V)(g:α->D)(h:∀x,Rep K F (f x) (g x)):∀(l:List α),Kx (GW K F H Y) (l.map λx=>.one (f x)) (l.map λx=>T.d (g x))
 |[]=>.nil|x::r=>.cons #[λ_=>False,.d (h x) λ_ z=>z,λ_ z=>z.elim] (oN f g h r)
theorem Tr.lsS(f:Same F H)(h:Tr K F H st v t Z)(e:t.vw=.ls ts):∃a vs S',v=.ref a/\uC K H a vs/\Trs K F H Jt vs ts S'/\(∀b,S' b->Z b)/\∀y x,Same F y->Same y x->(∀b,Z b->x b=H b)->uC K x a vs:=by
 cases h with
 |d r n =>
  cases r with|lst q r=>injection e with e;subst e;exact#[_,_,_,rfl,f.seq q,Trs.of_reps r,λb hb=>hb.elim,λy x w z _=>(w.trans z).seq q]|dct _ _ _=>exact(dG e).elim|_=>cases e
 |lst h _ r n q=>injection e with e;subst e;exact#[_,_,_,rfl,uC.of h,r.weak,λb hb=>(q b).mpr (.inr hb),λy x _ _ k=>uC.of ((k _ ((q _).mpr (.inl rfl))).trans h)]|tup=>cases e|dct=>cases e|lstF h r n=>injection e with e;subst e;exact#[_,_,_,rfl,f.seq h,Trs.of_reps r,λb hb=>hb.elim,λy x w z _=>(w.trans z).seq h]
theorem Tr.tpS(f:Same F H)(h:Tr K F H st v t Z)(e:t.vw=.tp ts):∃a vs S',v=.ref a/\HC K H a vs/\Trs K F H Jt vs ts S'/\(∀b,S' b->Z b)/\∀y x,Same F y->Same y x->(∀b,Z b->x b=H b)->HC K x a vs:=by
 cases h with
 |d r n =>
  cases r with|tup q r=>injection e with e;subst e;exact#[_,_,_,rfl,f.tupl q,Trs.of_reps r,λb hb=>hb.elim,λy x w z _=>(w.trans z).tupl q]|dct _ _ _=>exact(vJ e).elim|_=>cases e
 |tup h _ r n q=>injection e with e;subst e;exact#[_,_,_,rfl,HC.of h,r.weak,λb hb=>(q b).mpr (.inr hb),λy x _ _ k=>HC.of ((k _ ((q _).mpr (.inl rfl))).trans h)]|lst=>cases e|lstF=>cases e|dct=>cases e
theorem Tr.seqS(f:Same F H)(h:Tr K F H st v t Z)(e:t.vw.seq=Jp ts):∃a vs sz,v=.ref (Src.adr sz)/\SW K H sz vs/\(∃S',Trs K F H Jt vs ts S')/\a=Src.adr sz/\∀k z,Same F k->Same k z->(∀b,Z b->z b=H b)->SW K z sz vs:=by
 generalize ev:t.vw=w at e;cases w with|ls g=>cases e;let#[a,vs,S',rfl,y,x,_,hs]:=h.lsS f ev;exact#[a,vs,.l a,rfl,y,#[S',x],rfl,hs]|tp g=>cases e;let#[a,vs,S',rfl,y,x,_,hs]:=h.tpS f ev;exact#[a,vs,.t a,rfl,y,#[S',x],rfl,hs]|_=>cases e
theorem lH:∀(k:List Key),Reps K F (k.map kV) (k.map kD)
 |[]=>.nil|.inl i::k=>.cons (.int i) (lH k)|.inr z::k=>.cons (.str z) (lH k)
theorem fU{Y:kB}:∀{kvs:List KE}{ds:List D},JF K F kvs->Reps K F (kvs.map (·.2.2)) ds->Kx (GW K F H Y) (kvs.map λp=>.tup [.ref p.2.1,p.2.2]) (((kvs.map λp=>tD p.1).zip ds).map λp=>T.d (.tuple [p.1,p.2]))
 |[],_,_,.nil=>.nil|p::r,_,hk,.cons h t=>by simp only[QT,QBR];exact .cons #[[_,_],rfl,.cons (.tup (hk p QD) (lH p.1)) (.cons h .nil)] (fU (λp x=>hk p (QC _ x)) t)
theorem dU{Y:kB}:∀{kvs:List KE},JF K F kvs->Kx (GW K F H Y) (kvs.map λp=>.one (.ref p.2.1)) ((kvs.map λp=>tD p.1).map T.d)
 |[],_=>.nil|p::r,hk=>.cons #[λ_=>False,.d (.tup (hk p QD) (lH p.1)) λ_ z=>z,λ_ z=>z.elim] (dU λp h=>hk p (QC _ h))
theorem KP{Y:kB}:∀{xs:LV}{ds:List D}(_:Reps K F xs ds) (g:Nat->Int) (n:Nat),Kx (GW K F H Y) ((xs.zipIdx n).map λp=>.tup [.int (g p.2),p.1]) ((ds.zipIdx n).map λp=>T.d (.tuple [.int (g p.2),p.1]))
 |_,_,.nil,g,n=>by simp only[List.zipIdx_nil,wt];exact .nil|_,_,.cons h t,g,n=>by simp only[List.zipIdx_cons,QT];exact .cons #[[_,_],rfl,.cons (.int _) (.cons h .nil)] (KP t g (n+1))
theorem SH{O:ItK}{vs:LV}{RD:LT->Prop}{RR:List Item->(Hp->Prop)->Hp->Prop}(f:Same F H)(W:Tn K F H Y vs ts)(h:ZB O (ts.map T.vw) RD)
  (k:∀xs ys st,Kx (GW K F H Y) xs ys->(∀m l,Same F m->Same m l->(∀b,Y b->l b=H b)->st l)->RD ys->RR xs st H):dC K O vs H RR:=by
 cases O with
 |val =>
  rcases h with⟨z,e,h⟩| ⟨L,e,h⟩| ⟨L,e,h⟩| ⟨G,L,e,h⟩
  let#[v,t,Z,rfl,rfl,e,r,_]:=W.one e;obtain rfl:=r.str e;exact k _ _ _ (oN (λc=>.str #[(WZ [c])]) (λc=>.str #[(WZ [c])]) (λc=>.str _) _) (λ_ _ _ _ _=>trivial) h;let#[v,t,Z,rfl,rfl,e,r,z]:=W.one e;let#[p,xs,S',rfl,Q,s,M,hs]:=r.lsS f e;exact .inl #[xs,Q,k _ _ _ (CZ s λb hb=>z b (M b hb)) (λm l y g q=>hs m l y g λb hb=>q b (z b hb)) h];let#[v,t,Z,rfl,rfl,e,r,z]:=W.one e;let#[p,xs,S',rfl,Q,s,M,hs]:=r.tpS f e;exact .inr (.inl #[xs,Q,k _ _ _ (CZ s λb hb=>z b (M b hb)) (λm l y g q=>hs m l y g λb hb=>q b (z b hb)) h]);let#[v,t,Z,rfl,rfl,y,C,I]:=W.one e;let#[a,o,xs,_,rfl,R,dk,s,_,hs]:=C.dc f y;let#[X,w,rfl,rfl,rfl,h4,_]:=dk;exact .inr (.inr #[X,w,R,k _ _ _ (dU h4) (λm l y g q=>hs m l y g λb hb=>q b (I b hb)) h])
 |rng1=>let#[j,e,h]:=h;let#[v,t,Z,rfl,rfl,e,r,_]:=W.one e;obtain rfl:=r.int e;exact#[h.1,k _ _ _ (oN (λ(i:Nat)=>.int (i:Int)) (λ(i:Nat)=>.int (i:Int)) (λc=>.int _) _) (λ_ _ _ _ _=>trivial) h.2]|enum=>let#[x,L,J,e,g1,g3,q]:=h;let#[v,t,Z,rfl,rfl,y,C,I]:=W.one e;let#[a,xs,sz,rfl,hq,#[_,s],_,hs]:=C.seqS f (by rw[y];exact g1);exact#[sz,xs,rfl,hq,k _ _ _ (KP (s.un g3).1 (λi=>(i:Int)) 0) (λm l y g q=>hs m l y g λb hb=>q b (I b hb)) q]|itm =>
  rcases h with⟨G,L,J,e,g3,q⟩| ⟨e,q⟩
  rotate_left
  let#[v,t,Z,rfl,rfl,y,C,I]:=W.one e;let#[_,s]:=C.sc y;generalize ed:PyData.dict []=d at s;cases s with
  |@dct b a o G vs J h N r =>
   have ez:G.zip J=[]:=by injection ed with ed;exact ed.symm
   have hl:G.9=J.length:=by rw[N.len,Reps.length r]
   have ek:G=[]:=by
    cases G with
    |nil=>rfl|cons k G =>
     cases J with|nil=>cases hl|cons d J=>cases ez
   subst ek;have eo:∃X,o=.dT X []:=by
    cases b with
    |true =>
     let#[X,w,y,g,_]:=N;cases w with|nil=>exact#[X,y]|cons p r=>cases g
    |false =>
     rcases N with⟨w,n,_,g,_⟩| ⟨X,y,_⟩
     cases w with|nil=>exact gJ rfl n|cons p r=>cases g
     exact#[X,y]
   let#[X,rfl]:=eo;exact#[X,[],f _ _ h,k _ _ _ .nil (λm l y g _=>g _ _ (y _ _ h)) q]
  |_=>cases ed
  let#[v,t,Z,rfl,rfl,y,C,I]:=W.one e;let#[a,o,xs,_,rfl,R,dk,s,_,hs]:=C.dc f y;let#[X,w,rfl,rfl,rfl,h4,_]:=dk;exact#[X,w,R,k _ _ _ (fU h4 (s.un g3).1) (λm l y g q=>hs m l y g λb hb=>q b (I b hb)) q]
end
end
section
variable{i j:Nat}{Z:kB}
def fG(S:Ft)(i:Nat)(Z:kB):Ft:=λj=>if j=i then Z else S j
theorem HA{S:Ft}:fG S i Z i=Z:=Gw rfl
theorem rA{S:Ft}(h:j≠i):fG S i Z j=S j:=Gq h
theorem xA{α:Type}{l:List α}{x y:α}(h:(l.set i x)[j]?=Jp y):(i=j/\y=x/\i<l.9)∨(i≠j/\l[j]?=Jp y):=by rw[wx]at h;by_cases e:i=j;subst e;rw[Gw rfl]at h;by_cases hl:i<l.9;rw[Gw hl]at h;cases h;exact .inl #[rfl,rfl,hl];rw[Gq hl]at h;cases h;rw[Gq e]at h;exact .inr #[e,h]
theorem kT{α:Type}{l:List α}{x:α}(h:i<l.9):(l.set i x)[i]?=Jp x:=by rw[wx,Gw rfl,Gw h]
theorem UD{α:Type}{l:List α}{x:α}(h:i≠j):(l.set i x)[j]?=l[j]?:=by rw[wx,Gq h]
end
section
variable{K:QE}{Γ:Ev}{Ψ:PEv}{E:XE}{G:XK}{F H C D:Hp}{S S1:Ft}{ρ B:kA}{σ:St}
section
variable{Z Y:kB}{X o:Hp}{S':Ft}{g:kA}{l:St}{st:Bool}{A:Tg}{k:Nat}{mask:List Bool}
theorem Rl.setB(I:Rl K F H S ρ σ)(i:Nat){v:V}{t:T}(r:Tr K F H Jt v t Z)(hz:∀(j:Nat) u,j≠i->ρ[j]?=Jp (Jp (.own u))->∀b,Z b->¬ S j b):Rl K F H (fG S i Z) (ρ.set i (Jp (.ny t))) (σ.set i (Jp v)) where
 fh:=I.fh
 len:=by simpa using I.len
 sl:=λj s h=>by
  rcases xA h with⟨rfl,e,hl⟩| ⟨w,h⟩
  cases e;exact#[v,kT (by rw[<- I.len];exact hl),by rw[HA];exact r];rw[UD w,rA (qB w)];exact I.sl j s h
 dj:=λj k z s n x y b hb hk=>by
  rcases xA x with⟨_,e,_⟩| ⟨f,x⟩
  cases e;rw[rA (qB f)]at hb;rcases xA y with⟨e,_,_⟩| ⟨a,y⟩
  subst e;rw[HA]at hk;exact hz j z n x b hk hb;rw[rA (qB a)]at hk;exact I.dj j k z s n x y b hb hk
structure Bd(J:LN)(F H:Hp)(S:Ft)(ρ:kA)(σ:St)(X o:Hp)(S':Ft)(g:kA)(l:St):Prop where
 ff:Same F X
 hh:Same H o
 fn:∀b,F b=Jr->X b≠Jr->H b=Jr
 out:∀j,j∉J->g[j]?=ρ[j]?/\S' j=S j/\l[j]?=σ[j]?
 inn:∀j t,j∈J->g[j]?≠Jp (Jp (.own t))
theorem Bd.U{J:LN}(h:Bd J F H S ρ σ X o S' g l){b:jy}(u:U g S' b):L3.U ρ S b:=by let#[i,t,x,z]:=u;by_cases y:i∈J;exact gJ x (h.inn i t y);let#[w,v,_]:=h.out i y;rw[w]at x;rw[v]at z;exact#[i,t,x,z]
theorem Bd.dm{J:LN}(h:Bd J F H S ρ σ X o S' g l)(b:jy)(e:o b=Jr):H b=none:=h.hh.free e
theorem xT{Y:kB}(s:∀b,Y b->¬ U ρ S b):∀(w:LN) {vs:LV}{ts:LT}{S1:Ft}{B g:kA}{x:St}{J:LN},(∀i∈w,i∈J)->Rl K F H S1 B x->(∀b,U B S1 b->U ρ S b)->Tn K F H Y vs ts->fB w ts B=Jp g ->
  ∃l S',IA w vs x=Jp l/\Rl K F H S' g l/\(∀j,j∉J->g[j]?=B[j]?/\S' j=S1 j/\l[j]?=x[j]?)/\(∀j t,g[j]?=Jp (Jp (.own t))->j∉w/\B[j]?=Jp (Jp (.own t)))
 |[],_,_,S1,B,g,x,J,hJ,I,hu,.nil,h=>by simp only[fB,Qs]at h;subst h;exact#[x,S1,rfl,I,λ_ _=>#[rfl,rfl,rfl],λj t h=>#[(by simp),h]]|[],_,_,_,_,_,_,_,_,_,_,.cons _ _ _,h=>by simp[fB]at h|_::_,_,_,_,_,_,_,_,_,_,_,.nil,h=>by simp[fB]at h|i::w,_,_,S1,B,g,x,J,hJ,I,hu,.cons (v:=v) (t:=t) (Z:=Z) r z tl,h=>by
  simp only[fB]at h;have nu:∀b,Z b->¬ U B S1 b:=λb hb u=>s b (z b hb) (hu b u);have Q:=I.setB i r λj u _ y b hb hs=>nu b hb #[j,u,y,hs];have p:∀b,U (B.set i (Jp (.ny t))) (fG S1 i Z) b->U ρ S b:=λb #[j,u,q,W]=>by
   rcases xA q with⟨_,e,_⟩| ⟨n,q⟩
   cases e;rw[rA (qB n)]at W;exact hu b #[j,u,q,W]
  let#[l,S',P,O,N,M]:=xT s w (λj y=>hJ j (QC _ y)) Q p tl h;refine#[l,S',P,O,λj y=>?_,λj u y=>?_];let#[f,a,L]:=N j y;have n:i≠j:=λe=>y (e▸hJ i QD);rw[UD n]at f L;rw[rA (qB n)]at a;exact#[f,a,L];let#[f,a]:=M j u y;rcases xA a with⟨_,e,_⟩| ⟨n,a⟩
  cases e;exact#[λm=>(QK.mp m).elim (λe=>n e.symm) f,a]
theorem Tn.of_trs{vs:LV}{ts:LT}(h:Trs K F H st vs ts Z)(z:∀b,Z b->Y b):Tn K F H Y vs ts :=
 Trs.ind (R:=λ_ vs ts Z=>(∀b,Z b->Y b)->Tn K F H Y vs ts) (λ_ _=>.nil) (λh _ _ q x z=>.cons h.weak (λb hb=>z b ((q b).mpr (.inl hb))) (x λb hb=>z b ((q b).mpr (.inr hb)))) h z
theorem nK{it:Item}{t:T}{R:kA->Prop}{RP:St->Hp->Prop}(I:Rl K F H S ρ σ)(hy:∀b,Y b->¬ U ρ S b)(r:GW K F H Y it t)(h:JI A t ρ R)
  (k:∀m f w x N,Bd A.ix F H S ρ σ w x N m f->Rl K w x N m f->R m->RP f x):bindI K A it σ H RP:=by
 have nm:∀(i:Nat) {v:V}{t:T}{Z:kB}{w x:Hp}{N:Ft},Same F w->Same H x->(∀b,F b=Jr->w b≠Jr->H b=Jr)->Rl K w x N ρ σ->N=S->Tr K w x Jt v t Z->(∀b,Z b->¬ U ρ S b)->R (ρ.set i (Jp (.ny t)))->A=.nm i->RP (σ.set i (Jp v)) x:=by
  intro i v t Z w x N Q e2 e3 I2 hS r hz q ht;subst hS ht;refine k _ _ w x (fG N i Z) #[Q,e2,e3,λj M=>?_,λj u M hu=>?_] (I2.setB i r λj u _ M b hb hs=>hz b hb #[j,u,M,hs]) q;have n:i≠j:=λe=>M (by subst e;exact QJ.mpr rfl);exact#[UD n,rA (qB n),UD n];have e:j=i:=QJ.mp M;subst e;rcases xA hu with⟨_,e,_⟩| ⟨n,_⟩
  cases e;exact n rfl
 have tp:∀(y:LN) {W:LV}{O:LT}{x:Hp}{g:kA},Same H x->A=.tp y->Tn K F x Y W O->fB y O ρ=Jp g->R g->∃l,IA y W σ=Jp l/\RP l x:=by intro y W O x g e2 ht r e q;subst ht;let#[l,S',g1,g2,g3,g4]:=xT hy y (J:=y) (λi hi=>hi) (I.same e2) (λb u=>u) r e;exact#[l,g1,k _ _ F x S' #[.refl _,e2,λb h z=>gJ h z,g3,λj u M hu=>(g4 j u hu).1 M] g2 q]
 cases it with
 |one v =>
  let#[Z,r,z]:=r;cases A with|nm i=>exact nm i (.refl _) (.refl _) (λb h z=>gJ h z) I rfl r (λb hb=>hy b (z b hb)) h rfl|tp y=>have P:(match t.vw with | .tp O=>∃g,fB y O ρ=Jp g/\R g|_=>False):=h;split at P;rename_i O e;let#[g,Q,q]:=P;let#[a,W,S',rfl,L,rp,z2]:=r.tp I.fh e;let#[l,g1,g2]:=tp y (.refl _) rfl (Tn.of_trs rp λb hb=>z b (z2 b hb)) Q q;exact#[W,l,L,g1,g2];exact P.elim
 |tup W =>
  let#[ds,rfl,rd]:=r;cases A with|nm i=>intro p L;refine nm i (CB (I.fh.free L)) (CB L) (λb h1 P=>?_) (I.newT L (.tup W)) rfl (.d (S:=λ_=>False) (.tup (HC.of YA) (rd.mono (CB (I.fh.free L)))) λ_ z=>z) (λb z=>z.elim) h rfl;by_cases hb:b=p;rw[hb];exact L;rw[vA hb]at P;exact gJ h1 P|tp y=>intro o s;let#[g,Q,q]:=h;exact tp y s rfl (Tn.of_trs (Trs.of_reps (st:=Jt) rd) λb hb=>hb.elim) Q q
noncomputable def f7(k:Nat)(S:Ft):Ft:=λi=>if i<k then λ_=>False else S (i - k)
theorem KL:∀(m:List Bool) (ρ:kA) (i:Nat) s,(sD m ρ)[i]?=Jp (Jp s)->ρ[i]?=Jp (Jp s)/\m.getD i Jt=Jt
 |[],ρ,i,s,h=>by
  have e:sD [] ρ=ρ:=by cases ρ<;>rfl
  rw[e]at h;exact#[h,rfl]
 |b::m,[],i,s,h=>by simp[sD]at h|b::m,v::ρ,0,s,h=>by
  cases b with|true=>simp[sD]at h|false=>simp[sD]at h;simp[h]
 |b::m,v::ρ,i+1,s,h=>by simp only[sD,wI]at h;let#[y,x]:=KL m ρ i s h;exact#[by simpa using y,by simpa using x]
theorem YL:∀(m:List Bool) (σ:St) (i:Nat) v,σ[i]?=Jp (Jp v)->m.getD i Jt=Jt->(aC m σ)[i]?=Jp (Jp v)
 |[],σ,i,v,h,_=>by
  have e:aC [] σ=σ:=by cases σ<;>rfl
  rw[e];exact h
 |b::m,[],i,v,h,_=>by simp at h|b::m,w::σ,0,v,h,hb=>by
  have:b=false:=by simpa using hb
  subst this;simpa[aC]using h
 |b::m,w::σ,i+1,v,h,hb=>by simp only[aC,wI];exact YL m σ i v (by simpa using h) (by simpa using hb)
theorem ZL:∀(m:List Bool) (ρ:kA),(sD m ρ).9=ρ.9
 |[],ρ=>by cases ρ<;>rfl|_::_,[]=>rfl|b::m,v::ρ=>by simp[sD,ZL m ρ]
theorem rF{ρ:kA}{i:Nat}{s:Sl}(h:(PK k mask ρ)[i]?=Jp (Jp s)):k<=i/\ρ[i - k]?=Jp (Jp s)/\mask.getD (i - k) Jt=false:=by unfold PK at h;rcases QCJ i k with z|z;rw[qJ (by simpa using z),Wb]at h;split at h<;>cases h;rw[Qx (by simpa using z)]at h;simp only[wF]at h;let#[y,x]:=KL mask ρ _ s h;exact#[z,y,x]
theorem Rl.ent(I:Rl K F H S ρ σ)(k:Nat)(mask:List Bool):Rl K F H (f7 k S) (PK k mask ρ) (sH k mask σ) where
 fh:=I.fh
 len:=by simp[PK,sH,ZL,RH,I.len]
 sl:=λi s h=>by let#[h0,z,y]:=rF h;let#[v,w,u]:=I.sl _ s z;refine#[v,?_,?_];unfold sH;rw[Qx (by simpa using h0)];simp only[wF];exact YL mask σ _ v w y;unfold f7;rw[Gq ()];exact u
 dj:=λi j t s n z y b hb x=>by let#[m,e,_]:=rF z;let#[f,a,_]:=rF y;unfold f7 at hb x;rw[Gq ()]at hb x;exact I.dj (i - k) (j - k) t s () e a b hb x
theorem iU(b:jy):¬ U (PK k mask (lockA ρ)) S' b:=λ#[i,t,h,_]=>by let#[_,x,_]:=rF h;let#[_,_,e]:=gB x;cases e
theorem Paired.get_of{α v:Type}{R:α->v->Prop}{xs:List α}{u:List v}(h:Kx R xs u):∀{i:Nat}{x:α},xs[i]?=Jp x->∃y,u.drop i=y::u.drop (i+1)/\R x y:=by
 induction h with
 |nil=>intro i x e;simp at e|@cons x y xs u h t a =>
  intro i z e;cases i with|zero=>simp at e;subst e;exact#[y,by simp,h]|succ i=>let#[w,f,b]:=a (i:=i) (by simpa using e);exact#[w,by simpa using f,b]
structure Pur(F H X o:Hp):Prop where
 ff:Same F X
 hh:Same H o
 fn:∀b,F b=Jr->X b≠Jr->H b=Jr
theorem Pur.trans{u y:Hp}(a:Pur F H C D)(b:Pur C D u y):Pur F H u y:=#[a.ff.trans b.ff,a.hh.trans b.hh,λx h z=>by by_cases q:C x=Jr;exact a.hh.free (b.fn x q z);exact a.fn x h q]
theorem Pur.ste(p:Pur F H C D):Ste F H S ρ C D S ρ:=#[#[p.ff,λb u h _=>p.hh b u h,λb h=>p.hh.free h,λb h z=>.inr (p.fn b h z),λb h=>.inl h,λ_ _ h _=>#[h,rfl]],λ_ t h=>#[t,h]]
theorem Pur.rl(p:Pur F H C D)(f:Same C D)(I:Rl K F H S ρ σ):Rl K C D S ρ σ:=#[f,I.len,λi s e=>by
 let#[v,y,h]:=I.sl i s e;exact#[v,y,h.mono p.ff λb hb=>by
  let#[x,z]:=h.dom b hb;refine#[?_,?_];cases e:H b with|none=>exact gJ e x|some u=>exact p.hh b u e
  by_cases q:C b=Jr
  ·exact q
  exact gJ (p.fn b z q) x],I.dj]
theorem Stp.pur(s:Stp F H S ρ C D S' g)(n:∀b,¬ U ρ S b):Pur F H C D:=#[s.ff,λb u h=>s.hh b u h (n b),λb h z=>(s.fn b h z).elim (λq=>gJ q (n b)) id]
theorem Pur.trs(p:Pur F H C D){v:LV}{t:LT}(h:Trs K F H st v t Z):Trs K C D st v t Z:=h.mono p.ff λb hb=>by
  let#[x,y]:=h.dom b hb;refine#[?_,?_];cases e:H b with|none=>exact gJ e x|some u=>exact p.hh b u e
  by_cases q:C b=Jr
  ·exact q
  exact gJ (p.fn b y q) x
theorem Y1{ws:LN}{M:Nat}{c:kA->(Bool->kA->Prop)->Prop}{e:kA->TK->Prop}{tc:TT}{te:TE}{us:LN}
  (ic:∀{F H:Hp}{S:Ft}{ρ:kA}{σ:St}{Q:Bool->kA->Prop}{R:Bool->Hp->Prop},Rl K F H S ρ σ->c ρ Q->xG K F H S ρ σ Q R->tc σ H R)
  (ie:∀{F H:Hp}{S:Ft}{ρ:kA}{σ:St}{Q:TK}{R:VK},Rl K F H S ρ σ->e ρ Q->AA K us F H S ρ σ Q R->te σ H R)
  {F0 H0:Hp}{S0:Ft}{O:kA}(s:Ste F0 H0 S0 O F H S ρ) (I:Rl K F H S ρ σ) {xs:List Item}{L:LT}{st:Hp->Prop}(pr:Kx (GW K F H Y) xs L) (hyd:∀b,Y b->H b≠Jr/\F b=Jr) (hst:∀X o,Same F X->Same X o->(∀b,Y b->o b=H b)->st o) {Q:TK}{R:VK}
  (h:GC (sF A (PK M mask (lockA ρ)) c e) L [] λL=>Q (.lst L) Js ρ) (k:AA K ws F0 H0 S0 O σ Q R) :
  RU K xs st A tc te (sH M mask σ) H R:=by
 refine K1 ?_;have len:=qq pr;have yk:∀{X o:Hp},Pur F H X o->∀b,Y b->o b=H b/\X b=none:=λ{X o} p b hb=>by
  let#[d1,d2]:=hyd b hb;refine#[?_,?_];cases e:H b with|none=>exact gJ e d1|some u=>exact p.hh b u e
  by_cases q:X b=Jr
  ·exact q
  exact gJ (p.fn b d2 q) d1
 refine#[λi m o=>∃X w W,Pur F H X o/\Same X o/\Trs K X o Js m w W/\(∀b,W b->H b=Jr)/\GC (sF A (PK M mask (lockA ρ)) c e) (L.drop i) w λL=>Q (.lst L) Js ρ,
  #[F,[],λ_=>False,#[.refl _,.refl _,λb h z=>gJ h z],I.fh,.nil λ_ z=>z,λ_ z=>z.elim,by simpa using h],?_,?_,?_]
 rintro i m o _ ⟨X,w,W,p,f,_,_,_⟩;exact hst X o p.ff f λb hb=>(yk p b hb).1;rintro i x m D hx ⟨C,w,W,p1,f1,J,hw,hc⟩;let#[y,hd,ry]:=Paired.get_of pr hx;rw[hd]at hc;unfold GC at hc;unfold sF at hc;have I1:Rl K C D (f7 M S) (PK M mask (lockA ρ)) (sH M mask σ):=((p1.rl f1 I).lockA).ent M mask;refine nK I1 (λb _=>iU b) (ry.mono p1.ff (yk p1)) hc λρ2 σ2 F2 H2 S2 N I2 hc=>?_;have p2:Pur C D F2 H2:=#[N.ff,N.hh,N.fn]
 have nu2:∀b,¬ U ρ2 S2 b:=λb u=>iU b (N.U u);refine ic I2 hc λb F3 H3 S3 ρ3 s3 I3 q=>?_;have p3:Pur F2 H2 F3 H3:=s3.toStp.pur nu2;have P:∀b,¬ U ρ3 S3 b:=λb #[j,t,h1,_]=>by let#[t0,h0]:=s3.ow j t h1;by_cases hj:j∈A.ix;exact N.inn j t0 hj h0;rw[(N.out j hj).1]at h0;let#[_,h1,_]:=rF h0;let#[_,_,e]:=gB h1;cases e
 have a:=p1.trans (p2.trans p3);cases b with
 |false=>exact#[F3,w,W,a,I3.fh,p3.trs (p2.trs J),hw,q]|true =>
  refine ie I3 q λv F4 H4 S4 ρ4 z n Z s4 I4 r4 #[hk,hl,hc]=>?_;have p4:Pur F3 H3 F4 H4:=s4.toStp.pur P;have ra4:=p4.trs (p3.trs (p2.trs J));have rz:∃Z',Tr K F4 H4 Js v z Z'/\∀b,Z' b->H3 b=none:=by
   cases n with
   |true=>exact#[Z,r4.tr,λb hb=>(r4.fr rfl b hb).elim id λu=>gJ u (P b)]|false =>
    cases z with
    |d x =>
     have tr:=r4.tr;cases tr with|d r n=>exact#[λ_=>False,.d r λ_ z=>z,λ_ z=>z.elim]
    |_=>exact gJ hk (by simp[zG,T.isD])
  let#[Z',rz,fz]:=rz;refine#[by rw[J.9];exact hl,F4,_,λb=>W b∨Z' b,a.trans p4,I4.fh,ra4.append (Trs.one rz) λb hb hz=>?_,λb hb=>?_,hc];have q1:=(J.dom b hb).1;exact q1 ((p2.trans p3).hh.free (fz b hz));rcases hb with hb|hb
  ·exact hw b hb
  exact a.hh.free (fz b hb)
 rintro m o ⟨X,w,W,p,f,J,hw,hc⟩;rw[len,QDs]at hc;unfold GC at hc;have I':=p.rl f I;refine#[by rw[J.9];exact hc.1,λq hq=>?_];refine AA.list (k.from s) (p.ste) I' hq J (λb hb=>.inl (hw b hb)) #[J.dom,λi sl hi b hb z=>?_] hc.2;exact(I.dom hi z).1 (hw b hb)
end
end
section
variable{K:QE}{Γ:Ev}{Ψ:PEv}{E:XE}{p:XK}{F H l c:Hp}{S S1:Ft}{ρ y:kA}{σ:St}
theorem Tr.kr{v:V}{u t:T}{Z:kB}(h:Tr K F H Jt v u Z)(e:AE u=Jp t):Tr K F H Jt v t Z:=by
 unfold AE at e;split at e;rename_i ts ev;cases x:VD ts with
 |none=>rw[x]at e;cases e|some f =>
  rw[x]at e;injection e with e;subst e;cases h with
  |d r n =>
   cases r with|lst q r=>injection ev with ev;subst ev;rw[oA]at x;injection x with x;subst x;exact .lstF q r n|dct _ _ _=>exact(dG ev).elim|_=>cases ev
  |lst k w z b a=>injection ev with ev;subst ev;show Tr K F H Jt _ (.lst (f.map T.d)) Z;rw[<- fJ x];exact .lst k w z b a|tup=>cases ev|dct=>cases ev|lstF k w z=>injection ev with ev;subst ev;rw[oA]at x;injection x with x;subst x;exact .lstF k w z
 split at e
 ·injection e with e;subst e;exact h
 cases e
theorem AV.pass{Y:kB}{md:List Md}{vs:LV}{xs:List (T×Bool)}{W:kB}(h:AV K F H md vs xs W Y)(e:Same F l)(k:∀b,W b->l b=H b)(C:∀b,Y b->F b=Jr->l b=Jr) :
  ∀{f ts:LT},JA md xs f=Jp ts->ArgsR K l H Y md vs ts/\YB md ts=f:=by
 induction h with
 |nil h =>
  intro f ts w;cases f with|nil=>simp only[JA,Qs]at w;subst w;exact#[.nil,rfl]|cons _ _=>simp[JA]at w
 |@chg md v vs x xs W Y h t B =>
  intro f ts w;have hm:md.headD .kq=.chg:=by generalize md.headD .kq=m at h;cases m<;>first|rfl|cases h
  unfold JA at w;rw[hm]at w;cases f with
  |nil=>cases w|cons o f =>
   cases a:JA md.tail xs f with|none=>simp only[a,WX]at w;cases w|some A=>simp only[a,qV,Qs]at w;subst w;let#[j,i]:=B k C a;refine#[.chg hm j,?_];unfold YB;rw[hm];simp only[i]
 |@new md v vs x xs Z W I Y h r t n q B =>
  intro f ts w;have s:Tr K l H Jt v (.d x.er) (λ_=>False):=.d (r.kept e λb u hb G=>by rw[k b ((q b).mpr (.inl hb))];exact G) λ_ z=>z;have g:=@B (λb hb=>k b ((q b).mpr (.inr hb))) C;unfold JA at w;cases hm:md.headD .kq with
  |chg=>rw[hm]at h;cases h|kq =>
   simp only[hm,bA]at w;cases a:JA md.tail xs f with|none=>simp only[a,WX]at w;cases w|some A=>simp only[a,qV,Qs]at w;subst w;let#[j,i]:=g a;exact#[.rd (by rw[hm];simp) s (λ_ z=>z.elim) j,by unfold YB;rw[hm];exact i]
  |kr =>
   simp only[hm,bA]at w;cases X:AE (.d x.er) with
   |none=>simp only[X]at w;cases w|some u =>
    simp only[X]at w;cases a:JA md.tail xs f with|none=>simp only[a,WX]at w;cases w|some A=>simp only[a,qV,Qs]at w;subst w;let#[j,i]:=g a;exact#[.rd (by rw[hm];simp) (s.kr X) (λ_ z=>z.elim) j,by unfold YB;rw[hm];exact i]
  |ny =>
   simp only[hm,bA]at w;cases a:JA md.tail xs f with|none=>simp only[a,WX]at w;cases w|some A=>simp only[a,qV,Qs]at w;subst w;let#[j,i]:=g a;exact#[.rd (by rw[hm];simp) s (λ_ z=>z.elim) j,by unfold YB;rw[hm];exact i]
 |@tmp md v vs x xs Z W Y h r z t B =>
  intro f ts w;have s:Tr K l H Jt v x Z:=r.mono e λb hb=>#[rfl,C b (z b hb) (r.dom b hb).2]
  have g:=@B k C;unfold JA at w;cases hm:md.headD .kq with
  |chg=>rw[hm]at h;cases h|kq =>
   simp only[hm,bA]at w;cases x with
   |d x =>
    cases a:JA md.tail xs f with|none=>simp only[a,WX]at w;cases w|some A=>simp only[a,qV,Qs]at w;subst w;let#[j,i]:=g a;exact#[.rd (by rw[hm];simp) s z j,by unfold YB;rw[hm];exact i]
   |_=>cases w
  |kr =>
   simp only[hm,bA]at w;cases X:AE x with
   |none=>simp only[X]at w;cases w|some u =>
    simp only[X]at w;cases a:JA md.tail xs f with|none=>simp only[a,WX]at w;cases w|some A=>simp only[a,qV,Qs]at w;subst w;let#[j,i]:=g a;exact#[.rd (by rw[hm];simp) (s.kr X) z j,by unfold YB;rw[hm];exact i]
  |ny =>
   simp only[hm,bA]at w;cases a:JA md.tail xs f with|none=>simp only[a,WX]at w;cases w|some A=>simp only[a,qV,Qs]at w;subst w;let#[j,i]:=g a;exact#[.rd (by rw[hm];simp) s z j,by unfold YB;rw[hm];exact i]
theorem EC:∀(J:LN) (ρ:kA) (i:Nat) s,(clear J ρ)[i]?=Jp (Jp s)->i∉J/\ρ[i]?=Jp (Jp s)
 |[],ρ,i,s,h=>#[(by simp),h]|j::J,ρ,i,s,h=>by
  unfold clear at h;let#[u,z]:=EC J _ i s h;rcases xA z with⟨_,e,_⟩| ⟨n,x⟩
  cases e;exact#[λm=>(QK.mp m).elim (λe=>n e.symm) u,x]
theorem ML:∀(J:LN) (ρ:kA),(clear J ρ).9=ρ.9
 |[],_=>rfl|j::J,ρ=>by unfold clear;rw[ML J];simp
theorem Rl.drop(I:Rl K F H S ρ σ)(hl:y.9=ρ.9)(h:∀(i:Nat) s,y[i]?=Jp (Jp s)->ρ[i]?=Jp (Jp s)):Rl K F H S y σ :=
 #[I.fh,hl.trans I.len,λi s e=>I.sl i s (h i s e),λi j t s n z x=>I.dj i j t s n (h i _ z) (h j _ x)]
theorem pD:∀{J:LN}{ρ:kA}{x:LT},NA J ρ=Jp x->x.9=J.9/\∀(i:Nat) j,J[i]?=Jp j->∃t,x[i]?=Jp t/\ρ[j]?=Jp (Jp (.own t))
 |[],ρ,x,h=>by simp only[NA,Qs]at h;subst h;exact#[rfl,λi j e=>by simp at e]|j::J,ρ,x,h=>by
  unfold NA at h;split at h;rename_i t e;cases z:NA J ρ with
  |none=>rw[z]at h;cases h|some f =>
   rw[z]at h;injection h with h;subst h;let#[w,v]:=pD z;refine#[by simp[w],λi k hk=>?_];cases i with|zero=>simp at hk;subst hk;exact#[t,rfl,e]|succ i=>let#[u,b,a]:=v i k (by simpa using hk);exact#[u,by simpa using b,a]
  cases h
theorem Rl.trs(I:Rl K F H S ρ σ):∀{J:LN}{w:LT}{vs:LV},J.Nodup->NA J ρ=Jp w->vs.map (λv=>Jp (Jp v))=J.map (λj=>σ[j]?)->Trs K F H Js vs w (λb=>∃j∈J,S j b)
 |[],w,vs,_,h,hv=>by
  simp only[NA,Qs]at h;subst h;cases vs with|nil=>exact .nil λb #[j,m,_]=>by simp at m|cons _ _=>simp at hv
 |j::J,w,vs,nd,h,hv=>by
  unfold NA at h;split at h;rename_i t e;cases a:NA J ρ with
  |none=>rw[a]at h;cases h|some r =>
   rw[a]at h;injection h with h;subst h;cases vs with
   |nil=>simp at hv|cons v vs =>
    simp only[QT,QAd]at hv;let#[f,q,o]:=I.sl j _ e;rw[q]at hv;have:v=f:=by simpa using hv.1
    subst this;have x:=Qa.mp nd;refine .cons o (Rl.trs I x.2 a hv.2) (λb hb #[k,hk,z]=>?_) λb=>?_;let#[i,n]:=WH.mp hk;let#[u,_,g]:=(pD a).2 i k n;exact I.dj j k t _ (λz=>x.1 (z▸hk)) e g b hb z;constructor
    ·rintro⟨k,hk,z⟩
     rcases QK.mp hk with e|e;subst e;exact .inl z;exact .inr #[k,e,z]
    rintro(z|⟨k,hk,z⟩)
    ·exact#[j,QD,z]
    exact#[k,QC _ hk,z]
  cases h
theorem Rl.setO(I:Rl K F H S ρ σ)(i:Nat){v:V}{t:T}{Z:kB}(hv:σ[i]?=Jp (Jp v))(r:Tr K F H Js v t Z)(hz:∀(j:Nat) s,j≠i->ρ[j]?=Jp (Jp s)->∀b,Z b->¬ S j b):Rl K F H (fG S i Z) (ρ.set i (Jp (.own t))) σ where
 fh:=I.fh
 len:=by simpa using I.len
 sl:=λj s h=>by
  rcases xA h with⟨rfl,e,hl⟩| ⟨f,h⟩
  cases e;exact#[v,hv,by rw[HA];exact r];rw[rA (qB f)];exact I.sl j s h
 dj:=λj k w s n u x b hb hk=>by
  rcases xA u with⟨e,_,_⟩| ⟨a,u⟩
  subst e;rw[HA]at hb;rcases xA x with⟨e,_,_⟩| ⟨z,x⟩
  exact n e;rw[rA (qB z)]at hk;exact hz k s (qB z) x b hb hk;rw[rA (qB a)]at hb;rcases xA x with⟨e,_,_⟩| ⟨z,x⟩
  subst e;rw[HA]at hk;exact hz j _ n u b hk hb;rw[rA (qB z)]at hk;exact I.dj j k w s n u x b hb hk
theorem YJ:∀{J:LN}{w:LT}{vs:LV}{M:kB}{S1:Ft}{y x:kA},J.Nodup->Rl K F H S1 y σ->Trs K F H Js vs w M->vs.map (λv=>Jp (Jp v))=J.map (λj=>σ[j]?)->Held F H S1 y M->IB J w y=Jp x ->
  ∃f,Rl K F H f x σ/\(∀i,i∉J->x[i]?=y[i]?/\f i=S1 i)/\∀i∈J,∀s,x[i]?=Jp (Jp s)->(∃t,s=.own t)/\∀b,f i b->M b
 |[],w,vs,M,S1,y,x,nd,I,r,hv,hm,h=>by
  cases w with|nil=>simp only[IB,Qs]at h;subst h;exact#[S1,I,λ_ _=>#[rfl,rfl],λi u=>by simp at u]|cons _ _=>simp[IB]at h
 |j::J,w,vs,M,S1,y,x,nd,I,r,hv,hm,h=>by
  cases r with
  |nil _=>simp[IB]at h|@cons _ v t vs R _ Z P C B n q =>
   simp only[IB]at h;simp only[QT,QAd]at hv;have a:=Qa.mp nd;have Q:=I.setO j hv.1.symm C λk s _ hk b hb=>hm.nw k s hk b ((q b).mpr (.inl hb));have Y:Held F H (fG S1 j Z) (y.set j (Jp (.own t))) P:=#[λb hb=>hm.dom b ((q b).mpr (.inr hb)),λi s u b hb z=>by
    rcases xA u with⟨rfl,_,_⟩| ⟨X,u⟩
    rw[HA]at z;exact n b z hb;rw[rA (qB X)]at z;exact hm.nw i s u b ((q b).mpr (.inr hb)) z]
   let#[f,O,A,N]:=YJ a.2 Q B hv.2 Y h;refine#[f,O,λi u=>?_,λi u s hs=>?_];have W:j≠i:=λe=>u (e▸QD);let#[o,g]:=A i λm=>u (QC _ m);rw[UD W]at o;rw[rA (qB W)]at g;exact#[o,g];rcases QK.mp u with e|e
   ·subst e
    let#[o,g]:=A i a.1;rw[o]at hs;rcases xA hs with⟨_,e,_⟩| ⟨X,_⟩
    injection e with e;refine#[#[t,e],λb hb=>?_];rw[g,HA]at hb;exact(q b).mpr (.inl hb);exact gJ rfl X
   let#[L,G]:=N i e s hs;exact#[L,λb hb=>(q b).mpr (.inr (G b hb))]
theorem C7{f:Str}{as:PX}(g:GOk K Γ Ψ)(ia:PSnd K Γ Ψ as)(I:Rl K F H S ρ σ)(X:fE K F H S ρ E p){Q:TK}{R:VK}{ws:LN}(h:(pe Ψ (.call f as) E).e ρ Q)(k:AA K ws F H S ρ σ Q R):(wp K Γ (.call f as) p).e σ H R:=by
 let#[os,ho,nd,h]:=h;generalize hJ:cA (Ψ.sp f).md as=J at ho nd h;have C:∀j∈J,∃t,ρ[j]?=Jp (Jp (.own t)):=λj A=>by let#[i,hi]:=WH.mp A;let#[t,_,e]:=(pD ho).2 i j hi;exact#[t,e]
 have I0:Rl K F H S (clear J ρ) σ:=I.drop (ML J ρ) λi s e=>(EC J ρ i s e).2;have P:∀b,U (clear J ρ) S b->U ρ S b:=λb #[i,t,h1,O]=>#[i,t,(EC J ρ i _ h1).2,O]
 have X0:fE K F H S (clear J ρ) E p:=λx dx F2 H2 S2 L m ff r q=>X x dx F2 H2 (λ_ _=>False) [] #[m.ff,λb u e n=>m.hh b u e λz=>n (P b z),m.dm,λb e z=>(m.fn b e z).imp (P b) id,λb #[i,t,e,_]=>by simp at e,λj t e=>by simp at e] ff r q;have hm:∀j∈cA (Ψ.sp f).md as,∃v,σ[j]?=Jp (Jp v):=λj A=>by let#[t,e]:=C j (hJ▸A);let#[v,h1,_]:=I.sl j _ e;exact#[v,h1]
 show(wp K Γ as p).a σ H λvs c=>Γ.sp f vs c R p;refine ia.a I0 X0 hm h λvs l c S1 y xs W Y s1 I1 r1 mv q1=>?_;rw[hJ]at mv;let#[ts,hp,q1]:=q1;have hw:=r1.held;have m:=s1.frz (λb hb=>(hw.dom b hb).2) r1.fr;have I2:=I1.frz hw;have yk:∀b,Y b->l b=Jr->pH l c W b=none:=λb hy hf=>by let#[i,sl,_,O,h3]:=r1.tm b hy;rw[kC λz=>r1.nw i sl O b z h3];exact hf
 let#[ar,mt]:=r1.av.pass (MF λb hb=>(hw.dom b hb).2) (λb hb=>oH hb) yk hp;generalize pH l c W=F2 at m I2 yk ar;have M0:=I.trs nd ho mv;have hM:Held F H S (clear J ρ) (λb=>∃j∈J,S j b):=#[λb #[j,A,hb]=>let#[t,e]:=C j A;I.dom e hb,λi s e b #[j,A,hb] z=>by let#[G,B]:=EC J ρ i s e;let#[t,et]:=C j A;exact I.dj j i t s (λq=>G (q▸A)) et B b hb z]
 have N:=hM.step m.toStp I2;have M2:Trs K F2 c Js (uB (Ψ.sp f).md vs) (YB (Ψ.sp f).md ts) (λb=>∃j∈J,S j b):=by
  rw[mt];refine M0.mono m.ff λb hb=>?_;refine#[?_,(N.dom b hb).2];cases e:H b with|none=>exact gJ e (hM.dom b hb).1|some u=>exact m.hh b u e (hM.nu b hb)
 refine g.sp f vs c R p #[F2,ts,_,Y,I2.fh,ar,M2,λb hy hb=>?_,?_];let#[i,sl,_,O,h3]:=r1.tm b hy;exact N.nw i sl O b hb h3
 ·have up:∀b,(∃j∈J,S j b)->U ρ S b:=λb #[j,A,hb]=>let#[t,e]:=C j A;#[j,t,e,hb]
  have lk:∀b,(∃j∈J,S j b)∨c b=Jr->U ρ S b∨H b=none:=λb hb=>hb.imp (up b) (m.dm b);refine(Ψ.sp f).mono ?_ ?_ q1
  rotate_left
  rintro x qx dx F' H' o xr;refine X x dx F' H' (λ_ _=>False) [] #[m.ff.trans o.ff,λb u e n=>o.hh b u (m.hh b u e λz=>n (P b z)) λz=>n (up b z),λb e=>m.dm b (o.dm b e),λb e z=>?_,λb #[i,t,e,_]=>by simp at e,λj t e=>by simp at e] o.fh xr qx;by_cases q:F2 b=Jr;exact lk b (o.fn b q z);exact(m.fn b e q).imp (P b) id;rintro r os' ⟨L,hput,q⟩ v F' H' Z M' o tr trs dz hf;have I3:Rl K F' H' S1 y σ:=#[o.fh,I2.len,λi s e=>by
   let#[w,g1,g2]:=I2.sl i s e;refine#[w,g1,g2.mono o.ff λb hb=>?_];let#[d1,d2]:=g2.dom b hb;have nM:¬ ∃j∈J,S j b:=λz=>N.nw i s e b z hb;refine#[?_,?_];cases e:c b with|none=>exact gJ e d1|some u=>exact o.hh b u e nM
   by_cases z:F' b=Jr
   ·exact z
   exact((o.fn b d2 z).elim nM d1).elim,I2.dj]
  have nw3:∀b,(∃j∈J,S j b)∨c b=Jr->∀(i:Nat) s,y[i]?=Jp (Jp s)->¬ S1 i b:=λb hb i s e z=>by rcases hb with hb|hb;exact N.nw i s e b hb z;exact(I2.dom e z).1 hb
  have hM':Held F' H' S1 y M':=#[trs.dom,λi s e b hb=>nw3 b (hf b (.inr hb)) i s e]
  let#[S2,I4,g2,g3]:=YJ nd I3 trs mv hM' hput;have M:∀i s,L[i]?=Jp (Jp s)->(i∈J/\(∃t,s=.own t)/\∀b,S2 i b->M' b)∨(i∉J/\y[i]?=Jp (Jp s)/\S2 i=S1 i):=λi s e=>by by_cases hi:i∈J;exact .inl #[hi,g3 i hi s e];let#[G,B]:=g2 i hi;exact .inr #[hi,G▸e,B]
  have st:Ste F H S ρ F' H' S2 L:=#[#[m.ff.trans o.ff,λb u e n=>o.hh b u (m.hh b u e λz=>n (P b z)) λz=>n (up b z),λb e=>m.dm b (o.dm b e),λb e z=>by
    by_cases q:F2 b=Jr;exact lk b (o.fn b q z);exact(m.fn b e q).imp (P b) id,
   λb #[i,t,h1,O]=>by
    rcases M i _ h1 with⟨_,_,e⟩| ⟨_,G,B⟩
    exact lk b (hf b (.inr (e b O)));rw[B]at O;exact(m.uu b #[i,t,G,O]).imp (P b) id,
   λj t e hd=>by
    rcases M j _ e with⟨_,⟨t',z⟩,_⟩| ⟨_,G,B⟩
    cases z;let#[b1,b2]:=m.bo j t G hd;exact#[(EC J ρ j _ b1).2,B.trans b2]],
   λj t e=>by
    rcases M j _ e with⟨A,_,_⟩| ⟨_,G,B⟩
    exact C j A;let#[t0,e0]:=m.ow j t G;exact#[t0,(EC J ρ j _ e0).2]]
  refine k v F' H' S2 L r Js Z st I4 #[tr,λ_ b hb=>?_,λz=>(by cases z),λ_ i s e b hb z=>?_] q;exact(lk b (hf b (.inl hb))).symm;rcases M i s e with⟨_,_,B⟩| ⟨_,G,B⟩
  ·exact dz b hb (B b z)
  rw[B]at z;exact nw3 b (hf b (.inl hb)) i s G z
end
section
variable{K:QE}{Γ:Ev}{Ψ:PEv}{E:XE}{O:XK}{F H F1 H1:Hp}{S S1:Ft}{ρ Q:kA}{σ:St}
section
variable{j i:Nat}{t s:T}{b:Bool}{G C:Hp}{B:Ft}{Y:kA}{W P Z:kB}{vs L:LV}{ts us:LT}{a:jy}{M o:HO}{v A J:V}{x y:D}{ks:List D}{R:Hp->Prop}{N:T->Prop}
theorem TB(z:ρ[j]?=Jp (Jp (.own t))){s:Sl}(h:(ρ.set j (Jp (.ny t)))[i]?=Jp (Jp s)):(i=j/\s=.ny t)∨(i≠j/\ρ[i]?=Jp (Jp s)):=by
 rcases xA h with⟨rfl,e,_⟩| ⟨n,h⟩
 injection e with e;exact .inl #[rfl,e];exact .inr #[qB n,h]
theorem Rl.lock1(I:Rl K F H S ρ σ)(h:ρ[j]?=Jp (Jp (.own t))):Rl K F H S (ρ.set j (Jp (.ny t))) σ where
 fh:=I.fh
 len:=by simpa using I.len
 sl:=λi s e=>by
  rcases TB h e with⟨rfl,rfl⟩| ⟨_,e⟩
  let#[v,g,f]:=I.sl i _ h;exact#[v,g,f.weak];exact I.sl i s e
 dj:=λi k u s n p m=>by
  rcases TB h p with⟨_,z⟩| ⟨r,w⟩
  cases z;rcases TB h m with⟨q,_⟩| ⟨_,l⟩
  ·exact I.dj i k u _ n w (q▸h)
  exact I.dj i k u s n w l
theorem Rl.lock1U(I:Rl K F H S ρ σ)(w:ρ[j]?=Jp (Jp (.own t)))(b:jy)(hb:S j b):¬ U (ρ.set j (Jp (.ny t))) S b:=λ#[i,u,h,k]=>by
 rcases TB w h with⟨_,z⟩| ⟨n,h⟩
 cases z;exact I.dj i j u _ n h w b k hb
theorem lock1U(k:ρ[j]?=Jp (Jp (.own t))){b:jy}(h:U (ρ.set j (Jp (.ny t))) S b):U ρ S b:=by
 let#[i,u,w,e]:=h;rcases TB k w with⟨_,z⟩| ⟨n,w⟩
 cases z;exact#[i,u,w,e]
theorem fE.lock1(X:fE K F H S ρ E O)(w:ρ[j]?=Jp (Jp (.own t))):fE K F H S (ρ.set j (Jp (.ny t))) E O:=λx k G C B Y h f r q =>
 X x k G C (λ_ _=>False) [] #[h.ff,λb u e n=>h.hh b u e λz=>n (lock1U w z),h.dm,λb e z=>(h.fn b e z).imp (lock1U w) id,λb #[i,t,e,_]=>by simp at e,λj t e=>by simp at e] f r q
theorem tP(I:Rl K F H S ρ σ)(h:ρ[j]?=Jp (Jp (.own t)))(s:Ste F H S (ρ.set j (Jp (.ny t))) G C B Y)(l:Rl K G C B Y σ){b:jy}(hb:S j b) :
  ∀(i:Nat) w,i≠j->Y[i]?=Jp (Jp w)->¬ B i b:=λi w n e z=>by
 cases w with
 |own u=>rcases s.uu b ⟨i,u,e,z⟩ with q|q;exact I.lock1U h b hb q;exact(I.dom h hb).1 q
 |ny u =>
  cases f:u.isD with
  |true=>exact l.isD e f z|false =>
   let#[k,g]:=s.bo i u e f;rw[g]at z;rcases TB h k with⟨q,_⟩| ⟨_,k⟩
   exact n q;exact I.dj j i t _ (qB n) h k b hb z
theorem AG{t':T}{v0:V}{m:Hp}{Z':kB}(I:Rl K F H S ρ σ)(w:ρ[j]?=Jp (Jp (.own t)))(hv:σ[j]?=Jp (Jp v0))(s:Ste F H S (ρ.set j (Jp (.ny t))) G C B Y)(l:Rl K G C B Y σ)
  (hH:∀b u,C b=Jp u->¬ S j b->m b=Jp u) (dm:∀b,m b=Jr->C b=Jr) (r:Tr K G m Js v0 t' Z') (hz:∀b,Z' b->S j b∨W b∨C b=Jr) (hw:Held G C B Y W) (frW:∀b,W b->H b=Jr∨U (ρ.set j (Jp (.ny t))) S b) :
  Ste F H S ρ G m (fG B j Z') (Y.set j (Jp (.own t')))/\Rl K G m (fG B j Z') (Y.set j (Jp (.own t'))) σ/\∀b,S j b∨W b∨C b=Jr->∀(i:Nat) h,i≠j->Y[i]?=Jp (Jp h)->¬ B i b:=by
 have nw:∀b,S j b∨W b∨C b=Jr->∀(i:Nat) h,i≠j->Y[i]?=Jp (Jp h)->¬ B i b:=λb hb i h n e z=>by rcases hb with hb|hb|hb;exact tP I w s l hb i h n e z;exact hw.nw i h e b hb z;exact(l.dom e z).1 hb
 have uj:∀b,S j b->U ρ S b:=λb hb=>#[j,t,w,hb]
 have lk:∀b,S j b∨W b∨C b=Jr->U ρ S b∨H b=none:=λb hb=>by rcases hb with hb|hb|hb;exact .inl (uj b hb);exact(frW b hb).symm.imp (lock1U w) id;exact .inr (s.dm b hb)
 have fS:∀b,S j b->G b=none:=λb hb=>by
  by_cases q:G b=Jr;exact q;rcases s.fn b (I.dom w hb).2 q with z|z
  ·exact gJ z (I.lock1U w b hb)
  exact gJ z (I.dom w hb).1
 have fh:Same G m:=λb u e=>hH b u (l.fh b u e) λz=>by rw[fS b z]at e;cases e
 have I3:Rl K G m B (Y.set j Jr) σ:=#[fh,by simpa using l.len,λi h e=>by
   rcases xA e with⟨_,z,_⟩| ⟨n,e⟩
   cases z;let#[v,p,f]:=l.sl i h e;refine#[v,p,f.mono (.refl _) λb hb=>#[?_,(f.dom b hb).2]];cases eb:C b with|none=>exact gJ eb (f.dom b hb).1|some u=>exact hH b u eb λz=>tP I w s l z i h (qB n) e hb,
  λi k u h n g X=>by
   rcases xA g with⟨_,z,_⟩| ⟨_,g⟩
   cases z;rcases xA X with⟨_,z,_⟩| ⟨_,X⟩
   ·cases z
   exact l.dj i k u h n g X]
 have I4:=I3.setO j hv r λi h n e b hb=>by
  rcases xA e with⟨_,z,_⟩| ⟨_,e⟩
  cases z;exact nw b (hz b hb) i h n e
 have es:(Y.set j Jr).set j (Jp (.own t'))=Y.set j (Jp (.own t')):=by simp
 rw[es]at I4;refine#[#[#[s.ff,λb u e n=>hH b u (s.hh b u e λz=>n (lock1U w z)) λz=>n (uj b z),λb e=>s.dm b (dm b e),λb e z=>(s.fn b e z).imp (lock1U w) id,λb #[i,u,p,f]=>?_,λi u e hd=>?_],λi u e=>?_],I4,nw];rcases xA p with⟨rfl,_,_⟩| ⟨n,p⟩
 ·rw[HA]at f
  exact lk b (hz b f)
 rw[rA (qB n)]at f;exact(s.uu b #[i,u,p,f]).imp (lock1U w) id;rcases xA e with⟨rfl,z,_⟩| ⟨n,e⟩
 ·cases z
 let#[g,X]:=s.bo i u e hd;rcases TB w g with⟨z,_⟩| ⟨_,g⟩
 exact gJ z.symm n;exact#[g,by rw[rA (qB n)];exact X];rcases xA e with⟨rfl,_,_⟩| ⟨n,e⟩
 ·exact#[t,w]
 let#[t0,e0]:=s.ow i u e;rcases TB w e0 with⟨_,z⟩| ⟨_,e0⟩
 cases z;exact#[t0,e0]
theorem Trs.erase{st:Bool}{S:kB}{k:Nat}(h:Trs K F H st vs ts S)(e:ts[k]?=Jp t):∃v P1 u,vs[k]?=Jp v/\Tr K F H st v t P1/\Trs K F H st (vs.eraseIdx k) (ts.eraseIdx k) u/\(∀b,P1 b->¬ u b)/\∀b,P1 b∨u b->S b:=by
 revert k;refine Trs.ind (R:=λst vs ts S=>∀{k:Nat},ts[k]?=Jp t->∃v P1 u,vs[k]?=Jp v/\Tr K F H st v t P1/\Trs K F H st (vs.eraseIdx k) (ts.eraseIdx k) u/\(∀b,P1 b->¬ u b)/\∀b,P1 b∨u b->S b) (λn k e=>by cases e) (λ{_ _ _ _ _ _ r _} h t n q f k e=>?_) h;cases k with|zero=>cases e;exact#[_,_,_,rfl,h,t,n,λb hb=>(q b).mpr hb]|succ k=>let#[v,P1,u,p,m,l,g,w]:=f (k:=k) e;refine#[v,P1,λb=>r b∨u b,p,m,.cons h l (λb hb z=>n b hb (w b (.inr z))) λb=>QAb,λb hb z=>z.elim (λz=>n b z (w b (.inl hb))) (g b hb),λb hb=>(q b).mpr ?_];rcases hb with hb|hb|hb;exact .inr (w b (.inl hb));exact .inl hb;exact .inr (w b (.inr hb))
theorem cH{α:Type}:∀{l:List α}{k:α},l.Nodup->¬ k∈l->(l++[k]).Nodup
 |[],k,_,_=>by simp|a::r,k,h,hk=>by let#[u,z]:=Qa.mp h;show(a::(r++[k])).Nodup;refine Qa.mpr #[λm=>?_,cH z λm=>hk (QK.mpr (Or.inr m))];rcases QW.mp m with q|q;exact u q;exact hk (QK.mpr (Or.inl (QJ.mp q).symm))
theorem jJ(h:F a=Jr)(r:Trs K F H Js L us P)(n:¬ P a):Tr K F (KA H a (.lst L)) Js (.ref a) (.lst us) λb=>b=a∨P b :=
 .lst (S':=P) YA h (r.mono (.refl _) λb hb=>#[vA λz=>n (z▸hb),(r.dom b hb).2]) n λb=>QAb
theorem PC(ha:Z a)(b:jy)(u:HO)(e:H b=Jp u)(hb:¬ Z b):KA H a M b=Jp u:=by have h:b≠a:=λz=>hb (by rw[z];exact ha);rw[vA h];exact e
theorem JB(b:jy)(e:KA H a M b=Jr):H b=none:=by by_cases hb:b=a;rw[hb,YA]at e;cases e;rw[vA hb]at e;exact e
theorem e6{m:Mt}{N:T->T->Prop}{R:VK}(f:Same F H)(r:Tr K F H Js v s Z)(rv:Trs K F H Js vs ts W)(dj:∀b,Z b->¬ W b)(h:cN m s ts N)
  (k:∀w r s' H' S1 Zr,(∀b u,H b=Jp u->¬ Z b->H' b=Jp u)->(∀b,H' b=Jr->H b=Jr)->Tr K F H' Js v s' S1->Tr K F H' Js w r Zr->(∀b,Zr b->¬ S1 b)->(∀b,S1 b∨Zr b->Z b∨W b∨H b=Jr)->N r s'->R w H'):Y6 K m v vs H R:=by
 cases m with
 |append =>
  let#[us0,t0,rfl,rfl,h]:=h;cases r with
  |@lst _ a p _ _ S' h1 h2 l I g =>
   have e:Z a:=(g a).mpr (.inl rfl);cases rv with
   |@cons _ w t ws us _ W1 W2 X r2 n q =>
    cases r2 with
    |nil n2 =>
     have hW:∀b,W b↔W1 b:=λb=>by rw[q b];simp[n2 b]
     refine#[a,p,w,rfl,rfl,h1,by rw[l.9];exact h.1,k .non (.d .none) _ _ _ (λ_=>False) (PC e) JB (jJ h2 (Trs.append l (Trs.one X) λb hb hw=>dj b ((g b).mpr (.inr hb)) ((hW b).mpr hw)) λz=>z.elim I λz=>dj a e ((hW a).mpr z)) (.d .non λ_ z=>z) (λ_ z=>z.elim) (λb hb=>?_) h.2];rcases hb with(hb|hb|hb)|hb;exact .inl (hb▸e);exact .inl ((g b).mpr (.inr hb));exact .inr (.inl ((hW b).mpr hb));exact hb.elim
 |pop =>
  let#[us0,i,j,t0,rfl,rfl,hi,ht,q]:=h;cases r with
  |@lst _ a p _ _ S' h1 h2 l I g =>
   have e:Z a:=(g a).mpr (.inl rfl);let#[w,P1,P2,g1,g2,g3,g4,g5]:=l.erase ht;have na:¬ P1 a:=λz=>I (g5 a (.inl z));have nb:¬ P2 a:=λz=>I (g5 a (.inr z));cases rv with
   |cons X r2 n q2 =>
    cases r2;cases X with
    |d X n1 =>
     cases X;refine#[a,i,p,j,w,rfl,rfl,h1,by rw[l.9];exact hi,g1,k w t0 _ _ _ P1 (PC e) JB (jJ h2 g3 nb) (g2.mono (.refl _) λb hb=>#[vA λz=>na (z▸hb),(g2.dom b hb).2]) (λb hb z=>?_) (λb hb=>?_) q];rcases z with z|z
     ·exact na (z▸hb)
     exact g4 b hb z;rcases hb with(hb|hb)|hb
     ·exact .inl (hb▸e)
     exact .inl ((g b).mpr (.inr (g5 b (.inr hb))));exact .inl ((g b).mpr (.inr (g5 b (.inl hb))))
 |reverse =>
  let#[ds,rfl,rfl,q]:=h;cases rv;cases r with|@lst _ a p _ _ S' h1 h2 l I g=>have e:Z a:=(g a).mpr (.inl rfl);exact#[a,p,rfl,rfl,h1,k .non (.d .none) _ _ _ (λ_=>False) (PC e) JB (jJ h2 (Trs.of_reps (l.un (oA ds)).1.reverse) λz=>z) (.d .non λ_ z=>z) (λ_ z=>z.elim) (λb hb=>by rcases hb with(hb|hb)|hb;exact .inl (hb▸e);exact hb.elim;exact hb.elim) q]
 |_=>exact h.elim
theorem Trs.setD(w:Rep K F A x){S:kB}(n:Nat)(h:Trs K F H Js vs ts S):∃P,Trs K F H Js (vs.set n A) (ts.set n (.d x)) P/\∀b,P b->S b:=by
 revert n;refine Trs.ind (R:=λst vs ts S=>∀n:Nat,∃P,Trs K F H st (vs.set n A) (ts.set n (.d x)) P/\∀b,P b->S b) (λ{_ S} z n=>#[S,.nil z,λ_ h=>h]) (λ{_ _ _ _ _ _ S1 B} h t m q k n=>?_) h;cases n with|zero=>exact#[B,.cons (S1:=λ_=>False) (.d w λ_ z=>z) t (λ_ z=>z.elim) λb=>by simp,λb hb=>(q b).mpr (.inr hb)]|succ n=>let#[P,e,u]:=k n;exact#[λb=>S1 b∨P b,.cons h e (λb hb z=>m b hb (u b z)) λb=>QAb,λb hb=>(q b).mpr (hb.imp id (u b))]
theorem Trs.part{S:kB}(h:Trs K F H Js vs ts S)(e:ts[i]?=Jp t):∃v S1,vs[i]?=Jp v/\Tr K F H Js v t S1/\(∀b,S1 b->S b) /\
  ∀(w:Hp) t' u,(∀b,S b->¬ S1 b->w b=H b)->Tr K F w Js v t' u->(∀b,u b->S1 b)->∃P,Trs K F w Js vs (ts.set i t') P/\∀b,P b->S b:=by
 revert i;refine Trs.ind (R:=λst vs ts S=>∀{i:Nat},ts[i]?=Jp t->∃v S1,vs[i]?=Jp v/\Tr K F H st v t S1/\(∀b,S1 b->S b)/\∀(w:Hp) t' u,(∀b,S b->¬ S1 b->w b=H b)->Tr K F w st v t' u->(∀b,u b->S1 b)->∃P,Trs K F w st vs (ts.set i t') P/\∀b,P b->S b) (λn i e=>by cases e) (λ{_ _ _ _ _ _ m P2} h t n q p i e=>?_) h;cases i with|zero=>cases e;exact#[_,m,rfl,h,λb hb=>(q b).mpr (.inl hb),λw t' u k r f=>#[λb=>u b∨P2 b,.cons r (t.mono (.refl _) λb hb=>#[k b ((q b).mpr (.inr hb)) λz=>n b z hb,(t.dom b hb).2]) (λb hb z=>n b (f b hb) z) λb=>QAb,λb hb=>(q b).mpr (hb.imp (f b) id)]]|succ i=>let#[v,S1,h1,h2,g,I]:=p (i:=i) e;refine#[v,S1,h1,h2,λb hb=>(q b).mpr (.inr (g b hb)),λw t' u k r f=>?_];let#[P,g1,l]:=I w t' u (λb hb X=>k b ((q b).mpr (.inr hb)) X) r f;exact#[λb=>m b∨P b,.cons (h.mono (.refl _) λb hb=>#[k b ((q b).mpr (.inl hb)) λz=>n b hb (g b z),(h.dom b hb).2]) g1 (λb hb z=>n b hb (l b z)) λb=>QAb,λb hb=>(q b).mpr (hb.imp id (l b))]
def Jj(ks:List D)(k:D):List D:=match dA ks k with
 |some _=>ks|none=>ks++[k]
def mj{α:Type}(ks:List D)(vs:List α)(k:D)(x:α):List α:=match dA ks k with
 |some n=>vs.set n x|none=>vs++[x]
theorem DM{α u:Type}[DecidableEq α](k:α)(h:u->α)(f:u->u)(hf:∀p,h (f p)=h p):∀(l:List u) (n:Nat),(l.map h).Nodup->(l.map h)[n]?=Jp k->(∀(g:u->V) (x:V),(∀p,h p=k->g (f p)=x)->(l.map λp=>if h p=k then f p else p).map g=(l.map g).set n x)
 |[],n,_,e=>by simp at e|p::r,0,nd,e=>by
  intro g x m;have e:h p=k:=by simpa using e
  rw[QT]at nd;let#[w,X]:=Qa.mp nd;have e2:(r.map λp=>if h p=k then f p else p)=r:=by rw[show r=r.map id from(QAK r).symm,Qi];refine qX λq hq=>?_;have:h q≠k:=λz=>w (QY.mpr #[q,by simpa using hq,z.trans e.symm]);simp[this]
  rw[QT,e2,QT,QT,Gw e,m p e];rfl
 |p::r,n+1,nd,e=>by
  intro g x m;rw[QT]at nd;let#[w,X]:=Qa.mp nd;have e:(r.map h)[n]?=Jp k:=by simpa using e
  have I:¬ h p=k:=λz=>w (by rw[z];exact Qq e);rw[QT,QT,QT,Gq I,DM k h f hf r n X e g x m];rfl
theorem put_keys{α h u:Type}[DecidableEq α](k:α)(z:h->α)(f:h->h)(g:h->u)(w:∀p,g (f p)=g p)(l:List h):(l.map λp=>if z p=k then f p else p).map g=l.map g:=by rw[Qi];refine qX λp _=>?_;show g (if z p=k then f p else p)=g p;split;exact w p;rfl
theorem dI.put{k:D}(f:Same F H)(ha:H a=Jp o)(dk:dI K F b o ks vs)(ry:Rep K F J k)(hk:sE b k)(hl:ks.9<jx)
  (kk:∀o',dI K F b o' (Jj ks k) (mj ks vs k A)->R (KA H a o')):UO K (.ref a) J A H R:=by
 cases b with
 |true =>
  let#[ep,h,rfl,rfl,rfl,h4,r]:=dk;let#[q,rfl]:=hk;cases ry with
  |@tup p _ _ hq rq =>
   cases UF rq;refine#[ep,h,q,ha,λp hp=>f.tupl (h4 p hp),f.tupl hq,by simpa using hl,λX=>kk _ ?_];have u:=ZF q h;unfold JJ Jj mj;cases e:dA (h.map λp=>tD p.1) (tD q) with
   |none =>
    rw[e]at u;have u:TF h q=none:=u;rw[u];refine#[X,h++[(q,p,A)],rfl,by simp,by simp,λx g=>?_,?_];rcases QW.mp g with g|g
    ·exact h4 x g
    rw[QJ.mp g];exact hq;rw[Qk];refine cH r λm=>gC.mp e ?_;let#[x,g,ex]:=QY.mp m;exact QY.mpr #[x,g,by rw[ex]]
   |some n =>
    rw[e]at u;have w:=zE e;have l:(h.map (·.1))[n]?=Jp q:=by
     rw[Qg]at w ⊢;cases I:h[n]? with|none=>rw[I]at w;cases w|some x=>rw[I]at w;rw[qV,Qs]at w ⊢;exact lX w
    have hs:(TF h q).isSome=true:=by
     rw[u];have:n<h.length:=by have:=(Qb.mp l).1;simpa using this
     simp[this]
    rw[Gw hs];refine#[X,_,rfl,(put_keys q (·.1) (λp=>(p.1,p.2.1,A)) (λp=>tD p.1) (λ_=>rfl) h).symm,(DM q (·.1) (λp=>(p.1,p.2.1,A)) (λ_=>rfl) h n r l (·.2.2) A λ_ _=>rfl).symm,λx g=>?_,?_];let#[y,hy,ey]:=QY.mp g;have hy:=h4 y hy;by_cases z:y.1=q;rw[Gw z]at ey;subst ey;exact hy;rw[Gq z]at ey;subst ey;exact hy;have:=put_keys q (·.1) (λp:KE=>(p.1,p.2.1,A)) (·.1) (λ_=>rfl) h;rw[this];exact r
 |false =>
  let#[z,rfl]:=hk;cases ry;rcases dk with⟨h,hne,rfl,rfl,rfl,r⟩| ⟨ep,rfl,rfl,rfl⟩
  rotate_left
  exact .inr #[ep,ha,kk _ (.inl #[[(.inr z,A)],by simp,rfl,rfl,rfl,by simp])];refine .inl #[h,ha,by simpa using hl,kk _ (.inl ?_)];have u:=CH (.inr z) h;have ez:kD (.inr z)=.str z:=rfl;rw[ez]at u;unfold bR Jj mj;rw[mO];cases e:dA (h.map λp=>kD p.1) (.str z) with
  |none=>rw[e]at u;have u:bJ h (.inr z)=none:=u;rw[u];refine#[h++[(.inr z,A)],by simp,rfl,by simp[ez],by simp,?_];rw[Qk];refine cH r λm=>gC.mp e ?_;let#[x,g,ex]:=QY.mp m;exact QY.mpr #[x,g,by rw[ex];rfl]|some n =>
   rw[e]at u;have w:=zE e;have l:(h.map (·.1))[n]?=Jp (.inr z):=by
    rw[Qg]at w ⊢;cases I:h[n]? with|none=>rw[I]at w;cases w|some x=>rw[I]at w;rw[qV,Qs]at w ⊢;exact LR w
   have hs:(bJ h (.inr z)).isSome=true:=by
    rw[u];have:n<h.length:=by have:=(Qb.mp l).1;simpa using this
    simp[this]
   rw[Gw hs];refine#[_,by simpa using hne,rfl,(put_keys (.inr z) (·.1) (λp=>(p.1,A)) (λp=>kD p.1) (λ_=>rfl) h).symm,(DM (.inr z) (·.1) (λp=>(p.1,A)) (λ_=>rfl) h n r l (·.2) A λ_ _=>rfl).symm,?_];have:=put_keys (.inr z) (·.1) (λp:Key×V=>(p.1,A)) (·.1) (λ_=>rfl) h;rw[this];exact r
theorem DN(h:F a=Jr)(u:dI K F b o ks L)(r:Trs K F H Js L us P)(n:¬ P a):Tr K F (KA H a o) Js (.ref a) (.dct b ks us) λb=>b=a∨P b :=
 .dct (S':=P) YA u h (r.mono (.refl _) λb hb=>#[vA λz=>n (z▸hb),(r.dom b hb).2]) n λb=>QAb
theorem rX(f:Same F H)(r:Tr K F H Js v s Z)(ry:Rep K F J y)(rx:Rep K F A x)(h:lg s y x N)
  (k:∀s' H' S1,(∀b u,H b=Jp u->¬ Z b->H' b=Jp u)->(∀b,H' b=Jr->H b=Jr)->Tr K F H' Js v s' S1->(∀b,S1 b->Z b)->N s'->R H'):UO K v J A H R:=by
 cases s with
 |lst ts =>
  cases y with
  |int i =>
   let#[n,hn,q]:=h;cases ry;cases r with|@lst _ a xs _ _ S' h1 h2 m I l=>have g:Z a:=(l a).mpr (.inl rfl);let#[P,X,p]:=m.setD rx n;refine#[xs,n,h1,by rw[m.9];exact hn,k _ _ _ (PC g) JB (jJ h2 X λz=>I (p a z)) (λb hb=>?_) q];rcases hb with hb|hb;exact hb▸g;exact(l b).mpr (.inr (p b hb))
  |_=>exact h.elim
 |dct b ks ts =>
  let#[hk,hl,q]:=h;cases r with
  |@dct _ _ a o _ vs _ _ S' h1 dk h2 m I l =>
   have g:Z a:=(l a).mpr (.inl rfl);refine dk.put f h1 ry hk hl λo' w=>?_;unfold Jj mj at w;unfold cR at q;cases e:dA ks y with
   |some n=>rw[e]at w q;let#[P,X,p]:=m.setD rx n;refine k _ _ _ (PC g) JB (DN h2 w X λz=>I (p a z)) (λb hb=>?_) q;rcases hb with hb|hb;exact hb▸g;exact(l b).mpr (.inr (p b hb))
   |none=>rw[e]at w q;have X:=Trs.append m (Trs.one (Tr.d (S:=λ_=>False) rx λ_ z=>z)) λ_ _ z=>z;refine k _ _ _ (PC g) JB (DN h2 w X λz=>z.elim I id) (λb hb=>?_) q;rcases hb with hb|hb|hb;exact hb▸g;exact(l b).mpr (.inr hb);exact hb.elim
 |_=>exact h.elim
theorem dI.vs_inj{m:Hp}{f:List D}{u:LV}(h:dI K F b o ks vs)(h':dI K m b o f u):vs=u:=by
 cases b with|true=>let#[l,k,e,_,rfl,_]:=h;let#[g,w,z,_,rfl,_]:=h';rw[e]at z;cases z;rfl|false=>rcases h with⟨k,_,e,_,rfl,_⟩| ⟨l,e,_,rfl⟩<;>rcases h' with⟨w,_,z,_,rfl,_⟩| ⟨g,z,_,rfl⟩<;>rw[e]at z<;>cases z<;>rfl
theorem Y4{F0:Hp}{n:Nat}{w:V}(f:Same F H)(r:Tr K F H Js (.ref a) (.dct b ks ts) Z)(l:H a=Jp o)(q:dI K F0 b o ks vs)(hw:vs[n]?=Jp w)(ht:ts[n]?=Jp s)
  (ry:Rep K F J y) (rx:Rep K F A x) (h:lg s y x N)
  (k:∀s' g S1,(∀b u,H b=Jp u->¬ Z b->g b=Jp u)->(∀b,g b=Jr->H b=Jr)->Tr K F g Js (.ref a) (.dct b ks (ts.set n s')) S1->(∀b,S1 b->Z b)->N s'->R g):UO K w J A H R:=by
 cases r with
 |@dct _ _ a o' _ vs' _ _ S' h1 dk h2 h3 h4 p =>
  rw[l]at h1;cases h1;cases q.vs_inj dk;have ha:Z a:=(p a).mpr (.inl rfl);let#[w',S1,g1,g2,g3,g4]:=h3.part ht;rw[hw]at g1;cases g1;refine rX f g2 ry rx h λs' g X hh dm rs sub q2=>?_;have keep:∀b,¬ S1 b->H b≠Jr->g b=H b:=λb hb m=>by
   cases e:H b with|none=>exact gJ e m|some u=>exact hh b u e hb
  have na:¬ S1 a:=λz=>h4 (g3 a z);let#[P,p1,I]:=g4 g s' X (λb hb m=>keep b m (h3.dom b hb).1) rs sub;refine k _ g (λb=>b=a∨P b) (λb u e hb=>hh b u e λz=>hb ((p b).mpr (.inr (g3 b z)))) dm (.dct (S':=P) ((keep a na (by rw[l];simp)).trans l) dk h2 p1 (λz=>h4 (I a z)) λb=>QAb) (λb hb=>?_) q2;rcases hb with hb|hb;exact hb▸ha;exact(p b).mpr (.inr (I b hb))
theorem Jb{p:jy}(f:Same F H)(X:H p=Jr)(r:Tr K F H Js v t Z)(ry:Rep K F J y)(h:gb y t N)
  (k:∀s' l S1,(∀b u,H b=Jp u->¬ Z b->l b=Jp u)->(∀b,l b=Jr->H b=Jr)->Tr K F l Js v s' S1->(∀b,S1 b->Z b∨b=p)->N s'->R l):MI K v [J,.ref p] (KA H p (.dT 0 [])) λ_ l=>R l:=by
 let#[ks,ts,rfl,hk,hl,h]:=h;cases r with
 |@dct _ _ a o _ vs _ _ S' h1 dk h2 h3 h4 h5 =>
  have ha:Z a:=(h5 a).mpr (.inl rfl);let#[ep,w,rfl,rfl,rfl,d4,d5]:=dk;let#[q,rfl]:=hk;have ap:a≠p:=aA h1 X;have fp:F p=none:=f.free X;have sm:Same H (KA H p (.dT 0 [])):=CB X;cases ry with
  |@tup c _ _ hq rq =>
   cases UF rq;have vf:=ZF q w;refine#[a,c,.ref p,ep,w,q,rfl,rfl,(vA ap).trans h1,λx g=>(f.trans sm).tupl (d4 x g),(f.trans sm).tupl hq,by simpa using hl,λu eu=>?_,λen I=>?_];rcases h with⟨n,e,q⟩| ⟨e,q⟩
   ·have r0:Tr K F H Js (.ref a) (.dct Js (w.map λp=>tD p.1) ts) Z:=.dct h1 #[ep,w,rfl,rfl,rfl,d4,d5] h2 h3 h4 h5
    refine k _ _ Z (λb u e _=>sm b u e) (λb e=>JB b e) (r0.mono (.refl _) λb hb=>#[vA λz=>(r0.dom b hb).1 (by rw[z];exact X),(r0.dom b hb).2]) (λb hb=>.inl hb) q
   rw[e]at vf;rw[vf]at eu;cases eu;rcases h with⟨n,e,q⟩| ⟨e,q2⟩
   ·have hn:=zE e
    rw[e]at vf;have:n<w.length:=by have:=(Qb.mp hn).1;simpa using this
    rw[vf]at en;have en:(w.map (·.2.2))[n]?=none:=en;rw[List.getElem?_eq_none_iff,QG]at en;omega
   have ep2:JJ w q c (.ref p)=w++[(q,c,.ref p)]:=by unfold JJ;rw[en];rfl
   rw[ep2];have np:¬ S' p:=λz=>(h3.dom p z).1 X;have g0:Tr K F (KA H p (.dT 0 [])) Js (.ref p) (.dct Js [] []) λb=>b=p :=
    .dct (S':=λ_=>False) (vs:=[]) YA #[0,[],rfl,rfl,rfl,λ_ z=>(nomatch z),Qt] fp (.nil λ_ z=>z) (λz=>z) λb=>by simp
   have g3:Trs K F (KA H p (.dT 0 [])) Js (w.map (·.2.2)) ts S':=h3.mono (.refl _) λb hb=>#[vA λz=>np (z▸hb),(h3.dom b hb).2]
   have g1:=Trs.append g3 (Trs.one g0) λb hb z=>np (z▸hb);have dk':dI K F Js (.dT I (w++[(q,c,.ref p)])) ((w.map λp=>tD p.1)++[tD q]) (w.map (·.2.2)++[.ref p]):=by
    refine#[I,_,rfl,by simp,by simp,λx g=>?_,?_];rcases QW.mp g with g|g
    ·exact d4 x g
    rw[QJ.mp g];exact hq;rw[Qk];refine cH d5 λm=>gC.mp e ?_;let#[x,g,ex]:=QY.mp m;exact QY.mpr #[x,g,by rw[ex]]
   refine k _ _ _ (λb u e hb=>?_) (λb e=>JB b (JB b e)) (DN h2 dk' g1 λz=>z.elim h4 ap) (λb hb=>?_) q2;rw[vA λz=>hb (by rw[z];exact ha)];exact sm b u e;rcases hb with hb|hb|hb
   ·exact .inl (hb▸ha)
   exact .inl ((h5 b).mpr (.inr hb));exact .inr hb
end
end
section
variable{K:QE}{Γ:Ev}{Ψ:PEv}
section
variable{p:PX}{F H:Hp}{S:Ft}{ρ:kA}{Z:kB}
noncomputable abbrev UW(K:QE)(Γ:Ev)(Ψ:PEv)(p:PX):Prop:=∀{E:XE}{x:XK}{F H:Hp}{S:Ft}{ρ:kA}{h:St}{Q:TK}{R:VK},Rl K F H S ρ h->fE K F H S ρ E x->(pe Ψ p E).e ρ Q->AA K (SF p) F H S ρ h Q R->(wp K Γ p x).e h H R
theorem PQ(f:UW K Γ Ψ p){E:XE}{w:XK}{σ:St}{Q:Bool->kA->Prop}{R:Bool->Hp->Prop}(I:Rl K F H S ρ σ)(X:fE K F H S ρ E w)(h:(pe Ψ p E).e ρ λt _ y=>CG t.er λb=>Q b y)(k:xG K F H S ρ σ Q R) :
  (wp K Γ p w).e σ H λx i=>HE K x i R :=
 f I X h λv l j g z t n Z s u r q=>MS (r.tr.rep u.fh) q λc a=>k c l j g z s u a
theorem PSnd.of_e(w:∀E ρ Q,(pe Ψ p E).t ρ Q=(pe Ψ p E).e ρ λt _ y=>CG t.er λb=>Q b y)(z:∀v σ H R,(wp K Γ p v).t σ H R=(wp K Γ p v).e σ H λx f=>HE K x f R)(ha:∀E,(pe Ψ p E).a=mD.a)(u:UW K Γ Ψ p):PSnd K Γ Ψ p where
 e:=u
 t:=λI X h k=>by rw[w]at h;rw[z];exact PQ u I X h k
 a:=λI X _ h k=>by rw[ha]at h;exact h.elim
theorem PSnd.of_0(x:∀E,(pe Ψ p E).t=mD.t)(ha:∀E,(pe Ψ p E).a=mD.a)(y:UW K Γ Ψ p):PSnd K Γ Ψ p where
 e:=y
 t:=λI X h k=>by rw[x]at h;exact h.elim
 a:=λI X _ h k=>by rw[ha]at h;exact h.elim
theorem PSnd.of_t(l:∀E ρ Q,(pe Ψ p E).e ρ Q=(pe Ψ p E).t ρ λb u=>Q (.d (.bool b)) Jt u)(v:∀z σ H R,(wp K Γ p z).t σ H R=(wp K Γ p z).e σ H λx m=>B2 x m R)(ha:∀E,(pe Ψ p E).a=mD.a)
  (f:∀{E:XE}{z:XK}{F H:Hp}{S:Ft}{ρ:kA}{σ:St}{Q:Bool->kA->Prop}{R:VK},Rl K F H S ρ σ->fE K F H S ρ E z->(pe Ψ p E).t ρ Q->xG K F H S ρ σ Q (λb=>R (.bl b))->(wp K Γ p z).e σ H R):PSnd K Γ Ψ p where
 e:=λI X h k=>by rw[l]at h;exact f I X h λb j i g y s w q=>AA.d k s w (.bl b) q
 t:=λI X h k=>by rw[v];exact f I X h λb j i g y s w q=>k b j i g y s w q
 a:=λI X _ h k=>by rw[ha]at h;exact h.elim
theorem j8(i:Nat):UW K Γ Ψ (.kw i):=by
 intro E f F H S ρ u Q R I X h k;have x:sj ρ[i]? λt=>Q t Jt ρ:=h;show(match u[i]? with|some (Jp v)=>R v H|_=>False);have y:∀s,ρ[i]?=Jp (Jp s)->Q s.t Jt ρ->(match u[i]? with|some (Jp v)=>R v H|_=>False):=λs e q=>by let#[v,a,w]:=I.sl i _ e;rw[a];exact k v F H S ρ s.t Jt (S i) .refl I #[w.weak,λz=>(by cases z),λ_ b hb=>#[i,s,QJ.mpr rfl,e,hb],λz=>(by cases z)] q
 unfold sj at x;split at x;rename_i e;exact y _ e x;rename_i e;exact y _ e x;exact x.elim;exact x.elim
theorem Oc{m:Mt}{v:V}{s:T}(h:isMut m=Js)(x:nI m s=Js)(r:Tr K F H Js v s Z):NW K m.ty v H:=by
 unfold nI at x;split at x;cases r with
 |lst y _ _ _ _ =>
  refine .inl #[?_,_,uC.of y];cases m with|append=>rfl|pop=>rfl|reverse=>rfl|_=>cases x
 cases x
theorem Fk{m:Mt}{o as:PX}(io:PSnd K Γ Ψ o)(ia:PSnd K Γ Ψ as):UW K Γ Ψ (.mt m o as):=by
 intro E EK F H S ρ J Q R I X h k;show(wp K Γ o EK).e J H λx G=>NW K m.ty x G/\(wp K Γ as EK).a J G λl g=>Y6 K m x l g R;cases hm:isMut m with
 |false =>
  have h:(pe Ψ o E).e ρ λx n L=>UR m (bA x n).vw=Js/\sq (bA x n) L ((pe Ψ as E).a []) λf y=>lf m (bA x n).vw (HB f) λz k=>Q z k y:=by have B:(if isMut m=Js then _ else _):=h;rw[hm,Gq (by simp)]at B;exact B
  refine Sf (P1:=λx n=>UR m (bA x n).vw=Js) (R1:=λv G=>NW K m.ty v G) (RR:=λv l g=>Y6 K m v l g R) io ia I X h (λv F' H' x n Za r p=>Zh r p) λv l F' H' S' ρ' x n f Za Y s I' X' r _ tn q=>?_;rw[kJ _ rfl]at q;exact Rc s I' r tn q k
 |true =>
  have h:u8 (OX o) λj=>zD ρ[j]? λt=>nI m t=Js/\(pe Ψ as E).a [] (ρ.set j (Jp (.ny t))) λf y=>aE f=Js/\y[j]?=Jp (Jp (.ny t))/\cN m t (RE f) λr s'=>Q r Js (y.set j (Jp (.own s'))):=by have B:(if isMut m=Js then _ else _):=h;rw[hm,Gw rfl]at B;exact B
  cases o with
  |kw j =>
   have h:zD ρ[j]? _:=h;unfold zD at h;split at h;rename_i t u;let#[ht,q1]:=h;let#[v0,hv,A]:=I.sl j _ u;have IL:=I.lock1 u;have n0:=I.lock1U u;have A:Tr K F H Js v0 t (S j):=A;have XL:=X.lock1 u;show(match J[j]? with|some (Jp v)=>_|_=>False);rw[hv];refine#[Oc hm ht A,?_];refine ia.a (md:=[]) IL XL (λj u=>by cases as<;>cases u) q1 λl F2 g S2 y f W Y M I2 C _ O=>?_;let#[he,hj2,O]:=O;have r2:Tr K F2 g Js v0 t (S j):=M.toStp.keep A n0;have hw:=C.held;have trs:=C.av.trs Hc he;have wS:∀b,S j b->¬ W b:=λb hb P=>by rcases C.fr b P with q|q;exact(A.dom b hb).1 q;exact n0 b hb q
   refine e6 I2.fh r2 trs wS O λw r s' H3 S3 Zr hh dm N rr dz hf q=>?_;let#[st,I3,nw]:=AG I u hv M I2 hh dm N (λb hb=>hf b (.inl hb)) hw C.fr;have zr:∀b,Zr b->S j b∨W b∨g b=none:=λb hb=>hf b (.inr hb);refine k w F2 H3 _ _ r Js Zr st I3 #[rr,λ_ b hb=>?_,λz=>(by cases z),λ_ i sl e b hb z=>?_] q;rcases zr b hb with q|q|q
   ·exact .inr #[j,t,u,q]
   exact(C.fr b q).imp id (lock1U u);exact .inl (M.dm b q);rcases xA e with⟨rfl,_,_⟩| ⟨n,e⟩
   ·rw[HA]at z
    exact dz b hb z
   rw[rA (qB n)]at z;exact nw b (zr b hb) i sl (qB n) e z
   all_goals exact h.elim
  |_=>exact h.elim
theorem AA.dct{ws:LN}{F H x y:Hp}{S S1:Ft}{ρ h:kA}{σ:St}{Q:TK}{R:VK}(k:AA K ws F H S ρ σ Q R)(s:Ste F H S ρ x y S1 h)(I:Rl K x y S1 h σ){p:jy}(g:H p=Jr)(m:x p=Jr)(j:Held x y S1 h λb=>b=p){o:HO}{b:Bool}{ks:List D}{vs:LV}{ts:LT}{W:kB}(C:dI K x b o ks vs)(r:Trs K x y Js vs ts W)
  (B:∀b,W b->H b=Jr∨U ρ S b) (f:Held x y S1 h W) (a:¬ W p) (q:Q (.dct b ks ts) Js h):R (.ref p) (KA y p o):=by
 have Y:∀b u,H b=Jp u->b≠p:=λb u e=>aA e g;have X:Ste F H S ρ x (KA y p o) S1 h:=#[#[s.ff,λb u e n=>by rw[vA (Y b u e)];exact s.hh b u e n,λb e=>s.dm b (JB b e),s.fn,s.uu,s.bo],s.ow]
 have E:Rl K x (KA y p o) S1 h σ:=#[λb u e=>by rw[vA λz=>by rw[z,m]at e;cases e];exact I.fh b u e,I.len,λi w e=>by let#[v,A,l]:=I.sl i w e;exact#[v,A,l.mono (.refl _) λb hb=>#[vA λz=>j.nw i w e b z hb,(l.dom b hb).2]],I.dj]
 refine k _ x _ S1 h _ Js (λb=>b=p∨W b) X E #[.dct YA C m (r.mono (.refl _) λb hb=>#[vA λz=>a (z▸hb),(f.dom b hb).2]) a (λb=>QAb),λ_ b hb=>?_,λz=>(by cases z),λ_ i w e b hb z=>?_] q;rcases hb with hb|hb
 ·exact .inl (hb▸g)
 exact B b hb;rcases hb with hb|hb
 ·exact j.nw i w e b hb z
 exact f.nw i w e b hb z
theorem VR.strict{u y:Hp}{S1:Ft}{h:kA}{ws:LN}{v:V}{t:T}{n:Bool}(r:VR K ws H S ρ u y S1 h v t n Z)(e:zG t n=Js):∃W,Tr K u y Js v t W/\Held u y S1 h W/\∀b,W b->H b=Jr∨U ρ S b:=by
 cases n with
 |true=>exact#[Z,r.tr,r.held,r.fr rfl]|false =>
  have w:=r.tr;cases t with
  |d x=>cases w with|d q _=>exact#[λ_=>False,.d q λ_ z=>z,.none,λ_ z=>z.elim]
  |_=>cases e
theorem FP{σ:St}(I:Rl K F H S ρ σ){p:jy}(h:H p=Jr)(o:HO):Held F (KA H p o) S ρ λb=>b=p :=
 #[λb hb=>#[by rw[hb,YA];simp,by rw[hb];exact I.fh.free h],λi x e b hb z=>(I.dom e z).1 (by rw[hb];exact h)]
theorem XA(g:GOk K Γ Ψ):∀(p:PX),PSnd K Γ Ψ p
 | .kw i=>#[j8 i,λI X h k=>PQ (Γ:=Γ) (Ψ:=Ψ) (j8 i) I X h k,λI X _ h k=>h.elim]|.int i=>#[λI X h k=>AA.d k .refl I (.int i) h,λI X h k=>k _ _ _ _ _ .refl I h,λI X _ h k=>h.elim]|.str x=>#[λI X h k=>AA.d k .refl I (.str x) h,λI X h k=>h.elim,λI X _ h k=>h.elim]|.bl b=>#[λI X h k=>AA.d k .refl I (.bl b) h,λI X h k=>k _ _ _ _ _ .refl I h,λI X _ h k=>h.elim]|.non=>#[λI X h k=>AA.d k .refl I .non h,λI X h k=>k _ _ _ _ _ .refl I h,λI X _ h k=>h.elim]|.glo x=>.of_e (λ_ _ _=>rfl) (λ_ _ _ _=>rfl) (λ_=>rfl) λ{E L F H S ρ G Q R} I X h k=>by have h:(match Ψ.va x with|some d=>Q (.d d) Jt ρ|none=>False):=h;split at h;rename_i d e;exact AA.d k .refl I (g.va x d e F) h;exact h.elim
 | .bty _ _=>#[λI X h k=>h.elim,λI X h k=>h.elim,λI X _ h k=>h.elim]|.bin op a b=>.of_e (λ_ _ _=>rfl) (λ_ _ _ _=>rfl) (λ_=>rfl) λ{E L F H S ρ G Q R} I X h k =>
  cX (P:=λx n y m M=>binT op (bA x n).vw (bA y m).vw λz k=>Q z k M) (RR:=λx y H2=>L7 K op x y H2 R) (XA g a) (XA g b) I X h λv w O N S' A x n y m Za Zb s C X' ra _ rb q=>Ke s C ra rb q k
 | .cmp op a b=>.of_t (λ_ _ _=>rfl) (λ_ _ _ _=>rfl) (λ_=>rfl) λ{E L F H S ρ G Q R} I X h k =>
  cX (P:=λx n y m M=>Y7 op x.er (bA y m) λk=>Q k M) (RR:=λx y H2=>U1 K op x y H2 R) (XA g a) (XA g b) I X h λv w O N S' A x n y m Za Zb s C X' ra _ rb q =>
   J7 C.fh (by have:=ra.rep C.fh;rwa [tU]at this) rb q λc qc=>k c O N S' A s C qc
 | .neg a=>.of_0 (λ_=>rfl) (λ_=>rfl) λ{E L F H S ρ G Q R} I X h k=>by
  refine(XA g a).e (Q:=λx _ B=>Mc x λt=>Q t Jt B) I X h λv O N S' A x n Z s C r q=>?_;have tr:=r.tr;let#[i,rfl,q2]:=(show Mc x λt=>Q t Jt A from q)
  cases tr with|d rr _=>cases rr;exact AA.d k s C (.int _) q2
 | .and a b=>#[λ{E L F H S ρ G Q R} I X h k=>by
   refine(XA g a).e (Q:=λx _ B=>sf x.er λc=>if c=Js then(pe Ψ b E).e B Q else Q (.d (.bool Jt)) Jt B) (R:=λx J=>B2 x J λc H2=>if c=Js then(wp K Γ b L).e G H2 R else R (.bl Jt) H2) I X h λv O N S' A x n Z s C r q=>?_;refine U2 (r.tr.rep C.fh) q λc qc=>?_;cases c with|false=>exact AA.d k s C (.bl Jt) qc|true=>exact(XA g b).e C (X.from s.toStp) qc ((k.from s).vars λi hi=>QR _ hi),
  λ{E L F H S ρ G Q R} I X h k=>by
   refine(XA g a).t (Q:=λc B=>if c=Js then(pe Ψ b E).t B Q else Q Jt B) (R:=λc J=>if c=Js then(wp K Γ b L).t G J R else R Jt J) I X h λc O N S' A s C qc=>?_;cases c with|false=>exact k _ O N S' A s C qc|true=>exact(XA g b).t C (X.from s.toStp) qc (xG.from k s),λI X _ h k=>h.elim]
 | .or a b=>#[λ{E L F H S ρ G Q R} I X h k=>by
   refine(XA g a).e (Q:=λx _ B=>sf x.er λc=>if c=Js then Q (.d (.bool Js)) Jt B else(pe Ψ b E).e B Q) (R:=λx J=>B2 x J λc H2=>if c=Js then R (.bl Js) H2 else(wp K Γ b L).e G H2 R) I X h λv O N S' A x n Z s C r q=>?_;refine U2 (r.tr.rep C.fh) q λc qc=>?_;cases c with|true=>exact AA.d k s C (.bl Js) qc|false=>exact(XA g b).e C (X.from s.toStp) qc ((k.from s).vars λi hi=>QR _ hi),
  λ{E L F H S ρ G Q R} I X h k=>by
   refine(XA g a).t (Q:=λc B=>if c=Js then Q Js B else(pe Ψ b E).t B Q) (R:=λc J=>if c=Js then R Js J else(wp K Γ b L).t G J R) I X h λc O N S' A s C qc=>?_;cases c with|true=>exact k _ O N S' A s C qc|false=>exact(XA g b).t C (X.from s.toStp) qc (xG.from k s),λI X _ h k=>h.elim]
 | .not a=>#[λ{E L F H S ρ G Q R} I X h k=>by
   refine(XA g a).e (Q:=λx _ B=>CG x.er λc=>Q (.d (.bool (!c))) Jt B) (R:=λx J=>HE K x J λc H2=>R (.bl (!c)) H2) I X h λv O N S' A x n Z s C r q=>?_;exact MS (r.tr.rep C.fh) q λc qc=>AA.d k s C (.bl _) qc,
  λ{E L F H S ρ G Q R} I X h k=>(XA g a).t (Q:=λc B=>Q (!c) B) (R:=λc J=>R (!c) J) I X h λc O N S' A s C qc=>k _ O N S' A s C qc,λI X _ h k=>h.elim]
 | .call f as=>.of_e (λ_ _ _=>rfl) (λ_ _ _ _=>rfl) (λ_=>rfl) λ{E L F H S ρ G Q R} I X h k=>C7 g (XA g as) I X h k|.isi a c=>by
  have key:∀{E:XE}{L:XK}{F H:Hp}{S:Ft}{ρ:kA}{G:St}{Q:Bool->kA->Prop}{R:VK},Rl K F H S ρ G->fE K F H S ρ E L->(pe Ψ (.isi a c) E).t ρ Q->xG K F H S ρ G Q (λb=>R (.bl b))->(wp K Γ (.isi a c) L).e G H R:=by
   intro E L F H S ρ G Q R I X h k;refine(XA g a).e (Q:=λx _ B=>Lh c x.er λb=>Q b B) I X h λv O N S' A x n Z s C r q=>?_;cases c with|bty z n=>let#[b,h1,h2,q]:=q;exact Xd (r.tr.rep C.fh) h1 h2 (k b O N S' A s C q)|_=>exact q.elim
  refine#[λI X h k=>key I X h λb O N S' A s C q=>AA.d k s C (.bl b) q,λ{E L F H S ρ G Q R} I X h k=>?_,λI X _ h k=>h.elim];exact key (R:=λv J=>HE K v J R) I X h λb O N S' A s C q=>k b O N S' A s C q
 | .bi f as=>.of_e (λ_ _ _=>rfl) (λ_ _ _ _=>rfl) (λ_=>rfl) λ{E L F H S ρ G Q R} I X h k =>
  ZS (P:=λxs B=>ZW f (HB xs) λz k=>Q z k B) (RR:=λvs J=>Ui K f vs J R) (XA g as) I X h λvs O N S' A xs Y s C X' tn _ q=>by rw[kJ _ rfl]at q;exact Ge s C tn q k
 | .mt m o as=>.of_e (λ_ _ _=>rfl) (λ_ _ _ _=>rfl) (λ_=>rfl) (Fk (XA g o) (XA g as))|.idx a b=>by
  have he:UW K Γ Ψ (.idx a b):=λ{E L F H S ρ G Q R} I X h k =>
   cX (P:=λx n y m M=>(LK (bA x n).vw (bA y m).vw λz=>Q z Jt M)∨(OP (bA x n).vw y.er λz=>Q z Jt M)) (RR:=λx y H2=>nV K x y H2 R) (XA g a) (XA g b) I X h λv w O N S' A x n y m Za Zb s C X' ra za rb q=>by rcases q with q|q;exact Ud s C ra za rb q k;exact Ed s C ra za (by have:=rb.rep C.fh;rwa [tU]at this) q k
  exact#[he,λI X h k=>PQ he I X h k,λI X _ h k=>h.elim]
 | .slc a lo hi=>.of_0 (λ_=>rfl) (λ_=>rfl) λ{E L F H S ρ G Q R} I X h k=>by
  have part:∀(p:PX),PSnd K Γ Ψ p->∀{F H:Hp}{S:Ft}{ρ:kA}{x:T}{P:Option Int->kA->Prop}{RP:Option Int->Hp->Prop},Rl K F H S ρ G->fE K F H S ρ E L ->
    sq (α:=Option Int) x ρ (if isNop p=Js then λρ (R:Option Int->kA->Prop)=>R Jr ρ else λρ R=>(pe Ψ p E).e ρ λl _ M=>kH l.er λo=>R o M) P ->
    (∀o O N S' A,Ste F H S ρ O N S' A->Rl K O N S' A G->(∀st v Zx,Tr K F H st v x Zx->Tr K O N st v x Zx)->P o A->RP o N) ->
    (if isNop p=Js then λ(R:Option Int->Hp->Prop)=>R Jr H else λR=>(wp K Γ p L).e G H λl H2=>BJ l H2 R) RP:=by
   intro p ip F H S ρ x P RP I X h k;cases hn:isNop p with
   |true=>simp only[hn,if_true]at h ⊢;refine k Jr F H S ρ .refl I (λ_ _ _ r=>r) ?_;unfold sq at h;split at h<;>exact h|false =>
    simp only[hn,qF,if_false]at h ⊢;have h2:sq x ρ (cu (pe Ψ p E).e) λy A=>kH y.1.er λo=>P o A:=by unfold sq at h ⊢;exact h
    refine eg ip I X h2 λw O N S' A y m Z s C kp _ r q=>U5 (r.tr.rep C.fh) q λo qo=>k o O N S' A s C kp qo
  refine rD (XA g a) I X h λv F1 J S1 B x n Za s1 I1 X1 r1 _ z1 h1=>?_;refine part lo (XA g lo) I1 X1 h1 λl F2 H2 S2 M s2 I2 k2 h2=>?_;refine part hi (XA g hi) I2 (X1.from s2.toStp) h2 λu F3 H3 S3 ρ3 s3 I3 k3 h3=>?_;exact xb (s1.trans (s2.trans s3)) I3 (k3 _ _ _ (k2 _ _ _ r1)) h3 k
 | .nop=>#[λI X h k=>h.elim,λI X h k=>h.elim,λI X _ h k=>h.elim]|.lst as=>.of_0 (λ_=>rfl) (λ_=>rfl) λ{E L F H S ρ G Q R} I X h k=>by refine(XA g as).a (md:=[]) (R:=λxs J=>xs.9<=jx/\∀p,J p=Jr->R (.ref p) (KA J p (.lst xs))) I X (λj hj=>by cases as<;>cases hj) h λvs O N S' A xs W Y s C r _ q=>?_;exact#[by rw[r.av.9];exact q.2.1,λp hp=>AA.list k s C hp (r.av.trs Hc q.1) r.fr r.held q.2.2]|.tup as=>.of_0 (λ_=>rfl) (λ_=>rfl) λ{E L F H S ρ G Q R} I X h k=>by refine(XA g as).a (md:=[]) (R:=λxs J=>xs.9<=jx/\∀p,J p=Jr->R (.ref p) (KA J p (.tup xs))) I X (λj hj=>by cases as<;>cases hj) h λvs O N S' A xs W Y s C r _ q=>?_;exact#[by rw[r.av.9];exact q.2.1,λp hp=>AA.tup k s C hp (r.av.trs Hc q.1) r.fr r.held q.2.2]|.comp mask tgs tg ik its cond elt=>.of_0 (λ_=>rfl) (λ_=>rfl) λ{E L F H S ρ G Q R} I X h k=>by
  refine ZS (RR:=λvs J=>dC K ik vs J λxs st H2=>RU K xs st tg (if isNop cond=Js then λ_ H Q=>Q Js H else(wp K Γ cond (λ_ _ _=>False)).t) (wp K Γ elt (λ_ _ _=>False)).e (sH tgs.9 mask G) H2 R) (XA g its) I X h λvs F1 J S1 B xs Y s1 I1 X1 tn tm q1=>?_;rw[kJ _ rfl]at q1;refine SH I1.fh tn q1 λxs ys st pr hst hc=>?_;refine Y1 (us:=SF elt) ?_ ?_ s1 I1 pr (λb hb=>?_) hst hc k;intro F H S ρ G Q R I h k;cases hn:isNop cond with|true=>simp only[hn,if_true]at h ⊢;exact k Js F H S ρ .refl I h|false=>simp only[hn,qF,if_false]at h ⊢;exact(XA g cond).t I fE.never h k
  intro F H S ρ G Q R I h k;exact(XA g elt).e I fE.never h k;let#[i,sl,_,h2,h3]:=tm b hb;exact I1.dom h2 h3
 | .lset a=>.of_0 (λ_=>rfl) (λ_=>rfl) λ{E L F H S ρ G Q R} I X h k =>
  rD (P:=λx n B=>L8 (bA x n).vw λz k=>Q z k B) (RR:=λx J=>yY K x J R) (XA g a) I X h λv O N S' A x n Z s C _ r _ _ #[us,ss,e,hb,l,q]=>by let#[p,xs,_,rfl,hp,rp,_]:=r.ls C.fh e;obtain rfl:=bC (rp.un hb).1;exact#[p,ss,rfl,hp,l,λzs nd m=>k.d s C (.int _) (q zs nd m)]
 | .sset a=>.of_0 (λ_=>rfl) (λ_=>rfl) λ{E L F H S ρ G Q R} I X h k =>
  rD (P:=λx n B=>vL (bA x n).vw λz k=>Q z k B) (RR:=λx J=>uR K x J R) (XA g a) I X h λv O N S' A x n Z s C _ r _ _ hq=>by
   rcases hq with⟨us,ss,e,hb,l,q⟩| ⟨us,rs,e,hb,⟨l,hn⟩,q⟩
   let#[p,xs,_,rfl,hp,rp,_]:=r.ls C.fh e;obtain rfl:=bC (rp.un hb).1;exact .inl #[p,ss,rfl,hp,l,λa zs hl nd m so=>k.listD s C hl (DH zs) (q zs nd m so)];let#[p,xs,_,rfl,hp,rp,_]:=r.ls C.fh e;have rr:=(rp.un hb).1;refine .inr #[λx r=>Rep K O x (tpS r),p,xs,rs,#[rfl,hp,mT rr,λx r h=>?_],l,hn,λzs nd m=>#[(q zs nd m).1,λa ys hl pr=>k.listD s C hl (JT pr) (q zs nd m).2]];unfold tpS at h;cases h with|tup sq rs=>exact#[_,rfl,C.fh.tupl (bC rs▸sq)]
 | .dnew b=>.of_0 (λ_=>rfl) (λ_=>rfl) λ{E L F H S ρ G Q R} I X h k=>by
  intro p hp;have hh:=FP I hp (.dT 0 []);have e:=AA.dct (o:=.dT 0 []) (b:=b) (ks:=[]) (vs:=[]) (ts:=[]) (W:=λ_=>False) k (Ste.refl.new hp (.dT 0 [])) (I.new hp _) hp (I.fh.free hp) hh ?_ (.nil λ_ z=>z) (λ_ z=>z.elim) .none (λz=>z) h;rw[x4]at e;exact e;cases b with
  |true=>exact#[0,[],rfl,rfl,rfl,λ_ z=>(nomatch z),Qt]
  |false=>exact .inr #[0,rfl,rfl,rfl]
 | .dsp a b=>.of_0 (λ_=>rfl) (λ_=>rfl) λ{E L F H S ρ G Q R} I X h k=>by
  intro p hp;have hh:=FP I hp (.dT 0 []);have s0:Ste F H S ρ F (KA H p (.dT 0 [])) S ρ:=Ste.refl.new hp _;refine rD (XA g a) (I.new hp _) (X.from s0.toStp) h λy F1 J S1 B x n Z s1 I1 X1 _ er _ #[he,q1]=>?_;have hh1:=hh.step s1.toStp I1;have ry:=er he;refine(XA g b).e I1 X1 q1 λv F2 H2 S2 M t m Zb s2 I2 r2 q2=>?_;have hh2:=hh1.step s2.toStp I2;let#[he2,hk,q2]:=q2;let#[W,rw,hw,frw]:=(r2.from s1.toStp).strict he2;have hp2:H2 p=Jp (.dT 0 []):=s2.hh p _ (s1.hh p _ YA (hh.nu p rfl)) (hh1.nu p rfl);have np:¬ W p:=λz=>by rcases frw p z with q|q;rw[YA]at q;cases q;exact hh.nu p rfl q
  have ry2:=ry.mono s2.ff;refine#[hp2,?_];generalize x.er=d at hk ry2 q2;let#[ks,rfl]:=hk;cases ry2 with|@tup c _ _ hq rq=>cases UF rq;refine#[c,ks,rfl,I2.fh.tupl hq,λep=>?_];exact AA.dct (o:=.dT ep [(ks,c,v)]) (b:=Js) (vs:=[v]) (ts:=[t]) k (s0.trans (s1.trans s2)) I2 hp (hh2.dom p rfl).2 hh2 #[ep,_,rfl,rfl,rfl,λz hz=>by rw[QJ.mp hz];exact hq,by simp] (Trs.one rw) (λb hb=>by rcases frw b hb with q|q;exact .inl (JB b q);exact .inr q) hw np q2
 | .nr=>#[λI X h k=>h.elim,λI X h k=>h.elim,λ{E L F H S ρ G md Q R} I X _ h k=>k [] F H S ρ [] (λ_=>False) (λ_=>False) .refl I #[.nil λ_ z=>z,λ_ z=>z.elim,λ_ z=>z.elim,λ_ _ _ _ z=>z.elim] (by cases md with|nil=>rfl|cons m r=>cases m<;>rfl) h]
 | .nq a as=>#[λI X h k=>h.elim,λI X h k=>h.elim,λ{E L F H S ρ G md Q R} I X hm h k=>by
  show(wp K Γ a L).e G H λx J=>(wp K Γ as L).a G J λxs H2=>R (x::xs) H2;have vr2:∀i∈SF as,i∈SF (.nq a as):=λi hi=>QR _ hi;cases hmd:(md.headD .kq).isMut with
  |true =>
   have h2:OZ a=Js/\(pe Ψ as E).a md.tail ρ λxs B=>Q ((.d .none,Js)::xs) B:=by have h3:(if(md.headD .kq).isMut=Js then _ else _):=h;rw[hmd,Gw rfl]at h3;exact h3
   obtain⟨m,md',rfl⟩:∃m md',md=m::md':=by
    cases md with|nil=>cases hmd|cons m md'=>exact#[m,md',rfl]
   have em:m=.chg:=by have hmd:m.isMut=true:=hmd;cases m<;>first|rfl|cases hmd
   subst em;cases a with
   |kw j=>let#[v,hv]:=hm j (show j∈j::cA md' as from QD);show(match G[j]? with|some (Jp v)=>_|_=>False);rw[hv];refine(XA g as).a I X (λi hi=>hm i (QC _ hi)) h2.2 λvs O N S' A xs W Y s C r mv q=>?_;refine k (v::vs) O N S' A _ W Y s C #[.chg hmd r.av,r.fr,(r.vars vr2).tm,r.nw] ?_ q;show(Jp (Jp v))::(uB md' vs).map _=G[j]?::(cA md' as).map _;have mv:(uB md' vs).map (λv=>Jp (Jp v))=(cA md' as).map (λj=>G[j]?):=mv;rw[hv,mv]
   |_=>exact gJ h2.1 (by simp[OZ])
  |false =>
   have h2:(pe Ψ a E).e ρ λx n B=>sq (α:=List (T×Bool)) (if n=Js then .d .none else x) B ((pe Ψ as E).a md.tail) λxs M=>Q ((x,n)::xs) M:=by have h3:(if(md.headD .kq).isMut=Js then _ else _):=h;rw[hmd,Gq (by simp)]at h3;exact h3
   have hroots:cA md (.nq a as)=cA md.tail as:=by
    cases md with|nil=>cases as<;>rfl|cons m md'=>have hmd:m.isMut=false:=hmd;cases m<;>first|rfl|cases hmd
   have hmv:∀v vs,uB md (v::vs)=uB md.tail vs:=λv vs=>by unfold uB;generalize md.headD .kq=m at hmd;cases m<;>first | (cases vs<;>rfl)|cases hmd
   refine(XA g a).e I X h2 λv F1 J S1 B x n Z s1 I1 r1 q1=>?_;refine Jg (XA g as) I1 (X.from s1.toStp) (λi hi=>hm i (by rw[hroots];exact hi)) q1 λvs F2 H2 S2 M xs W Y s2 I2 kp hs r2 mv q2=>?_;have s12:=s1.trans s2;have r2':=(r2.from s1.toStp).vars vr2;have mv':(uB md (v::vs)).map (λv=>Jp (Jp v))=(cA md (.nq a as)).map (λj=>G[j]?):=by rw[hroots,hmv];exact mv
   cases n with
   |true =>
    have hd:=r1.held;have hd2:=hd.step s2.toStp I2;refine k (v::vs) F2 H2 S2 M _ (λb=>Z b∨W b) Y s12 I2 #[.new hmd (s2.toStp.keep r1.tr hd.nu) r2.av (λb hb hw=>?_) λb=>QAb,λb hb=>?_,r2'.tm,λi sl e b hb=>?_] mv' q2;rcases r2.fr b hw with q|q
    ·exact(hd.dom b hb).1 q
    exact hd.nu b hb q;rcases hb with hb|hb
    ·exact r1.fr rfl b hb
    exact r2'.fr b hb;rcases hb with hb|hb
    ·exact hd2.nw i sl e b hb
    exact r2.nw i sl e b hb
   |false =>
    have za:∀b,Z b->∃(i:Nat) (s:Sl),i∈SF a/\M[i]?=Jp (Jp s)/\S2 i b:=by
     cases hd:x.isD with
     |true =>
      intro b hb;exfalso;have tr:=r1.tr;cases x with
      |d x=>cases tr with|d r n=>exact n b hb
      |_=>cases hd
     |false=>let#[e1,e2]:=hs hd;rw[e1,e2];exact r1.tm rfl
    refine k (v::vs) F2 H2 S2 M _ W (λb=>Z b∨Y b) s12 I2 #[.tmp hmd (kp _ _ _ r1.tr) (λb hb=>.inl hb) (r2.av.sub λb hb=>.inr hb),r2'.fr,λb hb=>?_,r2.nw] mv' q2;rcases hb with hb|hb;let#[i,sl,h1,h2]:=za b hb;exact#[i,sl,Qd _ h1,h2];exact r2'.tm b hb]
end
end
structure Sts(C J:LN)(F H:Hp)(S:Ft)(ρ:kA)(σ:St)(F' H':Hp)(S':Ft)(ρ':kA)(σ':St):Prop where
 ff:Same F F'
 hh:∀b u,H b=Jp u->¬ U ρ S b->H' b=Jp u
 dm:∀b,H' b=Jr->H b=Jr
 fn:∀b,F b=Jr->F' b≠Jr->U ρ S b∨H b=Jr
 uu:∀b,U ρ' S' b->U ρ S b∨H b=Jr
 bo:∀(j:Nat) t,j∉J->ρ'[j]?=Jp (Jp (.ny t))->t.isD=Jt->ρ[j]?=Jp (Jp (.ny t))/\S' j=S j/\σ'[j]?=σ[j]?
 sg:∀j∈C,σ'[j]?=σ[j]?
structure Stc(C:LN)(F H:Hp)(S:Ft)(ρ:kA)(σ:St)(F' H':Hp)(S':Ft)(ρ':kA)(σ':St):Prop where
 ff:Same F F'
 hh:∀b u,H b=Jp u->¬ U ρ S b->H' b=Jp u
 dm:∀b,H' b=Jr->H b=Jr
 fn:∀b,F b=Jr->F' b≠Jr->U ρ S b∨H b=Jr
 uu:∀b,U ρ' S' b->U ρ S b∨H b=Jr
 sg:∀j∈C,σ'[j]?=σ[j]?
section
variable{K:QE}{Γ:Ev}{Ψ:PEv}{E:XE}{M:XK}{F H p X B L:Hp}{S S1 G:Ft}{ρ y Y:kA}{σ g A:St}{C J:LN}
section
variable{t:T}{Z:kB}{i:Nat}
theorem Stp.sts(s:Stp F H S ρ p X S1 y):Sts C J F H S ρ σ p X S1 y σ:=#[s.ff,s.hh,s.dm,s.fn,s.uu,λj t _ e h=>let#[z,x]:=s.bo j t e h;#[z,x,rfl],λ_ _=>rfl]
theorem Sts.refl:Sts C J F H S ρ σ F H S ρ σ:=Stp.refl.sts
theorem Sts.trans(a:Sts C J F H S ρ σ p X S1 y g)(b:Sts C [] p X S1 y g B L G Y A):Sts C J F H S ρ σ B L G Y A where
 ff:=a.ff.trans b.ff
 hh:=λx u h n=>b.hh x u (a.hh x u h n) λz=>by rcases a.uu x z with q|q;exact n q;rw[q]at h;cases h
 dm:=λx h=>a.dm x (b.dm x h)
 fn:=λx h z=>by
  by_cases q:p x=Jr;rcases b.fn x q z with w|w
  ·exact a.uu x w
  exact .inr (a.dm x w);exact a.fn x h q
 uu:=λx h=>by rcases b.uu x h with w|w;exact a.uu x w;exact .inr (a.dm x w)
 bo:=λj t v h n=>by let#[o,m,l]:=b.bo j t (by simp) h n;let#[f,e,k]:=a.bo j t v o n;exact#[f,m.trans e,l.trans k]
 sg:=λj v=>(b.sg j v).trans (a.sg j v)
theorem Sts.c(s:Sts C J F H S ρ σ p X S1 y g):Stc C F H S ρ σ p X S1 y g:=#[s.ff,s.hh,s.dm,s.fn,s.uu,s.sg]
theorem Stc.trans(a:Stc C F H S ρ σ p X S1 y g)(b:Stc C p X S1 y g B L G Y A):Stc C F H S ρ σ B L G Y A where
 ff:=a.ff.trans b.ff
 hh:=λx u h n=>b.hh x u (a.hh x u h n) λz=>by rcases a.uu x z with q|q;exact n q;rw[q]at h;cases h
 dm:=λx h=>a.dm x (b.dm x h)
 fn:=λx h z=>by
  by_cases q:p x=Jr;rcases b.fn x q z with w|w
  ·exact a.uu x w
  exact .inr (a.dm x w);exact a.fn x h q
 uu:=λx h=>by rcases b.uu x h with w|w;exact a.uu x w;exact .inr (a.dm x w)
 sg:=λj v=>(b.sg j v).trans (a.sg j v)
theorem fE.fromS(h:fE K F H S ρ E M)(s:Sts C J F H S ρ σ p X S1 y g):fE K p X S1 y E M:=λx k B L G Y v f r q =>
 h x k B L (λ_ _=>False) [] #[s.ff.trans v.ff,λb u e n=>v.hh b u (s.hh b u e n) (λz=>(s.uu b z).elim n λw=>(by rw[w]at e;cases e)),λb e=>s.dm b (v.dm b e),λb e z=>by
  by_cases q:p b=Jr;rcases v.fn b q z with w|w
  ·exact s.uu b w
  exact .inr (s.dm b w);exact s.fn b e q,λb #[i,t,e,_]=>by simp at e,λj t e=>by simp at e] f r q
structure EndsOk(K:QE)(C:LN)(F H:Hp)(S:Ft)(ρ:kA)(σ:St)(Z:PEnds)(Dn:Ends):Prop where
 nx:∀F' H' S' ρ' σ',Sts C [] F H S ρ σ F' H' S' ρ' σ'->Rl K F' H' S' ρ' σ'->Z.nx ρ'->Dn.nx σ' H'
 rt:∀v t W F' H' S' ρ' σ',Stc C F H S ρ σ F' H' S' ρ' σ'->Rl K F' H' S' ρ' σ'->Tr K F' H' Js v t W->Held F' H' S' ρ' W->(∀b,W b->H b=Jr∨U ρ S b)->Z.rt t ρ'->Dn.rt v H'
 bk:∀F' H' S' ρ' σ',Sts C [] F H S ρ σ F' H' S' ρ' σ'->Rl K F' H' S' ρ' σ'->Z.bk ρ'->Dn.bk σ' H'
 ct:∀F' H' S' ρ' σ',Sts C [] F H S ρ σ F' H' S' ρ' σ'->Rl K F' H' S' ρ' σ'->Z.ct ρ'->Dn.ct σ' H'
theorem Jl(s:Sts C J F H S ρ σ p X S1 y g){W:kB}(h:∀b,W b->X b=Jr∨U y S1 b):∀b,W b->H b=Jr∨U ρ S b:=λb hb=>by rcases h b hb with q|q;exact .inl (s.dm b q);exact(s.uu b q).symm
theorem EndsOk.from{Z:PEnds}{b:Ends}(ok:EndsOk K C F H S ρ σ Z b)(s:Sts C [] F H S ρ σ p X S1 y g):EndsOk K C p X S1 y g Z b :=
 #[λa k w z x u I q=>ok.nx a k w z x (s.trans u) I q,λv t W a k w z x u I r h e q=>ok.rt v t W a k w z x (s.c.trans u) I r h (Jl s e) q,
  λa k w z x u I q=>ok.bk a k w z x (s.trans u) I q,λa k w z x u I q=>ok.ct a k w z x (s.trans u) I q]
theorem Sts.setD(s:Sts C J F H S ρ σ p X S1 y g)(i:Nat)(a:i∉C)(v:V)(k:t.isD=Js)(Z:kB):Sts C J F H S ρ σ p X (fG S1 i Z) (y.set i (Jp (.ny t))) (g.set i (Jp v)) :=
 #[s.ff,s.hh,s.dm,s.fn,λb #[j,u,z,w]=>by
  rcases xA z with⟨_,e,_⟩| ⟨n,z⟩
  cases e;rw[rA (qB n)]at w;exact s.uu b #[j,u,z,w],
 λj u h e x=>by
  rcases xA e with⟨_,e,_⟩| ⟨n,e⟩
  injection e with e;injection e with e;subst e;rw[k]at x;cases x;rw[rA (qB n),UD n];exact s.bo j u h e x,
 λj h=>by have n:i≠j:=λe=>a (e▸h);rw[UD n];exact s.sg j h]
theorem Rl.setD(I:Rl K F H S ρ σ)(i:Nat){v:V}{x:D}(r:Rep K F v x):Rl K F H (fG S i λ_=>False) (ρ.set i (bD x)) (σ.set i (Jp v)) :=
 I.setB i (.d r λ_ z=>z) λ_ _ _ _ _ z=>z.elim
theorem Rl.setN(I:Rl K F H S ρ σ)(i:Nat){v:V}(r:Tr K F H Js v t Z)(hz:∀(j:Nat) s,j≠i->ρ[j]?=Jp (Jp s)->∀b,Z b->¬ S j b):Rl K F H (fG S i Z) (ρ.set i (Jp (.own t))) (σ.set i (Jp v)) where
 fh:=I.fh
 len:=by simpa using I.len
 sl:=λj s h=>by
  rcases xA h with⟨rfl,e,hl⟩| ⟨w,h⟩
  cases e;exact#[v,kT (by rw[<- I.len];exact hl),by rw[HA];exact r];rw[UD w,rA (qB w)];exact I.sl j s h
 dj:=λj k a s n u x b hb hk=>by
  rcases xA u with⟨e,_,_⟩| ⟨f,u⟩
  subst e;rw[HA]at hb;rcases xA x with⟨e,_,_⟩| ⟨z,x⟩
  exact n e;rw[rA (qB z)]at hk;exact hz k s (qB z) x b hb hk;rw[rA (qB f)]at hb;rcases xA x with⟨e,_,_⟩| ⟨z,x⟩
  subst e;rw[HA]at hk;exact hz j _ n u b hk hb;rw[rA (qB z)]at hk;exact I.dj j k a s n u x b hb hk
theorem Sts.setN(s:Sts C J F H S ρ σ p X S1 y g)(i:Nat)(w:i∉C)(v:V)(t:T)(a:∀b,Z b->H b=Jr∨U ρ S b):Sts C J F H S ρ σ p X (fG S1 i Z) (y.set i (Jp (.own t))) (g.set i (Jp v)) :=
 #[s.ff,s.hh,s.dm,s.fn,λb #[j,u,z,x]=>by
  rcases xA z with⟨rfl,_,_⟩| ⟨n,z⟩
  rw[HA]at x;exact(a b x).symm;rw[rA (qB n)]at x;exact s.uu b #[j,u,z,x],
 λj u h e k=>by
  rcases xA e with⟨_,e,_⟩| ⟨n,e⟩
  cases e;rw[rA (qB n),UD n];exact s.bo j u h e k,
 λj h=>by have n:i≠j:=λe=>w (e▸h);rw[UD n];exact s.sg j h]
theorem dL:∀(u:LN) (ds:List D) {ρ x:kA},fB u (ds.map T.d) ρ=Jp x->∀(j:Nat) t,x[j]?=Jp (Jp (.ny t))->t.isD=Jt->j∉u/\ρ[j]?=Jp (Jp (.ny t))
 |[],[],ρ,x,h,j,t,e,hd=>by simp only[wt,fB,Qs]at h;subst h;exact#[(by simp),e]|[],_::_,_,_,h,_,_,_,_=>by simp[fB]at h|_::_,[],_,_,h,_,_,_,_=>by simp[fB]at h|i::u,d::ds,ρ,x,h,j,t,e,hd=>by
  simp only[QT,fB]at h;let#[w,v]:=dL u ds h j t e hd;rcases xA v with⟨_,q,_⟩| ⟨n,q⟩
  injection q with q;injection q with q;subst q;cases hd;exact#[λm=>(QK.mp m).elim (λz=>n z.symm) w,q]
theorem Rl.frz1(I:Rl K F H S ρ σ)(h:ρ[i]?=Jp (Jp (.own t))):Rl K (pH F H (S i)) H (fG S i λ_=>False) (ρ.set i (bD t.er)) σ/\Sts C [] F H S ρ σ (pH F H (S i)) H (fG S i λ_=>False) (ρ.set i (bD t.er)) σ:=by
 let#[v,hv,r]:=I.sl i _ h;have k:=MF (H:=H) λb (hb:S i b)=>(r.dom b hb).2;have O:Rl K F H S (ρ.set i Jr) σ:=I.drop (by simp) λj s e=>by
  rcases xA e with⟨_,z,_⟩| ⟨_,e⟩
  cases z;exact e
 have l:Held F H S (ρ.set i Jr) (S i):=#[r.dom,λj s e b hb z=>by
  rcases xA e with⟨_,q,_⟩| ⟨n,e⟩
  cases q;exact I.dj i j t s n h e b hb z]
 have N:=O.frz l;have f:Rep K (pH F H (S i)) v t.er:=Tr.kept k r λb u hb e=>by rw[oH hb];exact e
 have a:=N.setD i f;have W:(ρ.set i Jr).set i (bD t.er)=ρ.set i (bD t.er):=by simp
 have o:σ.set i (Jp v)=σ:=by apply wY;intro j;rw[wx];split;rename_i e;subst e;split;exact hv.symm;rename_i n;rw[qL ()];rfl
 rw[W,o]at a;refine#[a,#[k,λb u e _=>e,λb e=>e,λb e z=>.inl ?_,λb #[j,u,x,w]=>.inl ?_,λj u _ e m=>?_,λ_ _=>rfl]];by_cases hb:S i b
 ·exact#[i,t,h,hb]
 rw[kC hb]at z;exact gJ e z;rcases xA x with⟨_,q,_⟩| ⟨n,x⟩
 ·cases q
 rw[rA (qB n)]at w;exact#[j,u,x,w];rcases xA e with⟨_,q,_⟩| ⟨n,e⟩
 ·injection q with q;injection q with q;subst q;cases m
 exact#[e,rA (qB n),rfl]
theorem RV{f:Option Sl->Option Sl}:ρ.modify i f=match ρ[i]? with|some o=>ρ.set i (f o)|none=>ρ:=by
 apply wY;intro j;rw[QA3];cases h:ρ[i]? with|none=>simp only;by_cases e:i=j;subst e;simp[h];simp[e]|some o=>simp only;rw[wx];by_cases e:i=j;subst e;let#[hl,rfl]:=Qb.mp h;simp[hl];simp[e]
theorem VO{α:Type}{l:List α}{o:α}(h:l[i]?=Jp o):l.set i o=l:=by apply wY;intro j;rw[wx];split;rename_i e;subst e;rw[Gw (Qb.mp h).1,h];rfl
theorem Rl.frzAt:∀(x:LN) {F:Hp}{S:Ft}{ρ:kA},Rl K F H S ρ σ->∃z S',Rl K z H S' (frzAt x ρ) σ/\Sts C [] F H S ρ σ z H S' (frzAt x ρ) σ
 |[],F,S,ρ,I=>#[F,S,I,.refl]|i::x,F,S,ρ,I=>by
  have one:∃p S1,Rl K p H S1 (ρ.modify i ER) σ/\Sts C [] F H S ρ σ p H S1 (ρ.modify i ER) σ:=by
   rw[RV];cases h:ρ[i]? with
   |none=>exact#[F,S,I,.refl]|some o =>
    cases o with
    |none=>have e:ρ.set i (ER Jr)=ρ:=VO h;simp only[e];exact#[F,S,I,.refl]|some u =>
     cases u with|ny t=>have e:ρ.set i (ER (Jp (.ny t)))=ρ:=VO h;simp only[e];exact#[F,S,I,.refl]|own t=>exact#[_,_,I.frz1 h]
  let#[p,S1,a,w]:=one;let#[B,G,k,v]:=Rl.frzAt x a;exact#[B,G,k,w.trans v]
end
end
noncomputable def OH(C:LN):PT->Bool
 | .seq s r=>OH C s&&OH C r|.set i _=>!C.contains i|.own i _=>!C.contains i|.ife _ a b=>OH C a&&OH C b|.for_ x _ _ h=>x.ix.all (λi=>!C.contains i)&&OH C h|.nil=>Js|.expr _=>Js|.ret _=>Js|.tset y _=>y.all λi=>!C.contains i|.six _ _ _=>Js|.sdf _ _=>Js|.whl _ h=>OH C h|.frz _ s=>OH C s
section
variable{K:QE}{Γ:Ev}{Ψ:PEv}{E:XE}{O:XK}{F H D B F2 N:Hp}{S S1 P:Ft}{ρ A M:kA}{σ G R:St}{C J:LN}
theorem Sts.bind{L:LN}(s:Sts C J F H S ρ σ D B S1 A G)(b:Bd L D B S1 A G F2 N P M R)(v:∀j∈L,j∈J)(w:∀j∈L,j∉C):Sts C J F H S ρ σ F2 N P M R :=
 #[s.ff.trans b.ff,λx u e n=>b.hh x u (s.hh x u e n),λx e=>s.dm x (b.dm x e),λx e z=>by
  by_cases q:D x=Jr;exact .inr (s.dm x (b.fn x q z));exact s.fn x e q,λx u=>s.uu x (b.U u),λj t h e y=>by
  let#[l,i,g]:=b.out j λz=>h (v j z);rw[l]at e;let#[f,a,k]:=s.bo j t h e y;exact#[f,i.trans a,g.trans k],λj h=>(b.out j λz=>w j z h).2.2.trans (s.sg j h)]
theorem aU{g:Tg}{body:PEnds->kA->Prop}{tb:TS}{Z:PEnds}{o:Ends}{xs:List Item}{p:LT}{st:Hp->Prop}{Y:kB}
  (ib:∀{F H:Hp}{S:Ft}{ρ:kA}{σ:St}{Z:PEnds}{o:Ends},Rl K F H S ρ σ->fE K F H S ρ E O->body Z ρ->EndsOk K C F H S ρ σ Z o->tb o σ H)
  (I:Rl K F H S ρ σ) (X:fE K F H S ρ E O) (hC:∀j∈g.ix,j∉C) (pr:Kx (GW K F H Y) xs p) (hy:∀b,Y b->¬ U ρ S b/\H b≠Jr/\F b=Jr) (hst:∀f k,Same F f->Same f k->(∀b,Y b->k b=H b)->st k) (h:sG body g Z p ρ)
  (onx:∀f k S' z w,Sts C g.ix F H S ρ σ f k S' z w->Rl K f k S' z w->Z.nx z->o.nx w k)
  (ort:∀v t W f k S' z w,Stc C F H S ρ σ f k S' z w->Rl K f k S' z w->Tr K f k Js v t W->Held f k S' z W->(∀b,W b->H b=Jr∨U ρ S b)->Z.rt t z->o.rt v k):xf K xs st g tb o σ H:=by
 intro J hJ;have len:=qq pr;have yk:∀{D B:Hp}{S1:Ft}{A:kA}{G:St},Sts C g.ix F H S ρ σ D B S1 A G->∀b,Y b->B b=H b/\D b=none:=λ{D B S1 A G} s b hb=>by
  let#[n,d1,d2]:=hy b hb;refine#[?_,?_];cases e:H b with|none=>exact gJ e d1|some u=>exact s.hh b u e n
  by_cases q:D b=Jr
  ·exact q
  exact((s.fn b d2 q).elim n d1).elim
 refine#[λi m w k=>i<=xs.9/\m=xs.9 - i/\∃z f S',Sts C g.ix F H S ρ σ f k S' z w/\Rl K f k S' z w/\sG body g Z (p.drop i) z,#[_,Q3 _,rfl,ρ,F,S,.refl,I,by simpa using h],?_];rintro i m G B ⟨hi,rfl,A,D,S1,L,I1,h1⟩;have hs:=hst D B L.ff I1.fh λb hb=>(yk L b hb).1;rcases QCJ i xs.9 with l|hge;refine .inr #[hJ.go i B hs l,λw k=>i+1<=xs.9/\∃z f S',Sts C g.ix F H S ρ σ f k S' z w/\Rl K f k S' z w/\sG body g Z (p.drop (i+1)) z,λw k #[a,b]=>#[_,(),a,rfl,b],λx N hyl=>?_];let#[it,hx,hm]:=hJ.yld i B x N hs l hyl;let#[y,hd,ry]:=Paired.get_of pr hx;rw[hd]at h1;unfold sG at h1;have key:L3.bindI K g it G B λR N=>tb { o with nx:=λw k=>i+1<=xs.9/\∃z f S',Sts C g.ix F H S ρ σ f k S' z w/\Rl K f k S' z w/\sG body g Z (p.drop (i+1)) z,ct:=λw k=>i+1<=xs.9/\∃z f S',Sts C g.ix F H S ρ σ f k S' z w/\Rl K f k S' z w/\sG body g Z (p.drop (i+1)) z,bk:=o.nx } R N:=by
  refine nK I1 (λb hb u=>?_) (ry.mono L.ff (yk L)) h1 λM R F2 H3 P bd I2 h2=>?_;rcases L.uu b u with q|q
  ·exact(hy b hb).1 q
  exact(hy b hb).2.1 q;have s2:=L.bind bd (λj hj=>hj) hC;exact ib I2 (X.fromS s2) h2 #[λf k S' z w Q I' q=>#[l,z,f,S',s2.trans Q,I',q],λv t W f k S' z w Q I' r hw fr q=>ort v t W f k S' z w (s2.c.trans Q) I' r hw (Jl s2 fr) q,
   λf k S' z w Q I' q=>onx f k S' z w (s2.trans Q) I' q,λf k S' z w Q I' q=>#[l,z,f,S',s2.trans Q,I',q]]
 exact oK hm key;have e:p.drop i=[]:=WA ();rw[e]at h1;exact .inl #[hJ.stop i B hs hge,onx D B S1 A G L I1 h1]
theorem lF:∀(J:LN) (ρ:kA) (i:Nat) s,(kill J ρ)[i]?=Jp (Jp s)->ρ[i]?=Jp (Jp s)/\(i∈J->∀t,s=.ny t->t.isD=Js)
 |[],ρ,i,s,h=>#[h,λz=>by simp at z]|j::J,ρ,i,s,h=>by
  unfold kill at h;let#[x,w]:=lF J _ i s h;rw[QA3]at x;by_cases e:j=i;subst e;simp only[reduceIte]at x;cases q:ρ[j]? with
  |none=>rw[q]at x;cases x|some o =>
   rw[q]at x;have x:mF o=Jp s:=by simpa using x
   cases o with
   |none=>cases x|some v =>
    cases v with
    |own t=>cases x;exact#[rfl,λ_ u z=>by cases z]|ny t =>
     have x:(if t.isD=Js then Jp (Sl.ny t) else Jr)=Jp s:=x;cases y:t.isD with|true=>rw[y,Gw rfl]at x;cases x;exact#[rfl,λ_ u z=>by cases z;exact y]|false=>rw[y]at x;simp at x
  simp only[e,if_false]at x;refine#[by simpa using x,λm=>w ((QK.mp m).elim (λz=>gJ z.symm e) id)]
theorem SJ:∀(J:LN) (ρ:kA),(kill J ρ).9=ρ.9
 |[],_=>rfl|j::J,ρ=>by unfold kill;rw[SJ J];simp
theorem Sts.kill(s:Sts C J F H S ρ σ D B S1 A G):Sts C [] F H S ρ σ D B S1 (L3.kill J A) G :=
 #[s.ff,s.hh,s.dm,s.fn,λb #[i,t,y,x]=>s.uu b #[i,t,(lF J A i _ y).1,x],λj t _ e h=>by let#[y,x]:=lF J A j _ e;by_cases z:j∈J;rw[x z t rfl]at h;cases h;exact s.bo j t z y h,s.sg]
theorem sP:∀(L:LN) (ρ:kA) (j:Nat),(lock L ρ)[j]?=if j∈L then ρ[j]?.map cF else ρ[j]?
 |[],ρ,j=>by simp[lock]|i::L,ρ,j=>by
  have x:∀o,cF (cF o)=cF o:=λo=>by
   match o with
   |none=>rfl|some (.own _)=>rfl|some (.ny _)=>rfl
  unfold lock;rw[sP L,QA3];by_cases e:i=j;subst e;cases h:ρ[i]? with|none=>simp|some o=>simp[x]
  have y:¬ j=i:=λz=>e z.symm;simp[e,y]
theorem rP:∀(L:LN) (ρ:kA),(lock L ρ).9=ρ.9
 |[],_=>rfl|i::L,ρ=>by unfold lock;rw[rP L];simp
theorem dJ:∀(L:LN) (x ρ:kA) (j:Nat),(∀i∈L,i<ρ.9)->(oC L x ρ)[j]?=if j∈L then Jp (x[j]?.getD Jr) else ρ[j]?
 |[],x,ρ,j,_=>by simp[oC]|i::L,x,ρ,j,h=>by unfold oC;rw[dJ L x _ j (λk hk=>by simpa using h k (QC _ hk)),wx];by_cases e:i=j;subst e;simp[h i QD];have y:¬ j=i:=λz=>e z.symm;simp[e,y]
theorem cJ:∀(L:LN) (h ρ:kA),(oC L h ρ).9=ρ.9
 |[],_,_=>rfl|i::L,h,ρ=>by unfold oC;rw[cJ L];simp
theorem mG{ρ:kA}:∀(x:LN),∀i∈jC ρ x,∃t,ρ[i]?=Jp (Jp (.own t))
 |[],i,h=>by simp[jC]at h|j::x,i,h=>by
  unfold jC at h;split at h
  ·rename_i ho
   rcases QK.mp h with e|e
   ·subst e
    unfold FJ at ho;split at ho;rename_i t e;exact#[t,e]
    all_goals cases ho
   exact mG x i e
  exact mG x i h
theorem DJ{ρ:kA}{i:Nat}{t:T}(h:ρ[i]?=Jp (Jp (.own t))):∀(x:LN),i∈x->i∈jC ρ x
 |[],hi=>by simp at hi|j::x,hi=>by
  unfold jC;rcases QK.mp hi with e|e;subst e;have:FJ ρ[i]?=true:=by rw[h];rfl
  rw[Gw this];exact QD;have:=DJ h x e;split;exact QC _ this;exact this
section
variable{L:LN}(y:∀i∈L,∃t,ρ[i]?=Jp (Jp (.own t)))
include y
theorem oI{i:Nat}{s:Sl}(h:(lock L ρ)[i]?=Jp (Jp s)):(i∈L/\∃t,ρ[i]?=Jp (Jp (.own t))/\s=.ny t)∨(i∉L/\ρ[i]?=Jp (Jp s)):=by rw[sP]at h;by_cases x:i∈L;rw[Gw x]at h;let#[t,e]:=y i x;rw[e]at h;injection h with h;injection h with h;exact .inl #[x,t,e,h.symm];rw[Gq x]at h;exact .inr #[x,h]
theorem pE{b:jy}(h:U (lock L ρ) S b):U ρ S b:=by
 let#[i,t,x,z]:=h;rcases oI y x with⟨_,u,_,e⟩| ⟨_,x⟩
 cases e;exact#[i,t,x,z]
theorem Rl.lock(I:Rl K F H S ρ σ):Rl K F H S (L3.lock L ρ) σ where
 fh:=I.fh
 len:=by rw[rP];exact I.len
 sl:=λi s e=>by
  rcases oI y e with⟨_,t,h,rfl⟩| ⟨_,h⟩
  let#[v,u,x]:=I.sl i _ h;exact#[v,u,x.weak];exact I.sl i s h
 dj:=λi j t s n k w=>by
  rcases oI y k with⟨_,_,_,z⟩| ⟨_,u⟩
  cases z;rcases oI y w with⟨_,a,x,_⟩| ⟨_,x⟩
  ·exact I.dj i j t _ n u x
  exact I.dj i j t s n u x
theorem Rl.lockU(I:Rl K F H S ρ σ){i:Nat}(x:i∈L){b:jy}(hb:S i b):¬ U (L3.lock L ρ) S b:=λ#[j,t,h,v]=>by
 let#[w,e]:=y i x;rcases oI y h with⟨_,_,_,z⟩| ⟨u,h⟩
 cases z;exact I.dj j i t _ (λz=>u (z▸x)) h e b v hb
theorem EU(I:Rl K F H S ρ σ)(s:Sts C [] F H S (lock L ρ) σ D B S1 A G)(W:Rl K D B S1 A G)(hl:∀i∈L,A[i]?=ρ[i]?.map cF) :
  ∃P,Rl K D B P (oC L ρ A) G/\Sts C [] F H S ρ σ D B P (oC L ρ A) G:=by
 classical
 have l1:∀i∈L,∃t,ρ[i]?=Jp (Jp (.own t))/\A[i]?=Jp (Jp (.ny t)):=λi h=>by let#[t,e]:=y i h;have:=hl i h;rw[e]at this;exact#[t,e,this]
 have hlt:∀i∈L,i<A.length:=λi h=>by let#[t,_,e]:=l1 i h;exact(Qb.mp e).1
 let P:Ft:=λi=>if i∈L then S i else S1 i
 have l:∀i∈L,P i=S i:=λi h=>Gw h;have g:∀i,i∉L->P i=S1 i:=λi h=>Gq h;have get:∀i a,(oC L ρ A)[i]?=Jp (Jp a)->(i∈L/\∃t,ρ[i]?=Jp (Jp (.own t))/\A[i]?=Jp (Jp (.ny t))/\a=.own t)∨(i∉L/\A[i]?=Jp (Jp a)):=λi a e=>by rw[dJ L ρ A i hlt]at e;by_cases h:i∈L;rw[Gw h]at e;let#[t,f,Y]:=l1 i h;rw[f]at e;injection e with e;have e:Jp (Sl.own t)=Jp a:=e;injection e with e;exact .inl #[h,t,f,Y,e.symm];rw[Gq h]at e;exact .inr #[h,e]
 have Q:∀i∈L,∀k a,k∉L->A[k]?=Jp (Jp a)->∀b,S i b->¬ S1 k b:=λi h k a hk e b hb z=>by
  let#[t,f,_]:=l1 i h;cases a with
  |own u=>rcases s.uu b ⟨k,u,e,z⟩ with q|q;exact I.lockU y h hb q;exact(I.dom f hb).1 q
  |ny u =>
   cases o:u.isD with
   |true=>exact W.isD e o z|false =>
    let#[m,p,_]:=s.bo k u (by simp) e o;rw[p]at z;rcases oI y m with⟨q,_⟩| ⟨_,m⟩
    exact hk q;exact I.dj i k t _ (λq=>hk (q▸h)) f m b hb z
 refine#[P,#[W.fh,by rw[cJ];exact W.len,λi a e=>?_,λi k t a n f Y b hb hk=>?_],#[s.ff,λb u e n=>s.hh b u e λz=>n (pE y z),s.dm,λb e z=>(s.fn b e z).imp (pE y) id,λb #[i,t,h1,h2]=>?_,λj t _ e o=>?_,s.sg]];rcases get i a e with⟨h,t,f,Y,rfl⟩| ⟨h,f⟩
 ·rw[l i h]
  let#[v,m,p]:=I.sl i _ f;cases o:t.isD with
  |true =>
   let#[v',g3,g4]:=W.sl i _ Y;refine#[v',g3,?_];have nb:∀b,¬ S i b:=λb=>I.isD f o;cases t with
   |d x =>
    have g4:Tr K D B Jt v' (.d x) (S1 i):=g4;cases g4 with|d r _=>exact .d r nb
   |_=>cases o
  |false =>
   let#[_,_,g5]:=s.bo i t (by simp) Y o;refine#[v,g5.trans m,?_];have p:Tr K F H Js v t (S i):=p;refine p.mono s.ff λb hb=>?_;let#[d1,d2]:=p.dom b hb;have nu:=I.lockU y h hb;refine#[?_,?_];cases eb:H b with|none=>exact gJ eb d1|some u=>exact s.hh b u eb nu
   by_cases q:D b=Jr
   ·exact q
   exact((s.fn b d2 q).elim nu d1).elim
 rw[g i h];exact W.sl i a f;rcases get i _ f with⟨h,t',X,a2,_⟩| ⟨h,X⟩
 ·rw[l i h]at hb
  rcases get k a Y with⟨w,t2,Z,b2,_⟩| ⟨w,Z⟩
  rw[l k w]at hk;exact I.dj i k t' _ n X Z b hb hk;rw[g k w]at hk;exact Q i h k a w Z b hb hk
 rw[g i h]at hb;rcases get k a Y with⟨w,t2,Z,b2,_⟩| ⟨w,Z⟩
 rw[l k w]at hk;exact Q k w i _ h X b hk hb;rw[g k w]at hk;exact W.dj i k t a n X Z b hb hk;rcases get i _ h1 with⟨h,t',X,a2,_⟩| ⟨h,X⟩
 ·rw[l i h]at h2
  exact .inl #[i,t',X,h2]
 rw[g i h]at h2;exact(s.uu b #[i,t,X,h2]).imp (pE y) id;rcases get j _ e with⟨_,_,_,_,z⟩| ⟨hj,f⟩
 ·cases z
 let#[m,p,g3]:=s.bo j t (by simp) f o;rcases oI y m with⟨q,_⟩| ⟨_,m⟩
 exact gJ q hj;exact#[m,(g j hj).trans p,g3]
end
theorem EM{i:Nat}(h:(!C.contains i)=Js):i∉C:=λz=>by have:C.contains i=true:=Qr.mpr z;rw[this]at h;cases h
theorem uP{x:LN}(h:(x.all λi=>!C.contains i)=Js):∀i∈x,i∉C:=λi y=>EM (qN.mp h i y)
theorem FU:∀{xs:List (T×Bool)},yO xs=Js->∀t∈OK xs,t.isD=Js
 |[],_,t,h=>by simp[OK]at h|p::r,h,t,y=>by
  simp only[yO,Qf]at h;simp only[OK,QK]at y;rcases y with rfl|y;let#[x,n]:=p;cases n with
  |true=>rfl|false =>
   have z:=h.1;cases x with|d x=>rfl|_=>cases z
  exact FU h.2 t y
theorem Tn.bare{Y:kB}{vs:LV}{ts:LT}(h:Tn K F H Y vs ts):(∀t∈ts,t.isD=Js)->Tn K F H (λ_=>False) vs ts:=by
 induction h with
 |nil=>exact λ_=>.nil|@cons v t vs ts Z r z a w =>
  intro y;refine .cons (Z:=λ_=>False) ?_ (λ_ z=>z) (w λu k=>y u (QC _ k));have y:=y t QD;cases t with
  |d x=>cases r with|d q _=>exact .d q λ_ z=>z
  |_=>cases y
theorem SX{v:V}{t:T}{W:kB}{Z:PEnds}{h:Ends}(ok:EndsOk K C F H S ρ σ Z h)(s:Ste F H S ρ D B S1 A)(I:Rl K D B S1 A σ)(r:Tr K D B Js v t W)(x:Held D B S1 A W)(y:∀b,W b->H b=Jr∨U ρ S b)(q:Z.rt t A):h.rt v B :=
 ok.rt v t W D B S1 A σ (s.toStp.sts (J:=[])).c I r x y q
theorem M4(g:GOk K Γ Ψ):∀(e:PX) {F H:Hp}{S:Ft}{ρ:kA}{σ:St}{Z:PEnds}{k:Ends},Rl K F H S ρ σ->fE K F H S ρ E O->XI Ψ E Z.rt e ρ->EndsOk K C F H S ρ σ Z k->(wp K Γ e O).e σ H k.rt:=by
  intro e F H S ρ σ Z k I X h ok;have f:∀e,(pe Ψ e E).e ρ (λx n A=>zG x n=Js/\Z.rt x A)->(wp K Γ e O).e σ H k.rt:=λe h=>by refine(XA g e).e (Q:=λx n A=>zG x n=Js/\Z.rt x A) I X h λv F' H' S' l x n Za s J r #[Y,q]=>?_;let#[W,m,o,fr]:=r.strict Y;exact SX ok s J m o fr q
  cases e with
  |kw i =>
   have y:Kk ρ i Z.rt ρ[i]?:=h;show(match σ[i]? with|some (Jp v)=>k.rt v _|_=>False)
   match a:ρ[i]?,y with
   |some (Jp (.own t)),y =>
    let#[v,w,r]:=I.sl i _ a;rw[w];have I0:Rl K F H S (ρ.set i Jr) σ:=I.drop (by simp) λj s e=>by
     rcases xA e with⟨_,z,_⟩| ⟨_,e⟩
     cases z;exact e
    refine ok.rt v t (S i) F H S (ρ.set i Jr) σ #[.refl _,λb u e _=>e,λb e=>e,λb e z=>gJ e z,λb #[j,u,w,L]=>.inl ?_,λ_ _=>rfl] I0 r #[r.dom,λj s e b hb z=>?_] (λb hb=>.inr #[i,t,a,hb]) y;rcases xA w with⟨_,z,_⟩| ⟨_,w⟩
    ·cases z
    exact#[j,u,w,L];rcases xA e with⟨_,q,_⟩| ⟨n,e⟩
    ·cases q
    exact I.dj i j t s n a e b hb z
   |some (Jp (.ny t)),y =>
    let#[v,w,r]:=I.sl i _ a;rw[w];let#[p,y]:=y;cases t with
    |d x =>
     have r:Tr K F H Jt v (.d x) (S i):=r;cases r with|d q n=>exact SX (W:=λ_=>False) ok .refl I (.d q λ_ z=>z) .none (λ_ z=>z.elim) y
    |_=>cases p
   |some Jr,y=>exact y.elim|none,y=>exact y.elim
  |_=>exact f _ h
theorem jH(g:GOk K Γ Ψ):∀(p:PT) {F H:Hp}{S:Ft}{ρ:kA}{σ:St}{Z:PEnds}{Dn:Ends},OH C p=Js->Rl K F H S ρ σ->fE K F H S ρ E O->lB Ψ E p Z ρ->EndsOk K C F H S ρ σ Z Dn->gO K Γ O p Dn σ H
 | .nil,_,_,_,_,_,_,_,c,I,X,h,ok=>ok.nx _ _ _ _ _ .refl I h|.seq s r,_,_,_,_,_,_,_,c,I,X,h,ok=>by let#[c1,c2]:=yA c;exact jH g s c1 I X h #[λF' H' S' L σ' s' J q=>jH g r c2 J (X.fromS s') q (ok.from s'),ok.rt,ok.bk,ok.ct]|.set i e,F,H,S,ρ,σ,Z,Dn,c,I,X,h,ok=>by have hi:=EM c;refine rD (RR:=λx B=>Dn.nx (σ.set i (Jp x)) B) (XA g e) I X h λv F' H' S' L x n Za s J X' r er _ #[he,q]=>?_;exact ok.nx _ _ _ _ _ (s.toStp.sts.setD i hi v rfl _) (J.setD i (er he)) q|.expr e,F,H,S,ρ,σ,Z,Dn,c,I,X,h,ok=>(XA g e).e I X h λv F' H' S' L x n Za s J r q=>ok.nx _ _ _ _ _ s.toStp.sts J q|.ret e,F,H,S,ρ,σ,Z,Dn,c,I,X,h,ok=>M4 g e I X h ok|.ife t a b,F,H,S,ρ,σ,Z,Dn,c,I,X,h,ok=>by
  let#[c1,c2]:=yA c;refine(XA g t).t I X h λk F' H' S' L s J q=>?_;cases k with|true=>exact jH g a c1 J (X.from s.toStp) q (ok.from s.toStp.sts)|false=>exact jH g b c2 J (X.from s.toStp) q (ok.from s.toStp.sts)
 | .for_ tg ik its body,F,H,S,ρ,σ,Z,Dn,c,I,X,h,ok=>by
  let#[c1,c2]:=yA c;have hC:=uP c1;refine ZS (RR:=λvs B=>dC K ik vs B λxs st N=>xf K xs st tg (gO K Γ O body) Dn σ N) (XA g its) I X h λvs D B S1 A xs Y s1 I1 X1 tn tm q=>?_;rw[kJ _ rfl]at q;have ok1:=ok.from s1.toStp.sts;cases ha:yO xs with
  |true=>have tn':=tn.bare (FU ha);refine SH I1.fh tn' q λits ys st pr hst hc=>?_;rw[ha,Gw rfl]at hc;refine aU (λI X h ok=>jH g body c2 I X h ok) I1 X1 hC pr (λb z=>z.elim) hst hc ?_ ?_;exact λF' H' S' L σ' s' I' q=>ok1.nx _ _ _ _ _ s'.kill (I'.drop (SJ _ _) λi sl e=>(lF _ _ i sl e).1) q;exact λv t W F' H' S' L σ' s' I' r hw fr q=>ok1.rt v t W F' H' S' L σ' s' I' r hw fr q|false =>
   refine SH I1.fh tn q λits' ys st pr hst hc=>?_;rw[ha,Gq (by simp)]at hc;have hL:=mG (ρ:=A) (SF its);have IL:=I1.lock hL;have sL:Sts C [] D B S1 A σ D B (λ_ _=>False) [] σ:=#[.refl _,λb u e _=>e,λb e=>e,λb e z=>gJ e z,λb #[i,t,e,_]=>by simp at e,λj t _ e=>by simp at e,λ_ _=>rfl]
   have XL:fE K D B S1 (lock (jC A (SF its)) A) E O:=λx dx F2 N P M s2 f r q =>
    X1 x dx F2 N (λ_ _=>False) [] #[s2.ff,λb u e n=>s2.hh b u e λz=>n (pE hL z),s2.dm,λb e z=>(s2.fn b e z).imp (pE hL) id,λb #[i,t,e,_]=>by simp at e,λj t e=>by simp at e] f r q
   refine aU (λI X h ok=>jH g body c2 I X h ok) IL XL hC pr (λb hb=>?_) hst hc ?_ ?_;let#[i,sl,h1,h2,h3]:=tm b hb;refine#[λu=>?_,I1.dom h2 h3];cases sl with
   |own t=>exact I1.lockU hL (DJ h2 _ h1) h3 u|ny t =>
    let#[j,t',e1,e2]:=u;rcases oI hL e1 with⟨_,_,_,z⟩| ⟨_,e1⟩
    cases z;exact I1.dj j i t' _ (λz=>by subst z;rw[h2]at e1;cases e1) e1 h2 b e2 h3
   intro F' H' S' L σ' s' I' #[q1,q2];have sk:=s'.kill;have Ik:=I'.drop (SJ tg.ix L) λi sl e=>(lF _ _ i sl e).1;let#[P,I2,s2]:=EU hL I1 sk Ik λi hi=>(q1 i hi).2;exact ok1.nx _ _ _ _ _ s2 I2 q2;intro v t W F' H' S' L σ' s' I' r hw fr q;exact ok1.rt v t W F' H' S' L σ' #[s'.ff,λb u e n=>s'.hh b u e λz=>n (pE hL z),s'.dm,λb e z=>(s'.fn b e z).imp (pE hL) id,λb u=>(s'.uu b u).imp (pE hL) id,s'.sg] I' r hw (λb hb=>(fr b hb).imp id (pE hL)) q
 | .own i e,F,H,S,ρ,σ,Z,Dn,c,I,X,h,ok=>by refine(XA g e).e (Q:=λx n A=>zG x n=Js/\Z.nx (A.set i (Jp (.own x)))) I X h λv F' H' S' L x n Za s J r #[he,q]=>?_;let#[W,r2,hw,fr]:=r.strict he;exact ok.nx _ _ _ _ _ (s.toStp.sts.setN i (EM c) v x fr) (J.setN i r2 λj sl _ e b hb=>hw.nw j sl e b hb) q|.tset is e,F,H,S,ρ,σ,Z,Dn,c,I,X,h,ok=>by
  have hc:=uP c;refine rD (RR:=λx B=>vE K (.tp is) x σ B Dn.nx) (XA g e) I X h λv F' H' S' L x n Za s J X' r er _ #[he,q]=>?_;have q2:JI (.tp is) (.d x.er) L λM=>Z.nx M/\∀(j:Nat) t,M[j]?=Jp (Jp (.ny t))->t.isD=Jt->j∉is:=by
   generalize x.er=d at q;cases d with
   |tuple ds=>let#[M,e,q]:=q;exact#[M,e,q,λj t h1 h2=>(dL is ds e j t h1 h2).1]|dict kvs =>
    have q:(match iB kvs with | .tp ts=>∃M,fB is ts L=Jp M/\Z.nx M|_=>False):=q;unfold iB at q;cases ek:iC kvs with|none=>rw[ek]at q;exact q.elim|some b=>rw[ek]at q;exact q.elim
   |_=>exact q.elim
  refine nK (Y:=λ_=>False) (it:=.one v) J (λb z=>z.elim) #[λ_=>False,.d (er he) λ_ z=>z,λ_ z=>z] q2 λM R F2 N P bd J2 qn=>?_;have st:=(s.toStp.sts (σ:=σ) (C:=C) (J:=is)).bind bd (λj hj=>hj) hc;exact ok.nx _ _ _ _ _ #[st.ff,st.hh,st.dm,st.fn,st.uu,λj t _ e hd=>st.bo j t (qn.2 j t e hd) e hd,st.sg] J2 qn.1
 | .six o i e,F,H,S,ρ,σ,Z,Dn,c,I,X,h,ok=>by
  have later:∀{j:Nat}{t:T}{v0:V},ρ[j]?=Jp (Jp (.own t))->Tr K F H Js v0 t (S j)->∀{F' H':Hp}{S':Ft}{L:kA},Ste F H S (ρ.set j (Jp (.ny t))) F' H' S' L->Tr K F' H' Js v0 t (S j)/\∀b,S j b->H' b=H b:=λ{j t v0} hj r0 {F' H' S' L} s=>#[s.toStp.keep r0 (I.lock1U hj),λb hb=>by
   cases e:H b with|none=>exact gJ e (r0.dom b hb).1|some u=>exact s.hh b u e (I.lock1U hj b hb)]
  cases o with
  |kw j =>
   have h:zD ρ[j]? _:=h;unfold zD at h;split at h;rename_i t hj;let#[v0,hv,r0]:=I.sl j _ hj;have r0:Tr K F H Js v0 t (S j):=r0;show(wp K Γ e O).e σ H λv B=>(wp K Γ (.kw j) O).e σ B λov N=>(wp K Γ i O).e σ N λiv H3=>UO K ov iv v H3 λH4=>Dn.nx σ H4;refine rD (XA g e) (I.lock1 hj) (X.lock1 hj) h λxv D B S1 A x n Zx s1 I1 X1 _ er1 _ #[he,q1]=>?_;have rx:=er1 he;show(match σ[j]? with|some (Jp v)=>_|_=>False);rw[hv];refine rD (XA g i) I1 X1 q1 λiv F2 N P M y m Zy s2 I2 X2 _ er2 _ #[he2,hj2,q2]=>?_;have s12:=s1.trans s2;refine rX I2.fh (later hj r0 s12).1 (er2 he2) (rx.mono s2.ff) q2 λt' H3 S3 hh dm rt sub q=>?_;let#[st,I3,_]:=AG (W:=λ_=>False) I hj hv s12 I2 hh dm rt (λb hb=>.inl (sub b hb)) .none (λ_ z=>z.elim);exact ok.nx _ _ _ _ _ st.toStp.sts I3 q
   all_goals exact h.elim
  |idx a k =>
   cases a with
   |kw j =>
    have h:zD ρ[j]? _:=h;unfold zD at h;split at h;rename_i t hj;let#[v0,hv,r0]:=I.sl j _ hj;have r0:Tr K F H Js v0 t (S j):=r0;show(wp K Γ e O).e σ H λv B=>(wp K Γ (.kw j) O).e σ B λov N=>(wp K Γ k O).e σ N λzv H3=>nV K ov zv H3 λow H4=>(wp K Γ i O).e σ H4 λiv H5=>UO K ow iv v H5 λH6=>Dn.nx σ H6;refine rD (XA g e) (I.lock1 hj) (X.lock1 hj) h λxv D B S1 A x n Zx s1 I1 X1 _ er1 _ #[he,q1]=>?_;have rx:=er1 he;show(match σ[j]? with|some (Jp v)=>_|_=>False);rw[hv];refine rD (XA g k) I1 X1 q1 λzv F2 N P M z l Zz s2 I2 X2 _ er2 _ #[hez,b,ks,ts,n,s,et,hk,hf,ht,q2]=>?_;have s12:=s1.trans s2;have rz:=er2 hez;subst et;let#[r2,k2]:=later hj r0 s12;obtain⟨a,o,vs,ea,ho,dk,hw⟩:∃a o vs,v0=.ref a/\N a=Jp o/\dI K F2 b o ks vs/\∃w,vs[n]?=Jp w/\S j a:=by
     cases r2 with|dct h1 dk h2 h3 h4 h5=>let#[w,_,g1,_]:=h3.get ht;exact#[_,_,_,rfl,h1,dk,w,g1,(h5 _).mpr (.inl rfl)]
    let#[w,hw,sa]:=hw;subst ea;have gd:=(dk.mono I2.fh).get ho (rz.mono I2.fh) hk;rw[hf]at gd;have gd:uO K N a zv (vs[n]?):=gd;rw[hw]at gd;have fin:(wp K Γ i O).e σ N λiv H5=>UO K w iv xv H5 λH6=>Dn.nx σ H6:=by
     refine rD (XA g i) I2 X2 q2 λiv F3 H3 S3 ρ3 y m Zy s3 I3 X3 _ er3 _ #[he3,hj3,q3]=>?_;have s13:=s12.trans s3;let#[r3,k3]:=later hj r0 s13;have ho3:H3 a=Jp o:=by rw[k3 a sa,<- k2 a sa];exact ho
     refine Y4 I3.fh r3 ho3 dk hw ht (er3 he3) ((rx.mono s2.ff).mono s3.ff) q3 λt' H4 S4 hh dm rt sub q=>?_;let#[st,I4,_]:=AG (W:=λ_=>False) I hj hv s13 I3 hh dm rt (λb hb=>.inl (sub b hb)) .none (λ_ z=>z.elim);exact ok.nx _ _ _ _ _ st.toStp.sts I4 q
    cases zv with|str z=>exact#[w,gd,fin]|ref c=>exact#[w,gd,fin]|_=>exact gd.elim
    all_goals exact h.elim
   |_=>exact h.elim
  |_=>exact h.elim
 | .sdf j k,F,H,S,ρ,σ,Z,Dn,c,I,X,h,ok=>by
  have h:zD ρ[j]? _:=h;unfold zD at h;split at h;rename_i t hj;let#[v0,hv,r0]:=I.sl j _ hj;have r0:Tr K F H Js v0 t (S j):=r0;let#[hd,h]:=h;show(match σ[j]? with|some (Jp v)=>NW K "dict" v H/\(wp K Γ k O).e σ H λx B=>∀p,B p=Jr->MI K v [x,.ref p] (KA B p (.dT 0 [])) λ_ N=>Dn.nx σ N|_=>False);rw[hv];constructor;cases r0 with
  |@dct _ b _ _ _ _ _ _ _ h1 dk _ _ _ _ =>
   cases b with|true=>let#[ep,kvs,rfl,_]:=dk;exact .inr (.inr (.inl #[rfl,.inr #[ep,kvs,h1]]))|false=>cases hd
  |_=>cases hd
  refine rD (XA g k) (I.lock1 hj) (X.lock1 hj) h λiv D B S1 A y m Zy s1 I1 X1 _ er _ #[he,hj1,q1]=>?_;intro p hp;have r1:=s1.toStp.keep r0 (I.lock1U hj);refine Jb I1.fh hp r1 (er he) q1 λt' H3 S3 hh dm rt sub q=>?_;let#[st,I3,_]:=AG (W:=λ_=>False) I hj hv s1 I1 hh dm rt (λb hb=>(sub b hb).imp id λ(z:b=p)=>.inr (by rw[z];exact hp)) .none (λ_ z=>z.elim);exact ok.nx _ _ _ _ _ st.toStp.sts I3 q
  all_goals exact h.elim
 | .whl t body,F,H,S,ρ,σ,Z,Dn,c,I,X,h,ok=>by
  let#[W,#[m0,w0],turn]:=h;refine#[λm σ' H'=>∃L F' S',Sts C [] F H S ρ σ F' H' S' L σ'/\Rl K F' H' S' L σ'/\W m L,#[m0,ρ,F,S,.refl,I,w0],?_];rintro m G B ⟨A,D,S1,s1,I1,w1⟩;refine(XA g t).t I1 (X.fromS s1) (turn m A w1) λk F' H' S' L s' J q=>?_;have s2:=s1.trans s'.toStp.sts;cases k with
  |false=>exact ok.nx _ _ _ _ _ s2 J q|true =>
   refine#[λσ' H'=>∃m',m' < m/\∃L F' S',Sts C [] F H S ρ σ F' H' S' L σ'/\Rl K F' H' S' L σ'/\W m' L,λ_ _ z=>z,?_];refine jH g body c J (X.fromS s2) q #[?_,?_,?_,?_];exact λF' H' S' L σ' s' I' #[m',hm,w]=>#[m',hm,L,F',S',s2.trans s',I',w]
   exact λv t W F' H' S' L σ' s' I' r hw fr q=>ok.rt v t W F' H' S' L σ' (s2.c.trans s') I' r hw (Jl s2 fr) q;exact λF' H' S' L σ' s' I' q=>ok.nx _ _ _ _ _ (s2.trans s') I' q;exact λF' H' S' L σ' s' I' #[m',hm,w]=>#[m',hm,L,F',S',s2.trans s',I',w]
 | .frz is s,F,H,S,ρ,σ,Z,Dn,c,I,X,h,ok=>by let#[F',S',I',s']:=I.frzAt (C:=C) is;exact jH g s c I' (X.fromS s') h (ok.from s')
end
section
variable{z:Ev}{n:Need}
noncomputable def Mj(x:Str)(n:String):Bool:=(x==("bool":Str)&&n == "bool")||(x==("int":Str)&&n == "int")||(x==("str":Str)&&n == "str")||(x==("list":Str)&&n == "list")||(x==("tuple":Str)&&n == "tuple")||(x==("ValueError":Str)&&n == "ValueError")
theorem jb{x:Str}{n:String}(h:Mj x n=Js):Kp x=Jp (.type n):=by simp only[Mj,w8,Qf,beq_iff_eq]at h;rcases h with((((⟨rfl,rfl⟩| ⟨rfl,rfl⟩)|⟨rfl,rfl⟩)|⟨rfl,rfl⟩)|⟨rfl,rfl⟩)|⟨rfl,rfl⟩<;>kernel_rfl
structure Need where
 fn:LS
 va:LS
 no:LS
noncomputable def xl(n:Need):ItK->Bool
 | .val=>Js|.rng1=>n.no.contains ("range":Str)|.enum=>n.no.contains ("enumerate":Str)|.itm=>Js
def EA(n:Need):PX->Bool
 | .glo x=>n.va.contains x|.bty x t=>n.no.contains x&&Mj x t|.bin _ a b | .cmp _ a b | .and a b | .or a b | .idx a b | .nq a b | .dsp a b=>EA n a&&EA n b
 | .not a | .neg a | .lst a | .tup a=>EA n a
 | .slc a b c=>EA n a&&(EA n b&&EA n c)|.lset a=>n.no.contains "len" && (n.no.contains "set" && EA n a)|.sset a=>n.no.contains "sorted" && (n.no.contains "set" && EA n a)|.call f y=>n.fn.contains f&&EA n y|.bi f y=>n.no.contains f.nm&&EA n y|.isi a c=>n.no.contains ("isinstance":Str)&&(EA n a&&EA n c)|.mt _ o y=>EA n o&&EA n y|.comp _ _ _ w u h v=>xl n w&&(EA n u&&(EA n h&&EA n v))|_=>Js
def nE(n:Need):PT->Bool
 | .seq s r=>nE n s&&nE n r|.set _ e=>EA n e|.own _ e=>EA n e|.expr e=>EA n e|.ret e=>EA n e|.ife c a b=>EA n c&&(nE n a&&nE n b)|.for_ _ y x h=>xl n y&&(EA n x&&nE n h)|.tset _ e=>EA n e|.six o i e=>EA n o&&(EA n i&&EA n e)|.sdf i k=>EA n (Kg i k)|.whl c b=>EA n c&&nE n b|.frz _ s=>nE n s|.nil=>Js
noncomputable def JN(z:Ev)(n:Need):Glob:=#[z,λf=>f∈n.fn,λx=>x∈n.va,λx=>x∈n.no]
theorem SZ{x:ItK}(h:xl n x=Js):Nh (JN z n) x:=by
 cases x with|val=>trivial|itm=>trivial|_=>exact Qr.mp h
theorem sC:∀(p:PX),EA n p=Js->BA (JN z n) p:=by
 intro p;induction p with
 |glo x=>intro h;exact Qr.mp h|bty x t=>intro h;let#[v,u]:=yA h;exact#[Qr.mp v,jb u]|bin _ a b y w|cmp _ a b y w|and a b y w|or a b y w|idx a b y w|nq a b y w|dsp a b y w=>intro h;let#[v,u]:=yA h;exact#[y v,w u]
 |not a y|neg a y|lst a y|tup a y=>intro h;exact y h
 |slc a b c y w i=>intro h;let#[v,e]:=yA h;let#[u,k]:=yA e;exact#[y v,w u,i k]|call f l y=>intro h;let#[v,u]:=yA h;exact#[Qr.mp v,y u]|lset a y=>intro h;let#[v,u]:=yA h;let#[k,g]:=yA u;exact#[Qr.mp v,Qr.mp k,y g]|sset a y=>intro h;let#[v,u]:=yA h;let#[k,g]:=yA u;exact#[Qr.mp v,Qr.mp k,y g]|bi f l y=>intro h;let#[v,u]:=yA h;exact#[Qr.mp v,y u]|isi a c y i=>intro h;let#[v,e]:=yA h;let#[u,k]:=yA e;exact#[Qr.mp v,y u,i k]|mt _ o l q y=>intro h;let#[v,u]:=yA h;exact#[q v,y u]|comp _ _ _ Z m j Y X s r=>intro h;let#[v,h]:=yA h;let#[u,h]:=yA h;let#[k,g]:=yA h;exact#[SZ v,X u,s k,r g]|_=>intro _;trivial
theorem DV:∀(p:PT),nE n p=Js->mE (JN z n) p:=by
 intro p;induction p with
 |seq s r f l=>intro h;let#[u,y]:=yA h;exact#[f u,l y]|set _ e|own _ e|expr e|ret e|tset _ e=>intro h;exact sC _ h
 |six o i e=>intro h;let#[u,x]:=yA h;let#[y,w]:=yA x;exact#[sC _ u,sC _ y,sC _ w]|sdf i k=>intro h;exact sC _ h|frz _ s f=>intro h;exact f h|whl c b v=>intro h;let#[u,y]:=yA h;exact#[sC _ u,v y]|ife c a b m v=>intro h;let#[u,x]:=yA h;let#[y,w]:=yA x;exact#[sC _ u,m y,v w]|for_ _ q j g v=>intro h;let#[u,x]:=yA h;let#[y,w]:=yA x;exact#[SZ u,sC _ y,v w]|_=>intro _;trivial
noncomputable def yK(N h:LS)(sc:Kw):Bool:=sc.kind==.function&&!sc.isCoroutine&&!sc.isGenerator&&NH N&&N.take h.9==h &&
 h.all (λx=>sc.names.lookup x==Jp .local||sc.names.lookup x==Jp .cell)&&sc.names.all λy=>y.2 != .free
theorem tI{N x:LS}{sc:Kw}(h:yK N x sc=Js):FnScope N x sc:=by simp only[yK,Qf,qN,w8,beq_iff_eq,Qp,bne_iff_ne,ne_eq]at h;let#[#[#[#[#[#[b,a],k],w],v],u],y]:=h;exact#[b,a,k,ED w,v,u,y]
def ZC(n:Need)(b:PT)(N h:LS)(st:Ku):Bool:=yK N h (CA st)&&CN b #[N,CA st] (vC st)&&nE n b
def vc:Md->T->Sl
 | .chg,t=>.own t|_,t=>.ny t
noncomputable def BD:List Md->LT->kA
 |_,[]=>[]|md,t::ts=>Jp (vc (md.headD .kq) t)::BD md.tail ts
def LA(N:LS)(md:List Md)(ts:LT):kA:=BD md ts++Q8 (N.9 - ts.9) Jr
noncomputable def XB:Nat->List Md->Nat->LN
 |_,_,0=>[]|k,md,n+1=>match md.headD .kq with
  | .chg=>k::XB (k+1) md.tail n|_=>XB (k+1) md.tail n
def KY:Option (LT)->(LT->Prop)->Prop
 |some os,Q=>Q os|none,_=>False
def YC(P:PSp)(n:Nat)(Q:T->LT->Prop):PEnds where
 nx:=λh=>KY (NA (XB 0 P.md n) h) (Q (.d .none))
 rt:=λt h=>KY (NA (XB 0 P.md n) h) (Q t)
abbrev jn(Ψ:PEv)(b:PT)(p:PSp)(N h:LS)(ds:LT)(Q:T->LT->Prop):Prop:=ds.9=h.9/\pF Ψ b (YC p h.9 Q) (LA N p.md ds)
abbrev MU(Ψ:PEv)(b:PT)(p:PSp)(N x:LS):Prop:=∀(h:LT) (Q:T->LT->Prop) (E:XE),p.run h Q E->h.9=x.9/\pF Ψ b (YC p x.9 Q) (LA N p.md h)
def HQ(h:Str->Option Ju)(x:Str):V:=((h x).bind FI).getD .non
def Ah(K:QE)(h:Str->Option Ju)(Ψ:PEv):Ev:=#[λf=>lift K (Ψ.sp f),HQ h]
structure ValsOk(P:jv)(w:jr)(K:QE)(mg:Str->Option Ju)(Ψ:PEv)(va:LS):Prop where
 rep:∀x d,Ψ.va x=Jp d->∀F,Rep K F (HQ mg x) d
 has:∀x∈va,∃u v,mg x=Jp u/\FI u=Jp v
theorem oT{u:Ju}{v:V}(h:FI u=Jp v):lA v u:=by cases u<;>first | (obtain rfl:=Qy h;first|rfl|exact#[_,rfl])|exact nomatch (show(none:Option V)=Jp v from h)
end
section
variable{P:jv}{w:jr}{K:QE}{mg:Str->Option Ju}{base:js}{Ψ:PEv}
section
variable{k:Nat}{F H:Hp}{Y M:kB}{md:List Md}{vs:LV}{ts:LT}{N l:LS}{R:PSp}{x o:Str}{st:Ku}{f:jy}{p:Kr}{b:PT}{n:Need}
def UC(P:jv)(w:jr)(K:QE)(mg:Str->Option Ju)(base:js)(Ψ:PEv)(k:Nat)(f:Str):Prop :=
 ∃(a:jy) (p:Kr) (l:LS),FnOk P w K mg base AW k a p l (lift K (Ψ.sp f))/\mg f=Jp (.ref a)/\Wm K (.ref a)=Js/\cG K p l []
theorem UC.mono{j:Nat}{f:Str}(h:UC P w K mg base Ψ j f)(hk:j<=k):UC P w K mg base Ψ k f:=by let#[a,p,l,z,y]:=h;exact#[a,p,l,z.mono hk,y]
theorem ArgsR.length(h:ArgsR K F H Y md vs ts):vs.9=ts.length:=by
 induction h with|nil=>rfl|chg _ _ e=>exact gV Nat.succ e|rd _ _ _ _ e=>exact gV Nat.succ e
theorem vH:∀(m:List Md) (ts:LT),(BD m ts).9=ts.9
 |_,[]=>rfl|m,d::ds=>by unfold BD;rw[QL,QL,vH]
theorem JY{m:Md}(h:m≠.chg)(t:T):vc m t=.ny t:=by cases m<;>first|rfl|exact gJ rfl h
theorem pG(md:List Md)(v:V)(vs:LV):uB md (v::vs)=match md.headD .kq with | .chg=>v::uB md.tail vs|_=>uB md.tail vs:=by first | (rw[uB];done) | (rw[uB];cases md.headD .kq<;>rfl)
theorem PJ(md:List Md)(v:T)(vs:LT):YB md (v::vs)=match md.headD .kq with | .chg=>v::YB md.tail vs|_=>YB md.tail vs:=by first | (rw[YB];done) | (rw[YB];cases md.headD .kq<;>rfl)
theorem aL(md:List Md)(t:T)(ts:LT):BD md (t::ts)=Jp (vc (md.headD .kq) t)::BD md.tail ts:=by rw[BD]
theorem O7(h:ArgsR K F H Y md vs ts)(r:Trs K F H Js (uB md vs) (YB md ts) M) :
  ∃Z:Ft,(∀(i:Nat) s,(BD md ts)[i]?=Jp (Jp s)->∃v,vs[i]?=Jp v/\Tr K F H s.st v s.t (Z i))/\(∀(i:Nat) t,(BD md ts)[i]?=Jp (Jp (.own t))->∀b,Z i b->M b)/\(∀(i:Nat) t,(BD md ts)[i]?=Jp (Jp (.ny t))->∀b,Z i b->Y b) /\
   ∀(i j:Nat) t u,i≠j->(BD md ts)[i]?=Jp (Jp (.own t))->(BD md ts)[j]?=Jp (Jp (.own u))->∀b,Z i b->¬ Z j b:=by
 induction h generalizing M with
 |nil=>exact#[λ_ _=>False,λi s e=>by simp[BD]at e,λi t e=>by simp[BD]at e,λi t e=>by simp[BD]at e,λi j t u _ e=>by simp[BD]at e]|@chg md v vs t ts hm L W =>
  have I:uB md (v::vs)=v::uB md.tail vs:=by rw[pG,hm]
  have G:YB md (t::ts)=t::YB md.tail ts:=by rw[PJ,hm]
  rw[I,G]at r;cases r with
  |@cons _ _ _ _ _ _ J S X O n q =>
   let#[Z,C,a,B,A]:=W O;have E:BD md (t::ts)=Jp (.own t)::BD md.tail ts:=by rw[aL,hm];rfl
   rw[E];refine#[λi=>match i with|0=>J|i+1=>Z i,λi s e=>?_,λi u e b hb=>?_,λi u e b hb=>?_,λi j u w m e g b hb y=>?_];cases i with|zero=>simp at e;subst e;exact#[v,rfl,X]|succ i=>exact C i s (by simpa using e)
   cases i with|zero=>exact(q b).mpr (.inl hb)|succ i=>exact(q b).mpr (.inr (a i u (by simpa using e) b hb))
   cases i with|zero=>simp at e|succ i=>exact B i u (by simpa using e) b hb
   cases i with
   |zero =>
    cases j with|zero=>exact m rfl|succ j=>exact n b hb (a j w (by simpa using g) b y)
   |succ i =>
    cases j with|zero=>exact n b y (a i u (by simpa using e) b hb)|succ j=>exact A i j u w (λz=>m (by rw[z])) (by simpa using e) (by simpa using g) b hb y
 |@rd md v vs t ts J hm X Q L W =>
  have I:uB md (v::vs)=uB md.tail vs:=by rw[pG];cases e:md.headD .kq<;>first|exact gJ e hm|rfl
  have G:YB md (t::ts)=YB md.tail ts:=by rw[PJ];cases e:md.headD .kq<;>first|exact gJ e hm|rfl
  rw[I,G]at r;let#[Z,C,a,B,A]:=W r;have E:BD md (t::ts)=Jp (.ny t)::BD md.tail ts:=by rw[aL,JY hm]
  rw[E];refine#[λi=>match i with|0=>J|i+1=>Z i,λi s e=>?_,λi u e b hb=>?_,λi u e b hb=>?_,λi j u w m e g b hb y=>?_];cases i with|zero=>simp at e;subst e;exact#[v,rfl,X]|succ i=>exact C i s (by simpa using e)
  cases i with|zero=>simp at e|succ i=>exact a i u (by simpa using e) b hb
  cases i with|zero=>exact Q b hb|succ i=>exact B i u (by simpa using e) b hb
  cases i with
  |zero=>simp at e|succ i =>
   cases j with|zero=>simp at g|succ j=>exact A i j u w (λz=>m (by rw[z])) (by simpa using e) (by simpa using g) b hb y
theorem oX(f:Same F H)(h:ArgsR K F H Y md vs ts)(hm:Trs K F H Js (uB md vs) (YB md ts) M)(B:∀b,Y b->¬ M b) :
  ∃S,Rl K F H S (LA N md ts) (nD N vs)/\∀b,U (LA N md ts) S b->M b:=by
 let#[Z,W,a,X,r]:=O7 h hm;have hl:=h.9;have get:∀(i:Nat) s,(LA N md ts)[i]?=Jp (Jp s)->(BD md ts)[i]?=Jp (Jp s):=λi s e=>by
  unfold LA at e;rcases QCJ i ts.9 with z|z
  ·rwa [qJ (by rw[vH];exact z)]at e
  rw[Qx (by rw[vH];exact z),Wb]at e;split at e<;>cases e
 refine#[Z,#[f,?_,λi s e=>?_,λi j t s n q m b hb y=>?_],λb #[i,t,e,hb]=>a i t (get i _ e) b hb];unfold LA nD;rw[QN,QN,vH,QG,wF,wF,hl];let#[v,g,A]:=W i s (get i s e);refine#[v,?_,A];unfold nD;rw[qJ (by rw[QG];exact(Qb.mp g).1),Qg,g];rfl;cases s with|own u=>exact r i j t u n (get i _ q) (get j _ m) b hb y|ny u=>exact B b (X j u (get j _ m) b y) (a i t (get i _ q) b hb)
theorem PL:∀{md:List Md}{k n:Nat}{vs:LV}{σ:St},vs.9=n->(∀(i:Nat) v,vs[i]?=Jp v->σ[k+i]?=Jp (Jp v))->(uB md vs).map (λv=>Jp (Jp v))=(XB k md n).map λj=>σ[j]?
 |md,k,0,vs,σ,h,g=>by
  cases vs with|nil=>rfl|cons _ _=>cases h
 |md,k,n+1,vs,σ,h,g=>by
  cases vs with
  |nil=>cases h|cons v vs =>
   have y:=PL (md:=md.tail) (k:=k+1) (n:=n) (vs:=vs) (σ:=σ) (by simpa using h) λi w z=>by have:=g (i+1) w (by simpa using z);rw[show k+1+i=k+(i+1) by omega];exact this
   have u:=g 0 v rfl;rw[pG];unfold XB;cases e:md.headD .kq with|chg=>simp only[QT,y];rw[show σ[k]?=Jp (Jp v) from u]|_=>exact y
theorem gK:∀{md:List Md}{k n j:Nat},j∈XB k md n->k<=j
 |md,k,0,j,h=>by simp[XB]at h|md,k,n+1,j,h=>by
  unfold XB at h;cases e:md.headD .kq with
  |chg=>rw[e]at h;rcases QK.mp h with z|z;omega;have:=gK z;omega
  |_=>rw[e]at h;have:=gK h;omega
theorem bQ:∀(md:List Md) (k n:Nat),(XB k md n).Nodup
 |md,k,0=>Qt|md,k,n+1=>by
  have h:=bQ md.tail (k+1) n;unfold XB;cases e:md.headD .kq with|chg=>exact Qa.mpr #[λz=>by have:=gK z;omega,h]|_=>exact h
theorem Y0(F:Fun K x o st f p)(aB:ZC n b N l st=Js)(hc:OH (XB 0 R.md l.9) b=Js)
  (fns:∀g∈n.fn,UC P w K mg base Ψ k g) (G:ValsOk P w K mg Ψ n.va) (nos:∀y∈n.no,mg y=Jr)
  (body:∀ts Q E,R.run ts Q E->ts.9=l.9/\pF Ψ b (YC R l.9 Q) (LA N R.md ts)):FnOk P w K mg base AW (k+1) f p l (lift K R):=by
 let#[c12,c3]:=yA aB;let#[c1,c2]:=yA c12;have S:=tI c1;refine F.ok S (λvs H Q E h=>?_) (λcdv A L s H vs Q E hr h=>?_);let#[F',ts,M,Y,h1,h2,h3,h4,h5]:=h;rw[h2.9];exact(body ts _ _ h5).1;let#[F',ts,M,Y,h1,h2,h3,h4,h5]:=h;have q:=(body ts _ _ h5).2;have hlen:=(body ts _ _ h5).1;have ok:OkS ((cS AW P w K mg base N o (CA st) f cdv A L s H E).nox) #[N,CA st] (JN (Ah K mg Ψ) n) E0:={
  N:=rfl
  sc:=rfl
  calm:=rfl
  un:=by have:=hr.un;show(A.deeper _).units+66<Ks;omega
  fn:=λg hg=>by let#[a,gd,gps,g1,g2,g3,g4]:=fns g hg;exact#[AW,k,a,gd,gps,g1,hr,g2,g3,g4,vh,λ_ _ _ _ _ z=>z]
  val:=λy hy=>by let#[u,v,e1,e2]:=G.has y hy;refine#[u,e1,?_];show lA (HQ mg y) u;unfold HQ;rw[e1];show lA ((FI u).getD .non) u;rw[e2];exact oT e2
  no:=λy hy=>nos y hy
  po:=PassesOwn.never
  nd:=S.nd
  cel:=λ_=>rfl }
 refine#[_,(uk b ok c2 (DV b c3)).1,?_];let#[S0,I,hU]:=oX (N:=N) h1 h2 h3 h4;have g:GOk K (Ah K mg Ψ) Ψ:=#[λ_ _ _ _ _ h=>h,λy d e F=>G.rep y d e F]
 have hvl:vs.9=l.length:=h2.length.trans hlen;have fin:∀v t W C B J m X,Stc (XB 0 R.md l.9) F' H S0 (LA N R.md ts) (nD N vs) C B J m X->Rl K C B J m X->Tr K C B Js v t W->Held C B J m W->(∀b,W b->H b=Jr∨U (LA N R.md ts) S0 b) ->
   KY (NA (XB 0 R.md l.9) m) (λos=>∀v F3 H3 Z M',Frm M F' H F3 H3->Tr K F3 H3 Js v t Z->Trs K F3 H3 Js (uB R.md vs) os M'->(∀b,Z b->¬ M' b)->(∀b,Z b∨M' b->M b∨H b=Jr)->Q v H3)->Q v B:=by
  intro v t W C B J m X s I2 r hw fr q;cases eo:NA (XB 0 R.md l.9) m with
  |none=>rw[eo]at q;exact q.elim|some os =>
   rw[eo]at q;have hv:(uB R.md vs).map (λv=>Jp (Jp v))=(XB 0 R.md l.9).map λj=>X[j]?:=by rw[PL (md:=R.md) (k:=0) (n:=l.9) (vs:=vs) (σ:=nD N vs) hvl λi w hw=>?_];exact qX λj O=>(s.sg j O).symm;unfold nD;rw[Ws,qJ (by rw[QG];exact(Qb.mp hw).1),Qg,hw];rfl
   have trs:=I2.trs (bQ _ _ _) eo hv;have own:∀j∈XB 0 R.md l.9,∃t,m[j]?=Jp (Jp (.own t)):=λj O=>by let#[i,hi]:=WH.mp O;let#[t,_,e]:=(pD eo).2 i j hi;exact#[t,e]
   have lk:∀b,U (LA N R.md ts) S0 b∨H b=Jr->M b∨H b=none:=λb hb=>hb.imp (hU b) id;refine q v C B W _ #[s.ff,I2.fh,λb u e n=>s.hh b u e λz=>n (hU b z),s.dm,λb e z=>lk b (s.fn b e z)] r trs (λb hb #[j,O,z]=>?_) λb hb=>?_;let#[t',e]:=own j O;exact hw.nw j _ e b hb z;rcases hb with hb|⟨j,O,z⟩
   ·exact lk b (fr b hb).symm
   let#[t',e]:=own j O;exact lk b (s.uu b #[j,t',e,z])
 refine jH g b hc I (λ_ _ _ _ _ _ _ _ _ z=>z.elim) q #[?_,?_,λ_ _ _ _ _ _ _ z=>z.elim,λ_ _ _ _ _ _ _ z=>z.elim];intro C B J m X s I2 q;exact fin .non (.d .none) (λ_=>False) C B J m X s.c I2 (.d .non λ_ z=>z) .none (λ_ z=>z.elim) q;intro v t W C B J m X s I2 r hw fr q;exact fin v t W C B J m X s I2 r hw fr q
theorem EZ{h:PEv}(F:Fun K x o st f p)(hm:mg x=Jp (.ref f))(hb:cG K p l [])(aB:ZC n b N l st=Js)(hc:OH (XB 0 R.md l.9) b=Js)
  (v:∀g∈n.fn,UC P w K mg base Ψ k g) (z:ValsOk P w K mg Ψ n.va) (u:∀y∈n.no,mg y=Jr)
  (body:∀ts Q E,R.run ts Q E->ts.9=l.9/\pF Ψ b (YC R l.9 Q) (LA N R.md ts)) (a:h.sp x=R):UC P w K mg base h (k+1) x :=
 #[f,p,l,by rw[a];exact Y0 F aB hc v z u body,hm,F.kp,hb]
theorem A6(F:Fun K x o st f p)(hm:mg x=Jp (.ref f))(hb:cG K p l [])(aB:ZC n b N l st=Js)(u:∀ts Q E,¬ (Ψ.sp x).run ts Q E):UC P w K mg base Ψ (k+1) x:=by refine#[f,p,l,F.ok (tI (yA (yA aB).1).1) (λvs H Q E h=>?_) (λi A y s H vs Q E m h=>?_),hm,F.kp,hb];let#[j,ts,M,Y,g,e,a,v,z]:=h;exact(u _ _ _ z).elim;let#[j,ts,M,Y,g,e,a,v,z]:=h;exact(u _ _ _ z).elim
end
end
noncomputable def AO:PSp where
 md:=[.kr]
 run:=λx Q _=>∃h:LJ,h.9<=63/\(∀n∈h,QBI n<=1048576)/\x=[.lst ((h.map Jy).map T.d)]/\Q (.d (.bool Js)) []
def ZY:PSp:=#[[],λ_ _ _=>False,λ_ _ h=>h]
theorem lL{K:QE}{F:Hp}:∀(ns:LJ),Reps K F (ns.map V.int) (ns.map Jy)
 |[]=>.nil|n::r=>.cons (.int n) (lL r)
theorem aJ{K:QE}{F:Hp}:∀(ns:LS),Reps K F (ns.map V.str) (ns.map Jx)
 |[]=>.nil|n::r=>.cons (.str n) (aJ r)
theorem Ic(K:QE)(H:Hp)(a:jy)(ns:LJ)(hl:ns.9<=63)(h:∀n∈ns,QBI n<=1048576)(x:uC K H a (ns.map V.int)):lift K AO [.ref a] H (λv _=>v=.bl Js) λ_ _ _=>False:=by
 refine#[H,[.lst ((ns.map Jy).map T.d)],λ_=>False,λ_=>False,.refl _,.rd (Z:=λ_=>False) (by simp[AO]) (.lstF x (lL ns) λ_ z=>z) (λ_ z=>z) .nil,.nil λ_ z=>z,λ_ z=>z.elim,ns,hl,h,rfl,λv w u Z y _ r _ _ _=>?_];cases r with|d r _=>cases r;rfl
theorem FQ{ns:LJ}:∀n∈ns,QA4 (.int n)<=Wd (ns.map QA9.int):=by
 induction ns with|nil=>intro n h;cases h|cons m ns x=>intro n h;show _<=QA4 (.int m)+1+Wd (ns.map QA9.int);rcases QK.mp h with rfl|h;omega;have:=x n h;omega
theorem G7{ns:LJ}(h:QA9.layableAll [.list (ns.map .int)]=Js):∀n∈ns,QBI n<=1048576:=by
 intro n z;have v:=(PySem.W.layableW_iff.mp (PySem.W.layableW_arg h _ QD)).2.2;have k:Wd (ns.map QA9.int)<=2 ^ 20:=v;have y:=FQ n z;have u:QA4 (.int n)=if n==0 then 0 else n.natAbs.log2+1:=rfl
 rw[PySem.intBits_le_iff];by_cases x:n=0;subst x;exact Nat.pow_pos (by decide);have:(n==0)=false:=by simpa using x
 rw[u,this]at y;have w:n.natAbs.log2+1<=1048576:=by have:n.natAbs.log2+1<=Wd (ns.map QA9.int):=y;omega
 exact(Nat.log2_lt (show n.natAbs≠0 by omega)).mp ()
def ZQ(K:QE)(x:Str)(st:Ku):Prop:=∃f h,WI K jp x=Jp (Jp (.ref f))/\Fun K x x st f h
def eK(K:QE)(x:Str)(d:D):Prop:=∃u v,WI K jp x=Jp (Jp u)/\FI u=Jp v/\∀F,Rep K F v d
theorem xX{K:QE}{x:Str}{f:jy}{xs:LS}{w:Option jy}{its:LW}{n:Nat}{v:Array (Option Ju)}(a:WI K jp x=Jp (Jp (.ref f)))
  (l:K.lookup f=Jp #[.type "tuple",w,.seq its.toArray n,v]) (h:its.map FI=xs.map λy=>Jp (.str y)) (hz:xs.9<=jx):eK K x (.tuple (xs.map Jx)):=by
 refine#[_,_,a,rfl,λF=>.tup (.inr #[_,its.toArray,n,l,rfl,rfl,?_,?_]) (aJ xs)];have:=gV wm h;simp at this;simp;omega;have z:∀(its:LW) (xs:LS),its.map FI=xs.map (λy=>Jp (.str y))->uA (xs.map V.str) its:=by
  intro its;induction its with
  |nil =>
   intro xs h;cases xs with|nil=>exact .nil|cons _ _=>simp at h
  |cons u its k =>
   intro xs h;cases xs with|nil=>simp at h|cons y xs=>simp only[QT,QAd]at h;exact .cons (oT h.1) (k xs h.2)
 simpa using z its xs h
section
variable{P:jv}{w:jr}{K:QE}{mg:Str->Option Ju}{base h:js}{Ψ:PEv}
section
variable{x:Str}{c:PEv}{st:Ku}{z:LS}{k:Nat}{n:Need}
theorem eK.inMg(X:K.In h)(G:h.Ns jp mg){d:D}(v:eK K x d):(∀F,Rep K F (HQ mg x) d)/\∃u v,mg x=Jp u/\FI u=Jp v:=by
 let#[u,v,b,y,a]:=v;have e:=QB1 X G b;refine#[λF=>?_,u,v,e,y];have:HQ mg x=v:=by unfold HQ;rw[e];show(FI u).getD .non=v;rw[y];rfl
 rw[this];exact a F
theorem IZ{R:PSp}{N:LS}{b:PT}(X:K.In h)(G:h.Ns jp mg)(D:ZQ K x st)(aB:ZC n b N z st=Js)(hc:OH (XB 0 R.md z.9) b=Js)
  (hb:∀(kV i l:Ju) (p:Option jy) (j ct:Ju) (us:LW),us.9=z.9->vu (wr x x (OC st) (vC st) (CA st) .none kV i l p j ct) #[us,[]]=Gu (z.zip us))
  (e:∀g∈n.fn,UC P w K mg base Ψ k g) (u:ValsOk P w K mg Ψ n.va) (v:∀y∈n.no,WI K jp y=Jp Jr)
  (body:∀ts Q E,R.run ts Q E->ts.9=z.9/\pF Ψ b (YC R z.9 Q) (LA N R.md ts)) (o:c.sp x=R):UC P w K mg base c (k+1) x:=by
 let#[f,q,a,F]:=D;exact EZ F (QB1 X G a) (F.binds hb) aB hc e u (λy m=>QDD X G (v y m)) body o
theorem dW{N:LS}{b:PT}(X:K.In h)(G:h.Ns jp mg)(D:ZQ K x st)(aB:ZC n b N z st=Js)
  (hb:∀(kV y v:Ju) (g:Option jy) (u ct:Ju) (us:LW),us.9=z.9->vu (wr x x (OC st) (vC st) (CA st) .none kV y v g u ct) #[us,[]]=Gu (z.zip us))
  (e:∀ts Q E,¬ (Ψ.sp x).run ts Q E):UC P w K mg base Ψ (k+1) x:=by
 let#[f,i,a,F]:=D;exact A6 F (QB1 X G a) (F.binds hb) aB e
theorem UC.to(h:UC P w K mg base Ψ k x)(e:c.sp x=Ψ.sp x):UC P w K mg base c k x:=by let#[f,v,z,u,y]:=h;exact#[f,v,z,by rw[e];exact u,y]
theorem jd{j:jy}(X:K.In h)(G:h.Ns jp mg)(D:ZQ K "law" st)(q:z=[x])(g:mg "law"=Jp (.ref j))(hs:Ψ.sp "law"=AO)
  (hb:∀(kV v i:Ju) (l:Option jy) (b ct:Ju) (us:LW),us.9=z.9->vu (wr "law" "law" (OC st) (vC st) (CA st) .none kV v i l b ct) #[us,[]]=Gu (z.zip us))
  (H:∀base:js,K.In base->base.Ns jp mg->∀f y,Fun K "law" "law" st f y->mg "law"=Jp (.ref f)->FnOk P w K mg base AW k f y z (lift K (Ψ.sp "law"))) :
  ∃y:Kr,(∀(s:Jq) (u:Ju),Xu s y #[[u],[]] [(x,u)])/\∀base:js,K.In base->base.Ns jp mg->FnOk P w K mg base AW k j y [x] (lift K AO):=by
 let#[f,y,a,F]:=D;have e:=g.symm.trans (QB1 X G a);cases e;subst q;refine#[y,λs u=>?_,λbase p o=>?_];let#[Z,Y,kV,v,i,l,b,ct,m,rfl,lk,r]:=F.ex;exact .of_eq (hb kV v i l b ct [u] rfl);rw[<- hs];exact H base p o j y F g
end
end
theorem AC{α:Type}{body:T->(Option T->Prop)->Prop}(g f:α->T):∀(l:List α) (h:LT) (Q:LT->Prop),(∀x∈l,∀R:Option T->Prop,R (Jp (f x))->body (g x) R)->h.9+l.9<=jx->Q (h++l.map f)->GC body (l.map g) h Q
 |[],h,Q,_,hl,q=>by simp only[wt,GC];exact#[by simpa using hl,by simpa using q]|x::r,h,Q,hb,hl,q=>by simp only[QT,GC];refine hb x QD _ ?_;simp only[QL]at hl;refine#[(),AC g f r _ Q (λy z=>hb y (QC _ z)) (by simp;omega) (by simpa using q)]
theorem FA{α:Type}{body:T->(Option T->Prop)->Prop}(g f:α->T)(p:α->Bool):∀(l:List α) (h:LT) (Q:LT->Prop),(∀x∈l,∀R:Option T->Prop,R (if p x=Js then Jp (f x) else Jr)->body (g x) R)->h.9+l.9<=jx->Q (h++(l.filter p).map f)->GC body (l.map g) h Q
 |[],h,Q,_,hl,q=>by simp only[wt,GC];exact#[by simpa using hl,by simpa using q]|x::r,h,Q,hb,hl,q=>by
  simp only[QT,GC];refine hb x QD _ ?_;simp only[QL]at hl;cases u:p x with|true=>refine#[(),FA g f p r _ Q (λy z=>hb y (QC _ z)) (by simp;omega) ?_];rw[Wl,Gw u]at q;simpa using q|false=>refine FA g f p r _ Q (λy z=>hb y (QC _ z)) () ?_;rw[Wl,Gq (by rw[u];simp)]at q;exact q
theorem CU{α:Type}{xs:List α}{i:Int}(h0:0<=i)(x:i<xs.9):∃v,BE xs i=Jp v/\xs[i.toNat]?=Jp v:=by
 have h:i.toNat<xs.length:=()
 have e:((i.toNat:Nat):Int)=i:=()
 have q:=SN (Q9 h);rw[e]at q;exact#[xs[i.toNat],q,Q9 h]
theorem TN{α h:Type}(f:α->h)(xs:List α)(i:Int):BE (xs.map f) i=(BE xs i).map f:=by
 unfold BE;rw[QG];cases dO xs.9 i with|none=>rfl|some j=>exact Qg
theorem FB{Ψ:PEv}{E:XE}{α:Type}{body:PT}{u:Tg}{Z:PEnds}(g:α->T)(W:List α->kA->Prop)(h0:∀ρ,W [] ρ->Z.nx ρ)
  (hs:∀x xs ρ (N:kA->Prop),(∀y,W xs y->N y)->W (x::xs) ρ->JI u (g x) ρ λz=>lB Ψ E body { Z with nx:=N,ct:=N,bk:=Z.nx } z):∀(xs:List α) (ρ:kA),W xs ρ->sG (lB Ψ E body) u Z (xs.map g) ρ
 |[],ρ,w=>h0 ρ w|x::xs,ρ,w=>hs x xs ρ (λh=>sG (lB Ψ E body) u Z (xs.map g) h) (λh v=>FB g W h0 hs xs h v) w
noncomputable def y8(y:List (Str×PSp))(h:List (Str×D)):PEv:=#[λf=>(y.lookup f).getD ZY,λx=>h.lookup x]
theorem FS{P:jv}{w:jr}{K:QE}{u:Str->Option Ju}{h:js}{k:List (Str×PSp)}{tbl:List (Str×D)}{z:LS}(X:K.In h)(G:h.Ns jp u)(v:∀p∈tbl,eK K p.1 p.2)
  (y:(z.all λx=>(tbl.map we).contains x)=Js):ValsOk P w K u (y8 k tbl) z:=by
 refine#[λx d e F=>((v (x,d) (Q4 e)).inMg X G).1 F,λx a=>?_];have:=qN.mp y x a;let#[p,b,e]:=QY.mp (Qr.mp this);rw[<- e];exact((v p b).inMg X G).2
theorem pM{α:Type}[BEq α][LawfulBEq α]{l m:List α}(h:(l.all λx=>m.contains x)=Js):∀x∈l,x∈m:=λx y=>Qr.mp (qN.mp h x y)
section
variable{a b c:PX}{i:Nat}{n:Int}{x:Str}{m:Mt}{f:Str}{g:Bi}{u:kv}{w:Vr}{is:List Bool}{h:LS}{z:Tg}{v:ItK}{y:String}
theorem DS:SF (.kw i)=[i]:=rfl
theorem yL:SF (.nq a b)=SF a++SF b:=rfl
theorem lO:SF .nr=[]:=rfl
end
def CC{α:Type}(o:Option α)(K:α->Prop):Prop:=∃a,o=Jp a/\K a
theorem CC.mk{α:Type}{o:Option α}{a:α}{K:α->Prop}(e:o=Jp a)(k:K a):CC o K:=#[a,e,k]
theorem BC{α:Type}{a:α}{K:α->Prop}:CC (Jp a) K=K a:=gx #[λ#[_,e,k]=>by cases e;exact k,λk=>#[a,rfl,k]]
theorem jF{α h:Type}{o:Option α}{f:α->h}{K:h->Prop}:CC (o.map f) K=CC o λa=>K (f a):=by
 cases o with|none=>exact gx #[λ#[_,e,_]=>(by cases e),λ#[_,e,_]=>(by cases e)]|some a=>rw[qV,BC,BC]
def NB(Ψ:PEv)(e:PX)(E:XE)(ρ:kA)(K:TK):Prop:=(pe Ψ e E).e ρ K
def CT(Ψ:PEv)(e:PX)(E:XE)(ρ:kA)(K:Bool->kA->Prop):Prop:=(pe Ψ e E).t ρ K
def DK(Ψ:PEv)(e:PX)(E:XE)(md:List Md)(ρ:kA)(K:List (T×Bool)->kA->Prop):Prop:=(pe Ψ e E).a md ρ K
def NX(p:PSp)(ts:LT)(K:T->LT->Prop)(E:XE):Prop:=p.run ts K E
def k8(x:T)(n:Bool)(Ψ:PEv)(b:PX)(E:XE)(ρ:kA)(K:TK):Prop:=sq (bA x n) ρ (cu (pe Ψ b E).e) λy h=>K y.1 y.2 h
def v8(x:T)(n:Bool)(Ψ:PEv)(b:PX)(E:XE)(md:List Md)(ρ:kA)(K:List (T×Bool)->kA->Prop):Prop:=sq (if n=Js then .d .none else x) ρ ((pe Ψ b E).a md) K
def Dm(x:T)(n:Bool)(Ψ:PEv)(b:PX)(E:XE)(ρ:kA)(K:List (T×Bool)->kA->Prop):Prop:=sq (bA x n) ρ ((pe Ψ b E).a []) K
def BI(i:Nat)(σ ρ:kA)(K:TK):Prop:=sj σ[i]? λt=>K t Jt ρ
def TX(i:Nat)(σ:kA)(ρ:kA)(j:Nat)(R:T->kA->Prop):Prop:=Kk ρ j R σ[i]?
def UM(Ψ:PEv)(E:XE)(r:PT)(Z:PEnds)(i:Nat)(x:T)(n:Bool)(ρ:kA):Prop:=zG x n=Js/\lB Ψ E r Z (ρ.set i (bD x.er))
def xh(Ψ:PEv)(E:XE)(r:PT)(Z:PEnds)(i:Nat)(x:T)(n:Bool)(ρ:kA):Prop:=zG x n=Js/\lB Ψ E r Z (ρ.set i (Jp (.own x)))
def NC(x:T)(n:Bool)(P:Prop):Prop:=zG x n=Js/\P
def xE(h:kv)(x:T)(n:Bool)(y:T)(m:Bool)(Q:T->Bool->Prop):Prop:=binT h (bA x n).vw (bA y m).vw Q
def HD(h:Vr)(x y:T)(Q:Bool->Prop):Prop:=Y7 h x.er y Q
def Nj(x:T)(Q:Bool->Prop):Prop:=CG x.er Q
def IK(f:Bi)(xs:List (T×Bool))(Q:T->Bool->Prop):Prop:=ZW f (HB xs) Q
def FC(x:T)(n:Bool)(y:T)(m:Bool)(Q:T->Prop):Prop:=LK (bA x n).vw (bA y m).vw Q∨OP (bA x n).vw y.er Q
def Cf(Ψ:PEv)(E:XE)(c:PX)(q:PT)(Z:PEnds)(ρ:kA):Prop:=lB Ψ E (.whl c q) Z ρ
def fg(t y x:T)(Q:T->Prop):Prop:=lg t y.er x.er Q
def ug(z t:T)(Q:T->(T->T)->Prop):Prop:=cg z.er t Q
def Zg(y t:T)(Q:T->Prop):Prop:=gb y.er t Q
def vV(x:T)(n:Bool)(l u:Option Int)(Q:T->Bool->Prop):Prop:=rJ (bA x n).vw l u Q
def fN(xs:List (T×Bool))(C:LT->Prop):Prop:=aE xs=Js/\C (RE xs)
def GK(h:ItK)(xs:List (T×Bool))(R:LT->Prop):Prop:=ZB h (HB xs) R
def Gk(m:Mt)(x:T)(n:Bool)(xs:List (T×Bool))(Q:T->Bool->Prop):Prop:=lf m (bA x n).vw (HB xs) Q
def rB(md:List Md)(xs:List (T×Bool))(C:LT->Prop):Prop:=CC (JA md xs []) C
def cK(Ψ:PEv)(E:XE)(mask:List Bool)(x:LS)(z:Tg)(h y:PX)(ρ:kA):T->(Option T->Prop)->Prop:=sF z (PK x.9 mask (lockA ρ)) (if isNop h=Js then λρ R=>R Js ρ else(pe Ψ h E).t) (pe Ψ y E).e
def E1(h:Tg)(x:T)(ρ:kA)(K:kA->Prop):Prop:=JI h x ρ K
section
variable{Ψ:PEv}{E:XE}{ρ:kA}{K:TK}{L:Bool->kA->Prop}{M:List (T×Bool)->kA->Prop}{a b c as its Z U:PX}{Y:T->kA->Prop}
section
variable{i j:Nat}{x:T}{v:Vr}{f t:Str}{p:PSp}{md:List Md}{n:Bool}{mask m:List Bool}{w:LS}{g:Tg}{X:ItK}{R:Option T->Prop}{s:Option Sl}{σ:kA}{ts:LT}
theorem da:NB Ψ (.kw i) E ρ K=BI i ρ ρ K:=rfl
theorem Ba{i:Int}:NB Ψ (.int i) E ρ K=K (.d (.int i)) Jt ρ:=rfl
theorem Ja{x:Str}:NB Ψ (.str x) E ρ K=K (.d (.str x)) Jt ρ:=rfl
theorem Va:NB Ψ .non E ρ K=K (.d .none) Jt ρ:=rfl
theorem uG{x:Str}{d:D}(h:Ψ.va x=Jp d):NB Ψ (.glo x) E ρ K=K (.d d) Jt ρ:=by show(match Ψ.va x with|some d=>K (.d d) Jt ρ|none=>False)=_;rw[h]
theorem Ga{v:kv}:NB Ψ (.bin v a b) E ρ K=NB Ψ a E ρ λx n u=>k8 x n Ψ b E u λy m h=>xE v x n y m λz k=>K z k h:=rfl
theorem D9:CT Ψ (.cmp v a b) E ρ L=NB Ψ a E ρ λx n z=>k8 x n Ψ b E z λy m h=>HD v x (bA y m) λk=>L k h:=rfl
theorem Fa:NB Ψ (.cmp v a b) E ρ K=CT Ψ (.cmp v a b) E ρ λk h=>K (.d (.bool k)) Jt h:=rfl
theorem F9:CT Ψ (.and a b) E ρ L=CT Ψ a E ρ λc h=>if c=Js then CT Ψ b E h L else L Jt h:=rfl
theorem C9:CT Ψ (.not a) E ρ L=CT Ψ a E ρ λc h=>L (!c) h:=rfl
theorem nA(h:Ψ.sp f=p)(hm:p.md=md)(A:(md.all λm=>!m.isMut)=Js):NB Ψ (.call f as) E ρ K=DK Ψ as E md ρ λxs y=>rB md xs λts=>NX p ts (λr u=>u=[]/\K r Js y) E:=by
 have q:∀(md:List Md) (as:PX),(md.all λm=>!m.isMut)=Js->cA md as=[]:=by
  intro md;induction md with
  |nil=>intro as _;cases as<;>rfl|cons m md W =>
   intro as h;rw[wN,Qf]at h;cases m with
   |chg=>cases h.1|_=>cases as with|nq a as=>exact W as h.2|_=>rfl
 show(∃u,NA (cA (Ψ.sp f).md as) ρ=Jp u/\(cA (Ψ.sp f).md as).Nodup/\(pe Ψ as E).a (Ψ.sp f).md (clear (cA (Ψ.sp f).md as) ρ) λxs y=>∃ts,JA (Ψ.sp f).md xs u=Jp ts/\(Ψ.sp f).run ts (λr l=>∃z,IB (cA (Ψ.sp f).md as) l y=Jp z/\K r Js z) E)=_;rw[h,hm,q md as A];have o:∀(r:T) (u:LT) (y:kA),(∃z,IB [] u y=Jp z/\K r Js z)=(u=[]/\K r Js y):=by
  intro r u y;cases u with|nil=>exact gx #[λ#[_,e,k]=>by cases e;exact#[rfl,k],λk=>#[_,rfl,k.2]]|cons _ _=>exact gx #[λ#[_,e,k]=>(by cases e),λk=>(by cases k.1)]
 have:=λ(y:kA)=>funext λr=>funext λu=>o r u y;simp only[this];exact gx #[λ#[_,e,_,k]=>by cases e;exact k,λk=>#[_,rfl,Qt,k]]
theorem fj{f:Bi}:NB Ψ (.bi f as) E ρ K=DK Ψ as E [] ρ λxs h=>IK f xs λz k=>K z k h:=rfl
theorem Pc{m:Mt}{z:Str}(h:isMut m=Jt):UR m (bA (.d (.str z)) n).vw=true:=by cases n<;>cases m<;>first|rfl|cases h
theorem u3:NB Ψ (.mt .join a as) E ρ K=NB Ψ a E ρ λx n y=>UR .join (bA x n).vw=Js/\Dm x n Ψ as E y λxs h=>Gk .join x n xs λz k=>K z k h:=rfl
theorem Ka:NB Ψ (.mt .pop (.kw j) as) E ρ K=zD ρ[j]? λt=>nI .pop t=Js/\DK Ψ as E [] (ρ.set j (Jp (.ny t))) λxs h=>aE xs=Js/\h[j]?=Jp (Jp (.ny t))/\cN .pop t (RE xs) λr s'=>K r Js (h.set j (Jp (.own s'))):=rfl
theorem J3{x:Bool}:NB Ψ (.dnew x) E ρ K=K (.dct x [] []) Js ρ:=rfl
theorem Da:NB Ψ (.dsp a b) E ρ K=NB Ψ a E ρ λy m z=>NC y m (NB Ψ b E z λx n h=>NC x n (sE Js y.er/\K (.dct Js [y.er] [x]) Js h)):=rfl
theorem RF(h:Ψ.sp f=p)(hm:p.md=.chg::md)(I:(md.all λm=>!m.isMut)=Js):NB Ψ (.call f (.nq (.kw j) as)) E ρ K=zD ρ[j]? λt=>DK Ψ as E md (ρ.set j Jr) λxs y=>rB md xs λts=>NX p (t::ts) (λr u=>∃t',u=[t']/\K r Js (y.set j (Jp (.own t')))) E:=by
 have C:∀(md:List Md) (as:PX),(md.all λm=>!m.isMut)=Js->cA md as=[]:=by
  intro md;induction md with
  |nil=>intro as _;cases as<;>rfl|cons m md F =>
   intro as h;rw[wN,Qf]at h;cases m with
   |chg=>cases h.1|_=>cases as with|nq a as=>exact F as h.2|_=>rfl
 show(∃u,NA (cA (Ψ.sp f).md (.nq (.kw j) as)) ρ=Jp u/\(cA (Ψ.sp f).md (.nq (.kw j) as)).Nodup/\(pe Ψ (.nq (.kw j) as) E).a (Ψ.sp f).md (clear (cA (Ψ.sp f).md (.nq (.kw j) as)) ρ) λxs y=>∃ts,JA (Ψ.sp f).md xs u=Jp ts/\(Ψ.sp f).run ts (λr l=>∃o,IB (cA (Ψ.sp f).md (.nq (.kw j) as)) l y=Jp o/\K r Js o) E)=_;rw[h,hm];have J:cA (.chg::md) (.nq (.kw j) as)=[j]:=by show j::cA md as=[j];rw[C md as I]
 rw[J];have q:∀(r:T) (u:LT) (y:kA),(∃o,IB [j] u y=Jp o/\K r Js o)=(∃t',u=[t']/\K r Js (y.set j (Jp (.own t')))):=by
  intro r u y
  match u with
  |[]=>exact gx #[λ#[_,e,k]=>(by cases e),λ#[_,e,k]=>(by cases e)]|[t]=>exact gx #[λ#[_,e,k]=>by cases e;exact#[t,rfl,k],λ#[_,e,k]=>by cases e;exact#[_,rfl,k]]|_::_::_=>exact gx #[λ#[_,e,k]=>(by cases e),λ#[_,e,k]=>(by cases e)]
 have W:=λ(y:kA)=>funext λr=>funext λu=>q r u y;simp only[W];have A:∀(t:T) (xs:List (T×Bool)) (G:LT->Prop),(∃ts,JA (.chg::md) ((.d .none,Js)::xs) [t]=Jp ts/\G ts)=rB md xs λts=>G (t::ts):=by
  intro t xs G;show(∃ts,(JA md xs []).map (t::·)=Jp ts/\G ts)=CC (JA md xs []) λts=>G (t::ts);cases JA md xs []with|none=>exact gx #[λ#[_,e,_]=>(by cases e),λ#[_,e,_]=>(by cases e)]|some ts=>exact gx #[λ#[_,e,k]=>by cases e;exact#[_,rfl,k],λ#[_,e,k]=>by cases e;exact#[_,rfl,k]]
 have B:∀t,ρ[j]?=Jp (Jp (.own t))->NA [j] ρ=Jp [t]:=λt e=>by unfold NA;rw[e];rfl
 have N:∀(u:LT),((pe Ψ (.nq (.kw j) as) E).a (.chg::md) (clear [j] ρ) λxs y=>∃ts,JA (.chg::md) xs u=Jp ts/\p.run ts (λr l=>∃t',l=[t']/\K r Js (y.set j (Jp (.own t')))) E)=(DK Ψ as E md (ρ.set j Jr) λxs y=>∃ts,JA (.chg::md) ((.d .none,Js)::xs) u=Jp ts/\p.run ts (λr l=>∃t',l=[t']/\K r Js (y.set j (Jp (.own t')))) E):=λu=>gx #[λh=>h.2,λh=>#[rfl,h]];simp only[N]
 match e:ρ[j]? with
 |some (Jp (.own t))=>show _=(DK Ψ as E md (ρ.set j Jr) λxs y=>rB md xs λts=>NX p (t::ts) (λr u=>∃t',u=[t']/\K r Js (y.set j (Jp (.own t')))) E);rw[B t e];have:=λxs (y:kA)=>A t xs λts=>p.run ts (λr l=>∃t',l=[t']/\K r Js (y.set j (Jp (.own t')))) E;refine gx #[λ#[_,e,_,k]=>?_,λk=>#[_,rfl,by simp,?_]];cases e;simp only[this]at k;exact k;simp only[this];exact k|some (Jp (.ny t))=>exact gx #[λ#[_,z,_]=>(by unfold NA at z;rw[e]at z;cases z),λk=>k.elim]|some Jr=>exact gx #[λ#[_,z,_]=>(by unfold NA at z;rw[e]at z;cases z),λk=>k.elim]|none=>exact gx #[λ#[_,z,_]=>(by unfold NA at z;rw[e]at z;cases z),λk=>k.elim]
theorem YQ:NB Ψ (.mt .append (.kw j) as) E ρ K=zD ρ[j]? λt=>nI .append t=Js/\DK Ψ as E [] (ρ.set j (Jp (.ny t))) λxs h=>aE xs=Js/\h[j]?=Jp (Jp (.ny t))/\cN .append t (RE xs) λr s'=>K r Js (h.set j (Jp (.own s'))):=rfl
theorem Ca:NB Ψ (.idx a b) E ρ K=NB Ψ a E ρ λx n u=>k8 x n Ψ b E u λy m h=>FC x n y m λz=>K z Jt h:=rfl
theorem JQ{i:Int}:NB Ψ (.slc a .nop (.int i)) E ρ K=NB Ψ a E ρ λx n h=>vV x n Jr (Jp i) λz k=>K z k h:=by
 show(pe Ψ a E).e ρ (λx n h=>sq (bA x n) h (λρ (R:Option Int->kA->Prop)=>R Jr ρ) λl o=>sq (bA x n) o (λρ (R:Option Int->kA->Prop)=>R (Jp i) ρ) λu y=>rJ (bA x n).vw l u λz k=>K z k y)=_;have:∀x n h,(sq (bA x n) h (λρ (R:Option Int->kA->Prop)=>R Jr ρ) λl o=>sq (bA x n) o (λρ (R:Option Int->kA->Prop)=>R (Jp i) ρ) λu y=>rJ (bA x n).vw l u λz k=>K z k y)=rJ (bA x n).vw Jr (Jp i) λz k=>K z k h:=by intro x n h;unfold sq;split<;>rfl
 simp only[this];rfl
theorem Xa{i:Int}:NB Ψ (.neg (.int i)) E ρ K=K (.d (.int (-i))) Jt ρ:=gx #[λ#[_,e,q]=>by cases e;exact q,λq=>#[i,rfl,q]]
theorem T7(h:isNop b=Jt):NB Ψ (.slc a b .nop) E ρ K=NB Ψ a E ρ λx n q=>sq (α:=Option Int) (bA x n) q (λρ R=>NB Ψ b E ρ λl _ y=>kH l.er λo=>R o y) λl y=>vV x n l Jr λz k=>K z k y:=by
 show(pe Ψ a E).e ρ (λx n q=>sq (bA x n) q (if isNop b=Js then λρ (R:Option Int->kA->Prop)=>R Jr ρ else λρ R=>(pe Ψ b E).e ρ λl _ y=>kH l.er λo=>R o y) λl y=>sq (bA x n) y (λρ (R:Option Int->kA->Prop)=>R Jr ρ) λu r=>rJ (bA x n).vw l u λz k=>K z k r)=_;rw[h];have:∀x n q l,(sq (α:=Option Int) (bA x n) q (λρ (R:Option Int->kA->Prop)=>R Jr ρ) λu r=>rJ (bA x n).vw l u λz k=>K z k r)=rJ (bA x n).vw l Jr λz k=>K z k q:=by intro x n q l;unfold sq;split<;>rfl
 simp only[this];rfl
theorem x3:NB Ψ (.sset a) E ρ K=NB Ψ a E ρ λx n h=>vL (bA x n).vw λz k=>K z k h:=rfl
theorem Ua:NB Ψ (.lst as) E ρ K=DK Ψ as E [] ρ λxs y=>xs.9<=jx/\fN xs λts=>K (.lst ts) Js y:=by have:∀(xs:List (T×Bool)) y,(xs.9<=jx/\fN xs λts=>K (.lst ts) Js y)=(aE xs=Js/\xs.9<=jx/\K (.lst (RE xs)) Js y):=λxs y=>gx #[λh=>#[h.2.1,h.1,h.2.2],λh=>#[h.2.1,h.1,h.2.2]];simp only[this];rfl
theorem aa:NB Ψ (.tup as) E ρ K=DK Ψ as E [] ρ λxs y=>xs.9<=jx/\fN xs λts=>K (dH ts) Js y:=by have:∀(xs:List (T×Bool)) y,(xs.9<=jx/\fN xs λts=>K (dH ts) Js y)=(aE xs=Js/\xs.9<=jx/\K (dH (RE xs)) Js y):=λxs y=>gx #[λh=>#[h.2.1,h.1,h.2.2],λh=>#[h.2.1,h.1,h.2.2]];simp only[this];rfl
theorem Y3:NB Ψ (.comp mask w g X its U Z) E ρ K=DK Ψ its E [] ρ λxs y=>GK X xs λh =>
   GC (cK Ψ (λ_=>False) mask w g U Z y) h [] λz=>K (.lst z) Js y:=rfl
theorem t9:cK Ψ E [] [t] (.nm 0) .nop Z ρ x R=NB Ψ Z E (Jp (.ny x)::lockA ρ) λy n _=>NC y n (R (Jp y)):=rfl
theorem Li{b:Bool}:cK Ψ E (b::m) [t] (.nm 0) .nop Z ρ x R=NB Ψ Z E (Jp (.ny x)::sD (b::m) (lockA ρ)) λy n _=>NC y n (R (Jp y)):=rfl
theorem e9:cK Ψ E [] [t] (.nm 0) (.cmp v a b) Z ρ x R=CT Ψ (.cmp v a b) E (Jp (.ny x)::lockA ρ) λk h=>if k=Js then NB Ψ Z E h λy n _=>NC y n (R (Jp y)) else R none:=rfl
theorem Ha:DK Ψ .nr E md ρ M=M [] ρ:=rfl
theorem V3:DK Ψ (.nq a as) E [] ρ M=NB Ψ a E ρ λx n y=>v8 x n Ψ as E [] y λxs h=>M ((x,n)::xs) h:=rfl
theorem VQ:DK Ψ (.nq a as) E (.kr::md) ρ M=NB Ψ a E ρ λx n y=>v8 x n Ψ as E md y λxs h=>M ((x,n)::xs) h:=rfl
theorem XQ:DK Ψ (.nq a as) E (.ny::md) ρ M=NB Ψ a E ρ λx n y=>v8 x n Ψ as E md y λxs h=>M ((x,n)::xs) h:=rfl
theorem A9:XI Ψ E Y (.kw i) ρ=TX i ρ ρ i Y:=rfl
theorem Ti{x:Bool}:XI Ψ E Y (.bl x) ρ=Y (.d (.bool x)) ρ:=gx #[λh=>h.2,λh=>#[rfl,h]]
theorem ka{v:kv}:XI Ψ E Y (.bin v a b) ρ=NB Ψ (.bin v a b) E ρ λx n h=>NC x n (Y x h):=rfl
theorem ya:XI Ψ E Y (.cmp v a b) ρ=NB Ψ (.cmp v a b) E ρ λx n h=>NC x n (Y x h):=rfl
theorem Ai{f:Bi}:XI Ψ E Y (.bi f as) ρ=NB Ψ (.bi f as) E ρ λx n h=>NC x n (Y x h):=rfl
theorem ja:XI Ψ E Y (.idx a b) ρ=NB Ψ (.idx a b) E ρ λx n h=>NC x n (Y x h):=rfl
theorem E9:XI Ψ E Y (.tup as) ρ=NB Ψ (.tup as) E ρ λx n h=>NC x n (Y x h):=rfl
theorem A2:XI Ψ E Y (.comp mask w g X its U Z) ρ=NB Ψ (.comp mask w g X its U Z) E ρ λx n h=>NC x n (Y x h):=rfl
theorem An:BI (i+1) (s::σ) ρ K=BI i σ ρ K:=rfl
theorem zo{t:T}:BI 0 (Jp (.ny t)::σ) ρ K=K t Jt ρ:=rfl
theorem En{t:T}:BI 0 (Jp (.own t)::σ) ρ K=K t Jt ρ:=rfl
theorem yo:BI i (lockA σ) ρ K=BI i σ ρ K:=by
 unfold BI lockA;rw[Qg];cases σ[i]? with
 |none=>rfl|some s=>cases s with|none=>rfl|some s=>cases s<;>rfl
theorem jo{b:Bool}:BI (i+1) (sD (b::m) (lockA (s::σ))) ρ K=BI i (sD m (lockA σ)) ρ K:=rfl
theorem bj:BI 0 (sD (false::m) (lockA (s::σ))) ρ K=BI 0 (lockA (s::σ)) ρ K:=rfl
theorem On:TX (i+1) (s::σ) ρ j Y=TX i σ ρ j Y:=rfl
theorem Rn{x:D}:TX 0 (bD x::σ) ρ j Y=Y (.d x) ρ:=gx #[λh=>h.2,λh=>#[rfl,h]]
theorem Pn{t:T}:TX 0 (Jp (.own t)::σ) ρ j Y=Y t (ρ.set j Jr):=rfl
theorem Om{x:D}:k8 (.d x) n Ψ b E ρ K=NB Ψ b E ρ K:=by cases n<;>rfl
theorem Mm:k8 x Js Ψ b E ρ K=NB Ψ b E ρ K:=rfl
theorem Nm:k8 (.lst ts) Jt Ψ b E ρ K=NB Ψ b E (lockA ρ) λy m _=>K y m ρ:=rfl
theorem Fn{x:D}:v8 (.d x) n Ψ b E md ρ M=DK Ψ b E md ρ M:=by cases n<;>rfl
theorem Bn:v8 x Js Ψ b E md ρ M=DK Ψ b E md ρ M:=rfl
theorem Cn:v8 (.lst ts) Jt Ψ b E md ρ M=DK Ψ b E md (lockA ρ) λxs _=>M xs ρ:=rfl
theorem Zn{x:D}:Dm (.d x) n Ψ b E ρ M=DK Ψ b E [] ρ M:=by cases n<;>rfl
end
end
section
variable{Ψ:PEv}{E:XE}{ρ σ:kA}{Z:PEnds}{s r q:PT}{i:Nat}{e c its:PX}{o:Option Sl}{n:Bool}{v:D}{P:Prop}{ds:List D}{x:T}
section
variable{j:Nat}{is:LN}{A B:Prop}
theorem zA:lB Ψ E .nil Z ρ=Z.nx ρ:=rfl
theorem M9:lB Ψ E (.seq (.set i e) r) Z (o::σ)=NB Ψ e E (o::σ) λx n h=>UM Ψ E r Z i x n h:=rfl
theorem P9:lB Ψ E (.seq (.own i e) r) Z (o::σ)=NB Ψ e E (o::σ) λx n h=>xh Ψ E r Z i x n h:=rfl
theorem T2:lB Ψ E (.seq (.expr e) r) Z (o::σ)=NB Ψ e E (o::σ) λ_ _ h=>lB Ψ E r Z h:=rfl
theorem O9:lB Ψ E (.seq (.ret e) r) Z (o::σ)=XI Ψ E Z.rt e (o::σ):=rfl
theorem R9:lB Ψ E (.seq (.ife c s .nil) r) Z (o::σ)=CT Ψ c E (o::σ) λk h=>if k=Js then lB Ψ E s { Z with nx:=λy=>lB Ψ E r Z y } h else lB Ψ E r Z h:=rfl
theorem T9{u:Tg}{k:ItK}:lB Ψ E (.seq (.for_ u k its q) r) Z (o::σ)=DK Ψ its E [] (o::σ) λxs h=>GK k xs λy =>
   if yO xs=Js then sG (lB Ψ E q) u { Z with nx:=λz=>lB Ψ E r Z (kill u.ix z) } y h
   else sG (lB Ψ E q) u { Z with nx:=λz=>LQ u.ix (jC h (SF its)) h (λw=>lB Ψ E r Z w) (kill u.ix z) } y (lock (jC h (SF its)) h):=rfl
theorem L9{a:PX}:lB Ψ E (.seq (.six (.kw j) a e) r) Z (o::σ)=zD (o::σ)[j]? λt=>NB Ψ e E ((o::σ).set j (Jp (.ny t))) λx n z=>NC x n (NB Ψ a E z λy m h=>NC y m (h[j]?=Jp (Jp (.ny t))/\fg t y x λt'=>lB Ψ E r Z (h.set j (Jp (.own t'))))):=rfl
theorem O2{a k:PX}:lB Ψ E (.seq (.six (.idx (.kw j) k) a e) r) Z (o::σ)=zD (o::σ)[j]? λt=>NB Ψ e E ((o::σ).set j (Jp (.ny t))) λx n w=>NC x n (NB Ψ k E w λz l u=>NC z l (ug z t λs put=>NB Ψ a E u λy m h=>NC y m (h[j]?=Jp (Jp (.ny t))/\fg s y x λs'=>lB Ψ E r Z (h.set j (Jp (.own (put s'))))))):=rfl
theorem N9{k:PX}:lB Ψ E (.seq (.sdf j k) r) Z (o::σ)=zD (o::σ)[j]? λt=>g7 t=Js/\NB Ψ k E ((o::σ).set j (Jp (.ny t))) λy m h=>NC y m (h[j]?=Jp (Jp (.ny t))/\Zg y t λt'=>lB Ψ E r Z (h.set j (Jp (.own t')))):=rfl
theorem N2:lB Ψ E (.seq (.tset is e) r) Z (o::σ)=NB Ψ e E (o::σ) λx n y=>NC x n (E1 (.tp is) (.d x.er) y λh=>lB Ψ E r Z h):=rfl
theorem S9:lB Ψ E (.seq (.frz is s) r) Z (o::σ)=lB Ψ E (.seq s r) Z (frzAt is (o::σ)):=rfl
theorem G9:lB Ψ E (.seq (.whl c q) r) Z (o::σ)=Cf Ψ E c q { Z with nx:=λh=>lB Ψ E r Z h } (o::σ):=rfl
theorem Xn:UM Ψ E r Z i (.d v) n ρ=lB Ψ E r Z (ρ.set i (bD v)):=gx #[λh=>h.2,λh=>#[by cases n<;>rfl,h]]
theorem Jm:UM Ψ E r Z i (.lst (ds.map T.d)) Js ρ=lB Ψ E r Z (ρ.set i (bD (.list ds))):=by unfold UM T.er;rw[bB];exact gx #[λh=>h.2,λh=>#[rfl,h]]
theorem yn:xh Ψ E r Z i x Js ρ=lB Ψ E r Z (ρ.set i (Jp (.own x))):=gx #[λh=>h.2,λh=>#[rfl,h]]
theorem vo:NC (.d v) n P=P:=gx #[λh=>h.2,λh=>#[by cases n<;>rfl,h]]
theorem ko:NC x Js P=P:=gx #[λh=>h.2,λh=>#[rfl,h]]
theorem jU:(([]:LT)=[]/\P)=P:=gx #[λh=>h.2,λh=>#[rfl,h]]
theorem Oh:(if(true:Bool)=Js then A else B)=A:=rfl
theorem Ph:(if(false:Bool)=Js then A else B)=B:=rfl
theorem Yn{v h:Option Sl}:lB Ψ E r Z (QAI (h::σ) 0 v)=lB Ψ E r Z (v::σ):=rfl
theorem Jn{v h y:Option Sl}:lB Ψ E r Z (QAI (h::y::σ) 1 v)=lB Ψ E r Z (h::v::σ):=rfl
theorem on{v y h z:Option Sl}:lB Ψ E r Z (QAI (y::h::z::σ) 2 v)=lB Ψ E r Z (y::h::v::σ):=rfl
theorem gn{v z y h u:Option Sl}:lB Ψ E r Z (QAI (z::y::h::u::σ) 3 v)=lB Ψ E r Z (z::y::h::v::σ):=rfl
theorem dn{v u z y h w:Option Sl}:lB Ψ E r Z (QAI (u::z::y::h::w::σ) 4 v)=lB Ψ E r Z (u::z::y::h::v::σ):=rfl
theorem cn{v w u z y h k:Option Sl}:lB Ψ E r Z (QAI (w::u::z::y::h::k::σ) 5 v)=lB Ψ E r Z (w::u::z::y::h::v::σ):=rfl
theorem bn{v k w u z y h a:Option Sl}:lB Ψ E r Z (QAI (k::w::u::z::y::h::a::σ) 6 v)=lB Ψ E r Z (k::w::u::z::y::h::v::σ):=rfl
theorem xn{v a k w u z y h b:Option Sl}:lB Ψ E r Z (QAI (a::k::w::u::z::y::h::b::σ) 7 v)=lB Ψ E r Z (a::k::w::u::z::y::h::v::σ):=rfl
theorem vn{v b a k w u z y h f:Option Sl}:lB Ψ E r Z (QAI (b::a::k::w::u::z::y::h::f::σ) 8 v)=lB Ψ E r Z (b::a::k::w::u::z::y::h::v::σ):=rfl
theorem zn{v f b a k w u z y h g:Option Sl}:lB Ψ E r Z (QAI (f::b::a::k::w::u::z::y::h::g::σ) 9 v)=lB Ψ E r Z (f::b::a::k::w::u::z::y::h::v::σ):=rfl
theorem kj{v l g f b a k w u z y h:Option Sl}:lB Ψ E r Z (QAI (l::g::f::b::a::k::w::u::z::y::h::σ) 10 v)=lB Ψ E r Z (l::g::f::b::a::k::w::u::z::y::v::σ):=rfl
theorem zj{v m l g f b a k w u z h y:Option Sl}:lB Ψ E r Z (QAI (m::l::g::f::b::a::k::w::u::z::h::y::σ) 11 v)=lB Ψ E r Z (m::l::g::f::b::a::k::w::u::z::h::v::σ):=rfl
theorem yj{v p m l g f b a k w u y h z:Option Sl}:lB Ψ E r Z (QAI (p::m::l::g::f::b::a::k::w::u::y::h::z::σ) 12 v)=lB Ψ E r Z (p::m::l::g::f::b::a::k::w::u::y::h::v::σ):=rfl
end
end
section
variable{d:D}{n m:Bool}{i j:Int}{z y:Str}{b:Bool}{xs:List (T×Bool)}{ts:LT}{ds es:List D}{md:List Md}{t:T}{C:LT->Prop}{Q:T->Bool->Prop}{L:Bool->Prop}{R:T->Prop}{W:LT->Prop}
section
variable{ρ:kA}{P:kA->Prop}{e f k:D}{w:Vr}{kvs:List (D×D)}{l u:Option Int}
theorem dg{i:Int}{x:D}{Q:T->Prop}(h0:0<=i)(v:i<ds.9)(q:Q (.lst ((ds.set i.toNat x).map T.d))):fg (.lst (ds.map T.d)) (.d (.int i)) (.d x) Q:=by
 have h:i.toNat<ds.length:=()
 refine#[i.toNat,?_,by rw[<- QDb];exact q];unfold dO;rw[QG];rw[Gw h0,Gw v]
theorem l9{l:LN}{i:Int}{K:Nat->Prop}(h0:0<=i)(a:i<l.9)(k:∀v,v∈l->K v):CC (BE l i) K:=by let#[v,x,h]:=CU h0 a;exact#[v,x,k v (Qq h)]
theorem V2{i:Int}{K:D->Prop}(h0:0<=i)(a:i<ds.9)(k:∀v,v∈ds->K v):CC (BE ds i) K:=by let#[v,x,h]:=CU h0 a;exact#[v,x,k v (Qq h)]
theorem B9{J:LN}{x:kA}{N:kA->Prop}:LQ J [] x N ρ=N ρ:=gx #[λh=>h.2,λh=>#[λ_ z=>(nomatch z),h]]
theorem sB{α:Type}(f:α->D)(l:List α):l.map (λc=>T.d (f c))=(l.map f).map T.d:=by rw[Qi];rfl
theorem cC:(bA (.lst (ds.map T.d)) n).vw=.ls (ds.map T.d):=by cases n;rfl;show Vw.ls ((ersT (ds.map T.d)).map T.d)=_;rw[bB]
theorem xa:rB md [] C=C []:=BC
theorem Am:rB [] ((.d d,n)::xs) C=rB [] xs λts=>C (.d d::ts):=by
 have e:JA [] ((.d d,n)::xs) []=(JA [] xs []).map (.d d::·):=by cases n<;>rfl
 unfold rB;rw[e,jF]
theorem bm:rB [] ((.lst (ds.map T.d),Js)::xs) C=rB [] xs λts=>C (.d (.list ds)::ts):=by have e:JA [] ((.lst (ds.map T.d),Js)::xs) []=(JA [] xs []).map (.d (.list (ersT (ds.map T.d)))::·):=rfl;unfold rB;rw[e,jF,bB]
theorem Em:rB (.ny::md) ((t,Jt)::xs) C=rB md xs λts=>C (t::ts):=by have e:JA (.ny::md) ((t,Jt)::xs) []=(JA md xs []).map (t::·):=rfl;unfold rB;rw[e,jF]
theorem cb:AE (.lst (ds.map T.d))=Jp (.lst (ds.map T.d)):=by simp only[AE,T.vw,oA,qV]
theorem Do{u:T}(h:AE (bA t n)=Jp u):rB (.kr::md) ((t,n)::xs) C=rB md xs λts=>C (u::ts):=by
 have e:JA (.kr::md) ((t,n)::xs) []=(JA md xs []).map (u::·):=by show(match AE (bA t n) with|some t=>(JA md xs []).map (t::·)|none=>Jr)=_;rw[h]
 unfold rB;rw[e,jF]
theorem Ei:rB (.kr::md) ((.lst (ds.map T.d),n)::xs) C=rB md xs λts=>C (.lst (ds.map T.d)::ts):=Do (by cases n;exact cb;show AE (.d (.list (ersT (ds.map T.d))))=_;rw[bB];simp only[AE,T.vw,oA,qV])
theorem ba:fN [] C=C []:=gx #[λh=>h.2,λh=>#[rfl,h]]
theorem Kn:fN ((.lst (ds.map T.d),Js)::xs) C=fN xs λts=>C (.lst (ds.map T.d)::ts):=by show((zG (.lst (ds.map T.d)) Js&&aE xs)=Js/\C (.lst (ds.map T.d)::RE xs))=(aE xs=Js/\C (.lst (ds.map T.d)::RE xs));rw[show zG (.lst (ds.map T.d)) Js=Js from rfl,QBq]
theorem Vn:fN ((.d d,n)::xs) C=fN xs λts=>C (.d d::ts):=by show((zG (.d d) n&&aE xs)=Js/\C (.d d::RE xs))=(aE xs=Js/\C (.d d::RE xs));rw[show zG (.d d) n=Js by cases n<;>rfl,QBq]
theorem lj{i:Nat}:E1 (.nm i) t ρ P=P (ρ.set i (Jp (.ny t))):=rfl
theorem Yi{h:Tg}:JI h t ρ P=E1 h t ρ P:=rfl
theorem U9:xE .Add (.d (.int i)) n (.d (.int j)) m Q=Q (.d (.int (i+j))) false:=by unfold xE;rw[fA,fA];exact Fe i j
theorem Y9:xE .Sub (.d (.int i)) n (.d (.int j)) m Q=Q (.d (.int (i - j))) false:=by unfold xE;rw[fA,fA];exact Ce i j
theorem K9:xE .Mult (.d (.int i)) n (.d (.int j)) m Q=(Xs i j/\Q (.d (.int (i * j))) Jt):=by unfold xE;rw[fA,fA];exact Be i j
theorem Z9:xE .Mult (.d (.str z)) n (.d (.int j)) m Q=((-(2 ^ 31)<=j/\j<2 ^ 31/\z.9 * j.toNat<=jx)/\Q (.d (.str (RG z j))) Jt):=by unfold xE;rw[fA,fA];exact Ue z j
theorem X9:xE .FloorDiv (.d (.int i)) n (.d (.int j)) m Q=((0<j/\j<2 ^ 200)/\Q (.d (.int (i / j))) Jt):=by unfold xE;rw[fA,fA];exact Xe i j
theorem V9:xE .Mod (.d (.int i)) n (.d (.int j)) m Q=(0<j/\Q (.d (.int (i % j))) Jt):=by unfold xE;rw[fA,fA];exact Ve i j
theorem Pi:xE .Add (.lst (ds.map T.d)) n (.lst (es.map T.d)) m Q=(ds.9+es.9<=jx/\Q (.lst ((ds++es).map T.d)) Js):=by unfold xE;rw[cC,cC,De,oA,oA];exact gx #[λ#[_,_,x,h,k]=>by cases x;cases h;exact k,λk=>#[_,_,rfl,rfl,k]]
theorem Ri:xE .Add t n (.lst [.d d]) m Q=xE .Add t n (.lst ([d].map T.d)) m Q:=rfl
theorem Ch:dH [.d d,.d e]=.d (.tuple [d,e]):=rfl
theorem Bh{g:D}:dH [.d d,.d e,.d f,.d g]=.d (.tuple [d,e,f,g]):=rfl
theorem c9:HD .Eq (.d (.int i)) (.d (.int j)) L=L (decide (i=j)):=rfl
theorem b9:HD .Eq (.d (.str z)) (.d (.str y)) L=L (decide (z=y)):=rfl
theorem k9:HD .NotEq (.d (.int i)) (.d (.int j)) L=L (!decide (i=j)):=rfl
theorem z9:HD .NotEq (.d (.str z)) (.d (.str y)) L=L (!decide (z=y)):=rfl
theorem v9{c:Bool}:HD .NotEq (.d (.bool b)) (.d (.bool c)) L=L (!decide (b=c)):=rfl
theorem vi:HD .Lt (.d (.int i)) (.d (.int j)) L=L (decide (i<j)):=rfl
theorem ui:HD .Gt (.d (.int i)) (.d (.int j)) L=L (decide (j<i)):=rfl
theorem Hm:HD w t (bA (.d d) m) L=HD w t (.d d) L:=by rw[fA]
theorem mi{u:T}:HD w t (bA u Jt) L=HD w t u L:=rfl
theorem A1:HD .NotIn (.d (.str z)) (.d (.list ds)) L=(((VB (.str z)=Js/\ds.all VB=Js)∨(zF (.str z)/\zF (.list ds)))/\L (!(ds.any λy=>qP y (.str z)))):=rfl
theorem JS{ks:List D}:HD .NotIn (.d d) (.dct b ks ts) L=(sE b d/\L (!(dA ks d).isSome)):=by show(sE b d/\((CmpOp.NotIn=.In/\L (dA ks d).isSome)∨(CmpOp.NotIn=.NotIn/\L (!(dA ks d).isSome))))=_;simp
theorem x9:HD .In (.d (.str z)) (.d (.tuple ds)) L=(((VB (.str z)=Js/\ds.all VB=Js)∨(zF (.str z)/\zF (.list ds)))/\L (ds.any λy=>qP y (.str z))):=rfl
theorem C8:IK .max [(.d (.int i),n),(.d (.int j),m)] Q=Q (.d (.int (if j > i then j else i))) false:=by unfold IK HB HB HB;rw[fA,fA];exact He i j
theorem B8:IK .tuple [(.lst (ds.map T.d),n)] Q=Q (.d (.tuple ds)) false:=by unfold IK HB;rw[cC];refine(Ki _).trans ?_;rw[oA];exact BC
theorem Jh:IK .len [(.d (.list ds),n)] Q=Q (.d (.int ds.9)) false:=by unfold IK HB;rw[fA];refine(g9 _).trans ?_;rw[QG]
theorem eh:IK .len [(.lst (ds.map T.d),n)] Q=Q (.d (.int ds.9)) false:=by unfold IK HB;rw[cC];refine(g9 _).trans ?_;rw[QG]
theorem F8:IK .any [(.lst (ds.map T.d),n)] Q=∃bs:List Bool,ds=bs.map PyData.bool/\Q (.d (.bool (bs.any id))) false:=by unfold IK HB;rw[cC];refine(Xi _).trans ?_;simp only[oA,Qs]
theorem D8:IK .list [(.d (.list ds),n)] Q=Q (.lst (ds.map T.d)) true:=by unfold IK HB;rw[fA];refine(Vi _).trans ?_;rw[oA];exact BC
theorem T0:OP (.ls ts) k R=False:=gx #[λ#[_,_,_,_,_,e,_]=>(by cases e),Qh]
theorem Td:OP (.tp ts) k R=False:=gx #[λ#[_,_,_,_,_,e,_]=>(by cases e),Qh]
theorem Ad{x:D}:OP (.sc x) k R=False:=gx #[λ#[_,_,_,_,_,e,_]=>(by cases e),Qh]
theorem Xm:FC (.lst (ds.map T.d)) n (.d (.int i)) m R=CC (BE ds i) λd=>R (.d d):=by unfold FC;rw[cC,fA,T0,or_false];refine(TZ _ _).trans ?_;show CC (BE (ds.map T.d) i) R=_;rw[TN,jF]
theorem Zf:FC (.d (.list ds)) n (.d (.int i)) m R=CC (BE ds i) λd=>R (.d d):=by unfold FC;rw[fA,fA,show(T.d (.list ds)).vw=.ls (ds.map T.d) from rfl,T0,or_false];refine(TZ _ _).trans ?_;show CC (BE (ds.map T.d) i) R=_;rw[TN,jF]
theorem T3:FC (.d (.tuple ds)) n (.d (.int i)) m R=CC (BE ds i) λd=>R (.d d):=by unfold FC;rw[fA,fA,show(T.d (.tuple ds)).vw=.tp (ds.map T.d) from rfl,Td,or_false];refine(Cd _ _).trans ?_;show CC (BE (ds.map T.d) i) R=_;rw[TN,jF]
theorem Vm:FC (.d (.str z)) n (.d (.int i)) m R=(z.9<=jx/\CC (BE z.cps.toList i) λc=>R (.d (.str #[(WZ [c])]))):=by unfold FC;rw[fA,fA,show(T.d (.str z)).vw=.sc (.str z) from rfl,Ad,or_false];exact Dd _ _
theorem Vf:FC (.lst [.d d,.d e,.d f]) n t m R=FC (.lst ([d,e,f].map T.d)) n t m R:=rfl
theorem Kf{g:D}:FC (.lst [.d d,.d e,.d f,.d g]) n t m R=FC (.lst ([d,e,f,g].map T.d)) n t m R:=rfl
theorem Xf{q:Bool}{l:Nat}(g:iC kvs=Jp q)(a:sE q k)(v:dA (kvs.map (·.1)) k=Jp l)(h:(kvs.map (·.2))[l]?=Jp e)(x:R (.d e)):FC (.d (.dict kvs)) n (.d k) m R:=by
 unfold FC;rw[fA];refine .inr ?_;show OP (iB kvs) k R;unfold iB;rw[g];refine#[q,_,_,l,.d e,rfl,a,v,?_,x];rw[Qg]at h ⊢;cases z:kvs[l]? with|none=>rw[z]at h;cases h|some p=>rw[z]at h;cases h;rfl
theorem Fm:vV (.d (.list ds)) n l u Q=Q (.lst ((kE ds l u).map T.d)) true:=by unfold vV;rw[fA];refine(JX _).trans ?_;rw[oA];exact BC
theorem Vg:vV (.lst (ds.map T.d)) n l u Q=Q (.lst ((kE ds l u).map T.d)) true:=by unfold vV;rw[cC];refine(JX _).trans ?_;rw[oA];exact BC
theorem Fh:Gk .join (.d (.str z)) n [(.lst (ds.map T.d),m)] Q=∃h:LS,ds=h.map Jx/\(h.map (·.length)).sum+h.9 * z.9<=16777216/\Q (.d (.str (QBz z h))) false:=by unfold Gk HB;rw[fA,cC];refine(Vh z _).trans ?_;simp only[oA,Qs]
theorem Dh{P:Prop}:(UR .join (bA (.d (.str z)) n).vw=Js/\P)=P:=gx #[λh=>h.2,λh=>#[Pc rfl,h]]
theorem Bm:GK .val [(.d (.list ds),n)] W=W (ds.map T.d):=by unfold GK HB;rw[fA];exact CP _
theorem Um:GK .val [(.d (.tuple ds),n)] W=W (ds.map T.d):=by unfold GK HB;rw[fA];exact HZ _
theorem Mf:GK .val [(.lst (ds.map T.d),n)] W=W (ds.map T.d):=by unfold GK HB;rw[cC];exact CP _
theorem Lf:GK .rng1 [(.d (.int j),n)] W=((-(2 ^ 62)<=j/\j<2 ^ 62)/\W ((Qj j.toNat).map λ(i:Nat)=>.d (.int (i:Int)))):=by unfold GK HB;rw[fA];exact GZ j
theorem Pf:GK .enum [(.d (.list ds),n)] W=W (ds.zipIdx.map λp=>.d (.tuple [.int (p.2:Int),p.1])):=by unfold GK HB;rw[fA];refine(BP _).trans ?_;exact gx #[λ#[_,_,x,h,k]=>by cases x;rw[oA]at h;cases h;exact k,λk=>#[_,_,rfl,oA _,k]]
theorem E7:GK .enum [(.lst (ds.map T.d),n)] W=W (ds.zipIdx.map λp=>.d (.tuple [.int (p.2:Int),p.1])):=by unfold GK HB;rw[cC];refine(BP _).trans ?_;exact gx #[λ#[_,_,x,h,k]=>by cases x;rw[oA]at h;cases h;exact k,λk=>#[_,_,rfl,oA _,k]]
theorem Nf(h:kvs=[]∨iC kvs=Jp Js):GK .itm [(.d (.dict kvs),n)] W=W (kvs.map λp=>.d (.tuple [p.1,p.2])):=by
 unfold GK HB;rw[fA];show ZB .itm [iB kvs] W=_;rcases h with rfl|h;exact FZ;unfold iB;rw[h];refine(UP _ _).trans ?_;have e:(kvs.map λp=>T.d p.2)=(kvs.map (·.2)).map T.d:=by rw[Qi];rfl
 have x:((kvs.map (·.1)).zip (kvs.map (·.2))).map (λp=>T.d (.tuple [p.1,p.2]))=kvs.map λp=>T.d (.tuple [p.1,p.2]):=by rw[QB2,Qi];rfl
 refine gx #[λ#[ds,v,k]=>?_,λk=>#[kvs.map (·.2),by rw[e,oA],?_]];rw[e,oA]at v;cases v;rw[x]at k;exact k;rw[x];exact k
theorem Se{ss:LS}{Q:T->Bool->Prop}(h:ss.9<64)(q:∀x:LS,x.Nodup->(∀s,s∈x↔s∈ss)->zy x=Js->Q (.lst ((x.map Jx).map T.d)) Js):vL (bA (.lst ((ss.map Jx).map T.d)) Js).vw Q:=by rw[cC];exact .inl #[_,ss,rfl,oA _,h,q]
noncomputable def eZ(Q:T->LT->Prop):PEnds:={ nx:=λ_=>Q (.d .none) [],rt:=λt _=>Q t [] }
theorem j9{Q:T->LT->Prop}{t:T}:(eZ Q).rt t ρ=Q t []:=rfl
theorem OA{Ψ:PEv}{b:PT}{p:PSp}{N x:LS}{ds:LT}{Q:T->LT->Prop}(ρ:kA)(h:pF Ψ b (eZ Q) ρ)(hl:ds.9=x.length:=by rfl)(hc:XB 0 p.md x.9=[]:=by rfl)(hs:LA N p.md ds=ρ:=by rfl):ds.9=x.9/\pF Ψ b (YC p x.9 Q) (LA N p.md ds):=by
 have e:YC p x.9 Q=eZ Q:=by unfold YC;rw[hc];rfl
 rw[e,hs];exact#[hl,h]
end
end
end L2.L3
namespace L2.L3.K13
open PySem PySem.Spec PyProof.Rows L2 L2.L3
section
variable{c k i m s v:Int}{K Q:T->LT->Prop}{Ψ:PEv}{Y ns st X:LS}{n c1:Nat}{Z:PEnds}{sc:Sl}{es:LB}{o6 o7 o8 U o13 o9 o10 o11:Option Sl}{p q:Pt}{r:Rm}{l:Inn}{a b g:Str}{w:Wy}{e:Str×Str}
def VI(i:Nat):Stmt:=qk.main.body.getD i (.Pass #[0,0,0,0])
noncomputable def iF:LS:=["edges","starts","goal","rooms","came_from","firsts","chains"]
def FE:LS:=["edges","starts","goal"]
noncomputable def OJ:Need:=#[["rooms_of","points_reached","lay_chain","chain_from","full_names"],["BEGIN"],["sorted"]]
noncomputable def nC:PT :=
  %[.expr (.call "lay_chain" %[.kw 3,.kw 4,.tup %[.kw 2,.str "to"|1]|1]),.set 4 (.call "points_reached" %[.kw 3|1])|2]
def eF:PT :=
  %[.own 3 (.call "rooms_of" %[.kw 0,.kw 1,.kw 2|1]),.set 4 (.call "points_reached" %[.kw 3|1]),.whl (.cmp .In (.tup %[.kw 2,.str "to"|1]) (.kw 4)) nC,.set 5 (.comp [] ["point"] (.nm 0) .val %[.idx (.kw 3) (.glo "BEGIN")|1] (.cmp .Gt (.idx (.idx (.kw 4) (.kw 0)) (.glo "BEGIN")) (.int 0)) (.idx (.kw 0) (.int 0))),.set 6 (.comp [] ["first"] (.nm 0) .val %[.kw 5|1] .nop (.call "chain_from" %[.kw 4,.kw 0,.kw 3|1])),.ret (.tup %[.bi .sorted %[.kw 6|1],.call "full_names" %[.kw 4|1]|1])|2]
theorem DI:ZC OJ eF iF FE (VI 3)=true:=by kernel_rfl
noncomputable def ZI:LS:=["edges","starts","goal","cut","edges_left","starts_left"]
def yH:LS:=["edges","starts","goal","cut"]
def dP:Need:=#[["points_reached","rooms_of"],[],[]]
noncomputable def YI:PT :=
  %[.set 4 (.comp [] ["edge"] (.nm 0) .val %[.kw 0|1] (.cmp .NotIn (.idx (.kw 0) (.int 0)) (.kw 4)) (.kw 0)),.set 5 (.comp [] ["name"] (.nm 0) .val %[.kw 1|1] (.cmp .NotIn (.kw 0) (.kw 4)) (.kw 0)),.ret (.cmp .NotIn (.tup %[.kw 2,.str "to"|1]) (.call "points_reached" %[.call "rooms_of" %[.kw 4,.kw 5,.kw 2|1]|1]))|2]
theorem FN:ZC dP YI ZI yH (VI 4)=true:=by kernel_rfl
noncomputable def JK:LS:=["edges","starts","goal","rooms","name","first","second"]
def fI:LS:=["edges","starts","goal"]
def ZR:Need:=#[["add_name","add_way"],["BEGIN","WIDE"],[]]
noncomputable def JE:PT :=
  %[.ife (.cmp .NotEq (.kw 4) (.kw 2)) %[.expr (.call "add_name" %[.kw 3,.kw 4|1]),.expr (.call "add_way" %[.kw 3,.glo "BEGIN",.tup %[.kw 4,.str "to"|1],.glo "WIDE"|1])|2] .nil|2]
noncomputable def iE:PT :=
  %[.ife (.and (.cmp .NotEq (.kw 5) (.kw 2)) (.cmp .NotEq (.kw 5) (.kw 6))) %[.expr (.call "add_name" %[.kw 3,.kw 5|1]),.expr (.call "add_name" %[.kw 3,.kw 6|1]),.expr (.call "add_way" %[.kw 3,.tup %[.kw 5,.str "from"|1],.tup %[.kw 6,.str "to"|1],.glo "WIDE"|1])|2] .nil|2]
def sK:PT :=
  %[.own 3 (.dsp (.glo "BEGIN") (.dnew Js)),.for_ (.nm 4) .val %[.kw 1|1] JE,.for_ (.tp [5,6]) .val %[.kw 0|1] iE,.ret (.kw 3)|2]
theorem dQ:ZC ZR sK JK fI (VI 5)=true:=by kernel_rfl
def ZK:LS:=["rooms","name"]
def gI:LS:=["rooms","name"]
def KR:Need:=#[["add_way"],[],[]]
noncomputable def JG:PT :=
  %[.expr (.call "add_way" %[.kw 0,.tup %[.kw 1,.str "to"|1],.tup %[.kw 1,.str "from"|1],.int 1|1])|2]
theorem fQ:ZC KR JG ZK gI (VI 6)=true:=by kernel_rfl
def uM:LS:=["rooms","here","there","room"]
def XJ:LS:=["rooms","here","there","room"]
def MV:Need:=#[[],[],[]]
noncomputable def jM:PT :=
  %[.sdf 0 (.kw 1),.sdf 0 (.kw 2),.six (.idx (.kw 0) (.kw 1)) (.kw 2) (.kw 3),.six (.idx (.kw 0) (.kw 2)) (.kw 1) (.int 0)|2]
theorem aS:ZC MV jM uM XJ (VI 7)=true:=by kernel_rfl
noncomputable def dE:LS:=["rooms","came_from","waiting","here","there","room"]
def oD:LS:=["rooms"]
def PH:Need:=#[[],["BEGIN"],["len"]]
noncomputable def RA:PT :=
  %[.ife (.and (.cmp .Gt (.kw 5) (.int 0)) (.cmp .NotIn (.kw 4) (.kw 1))) %[.six (.kw 1) (.kw 4) (.kw 3),.expr (.mt .append (.kw 2) %[.kw 4|1])|2] .nil|2]
def dD:PT :=
  %[.set 3 (.mt .pop (.kw 2) %[.int 0|1]),.for_ (.tp [4,5]) .itm %[.idx (.kw 0) (.kw 3)|1] RA|2]
def uE:PT :=
  %[.own 1 (.dsp (.glo "BEGIN") .non),.own 2 (.lst %[.glo "BEGIN"|1]),.whl (.cmp .Gt (.bi .len %[.kw 2|1]) (.int 0)) dD,.ret (.kw 1)|2]
theorem tH:ZC PH uE dE oD (VI 8)=true:=by kernel_rfl
def KI:LS:=["rooms","came_from","last","there","here"]
def zH:LS:=["rooms","came_from","last"]
def fP:Need:=#[[],["BEGIN"],[]]
noncomputable def MD:PT :=
  %[.set 4 (.idx (.kw 1) (.kw 3)),.six (.idx (.kw 0) (.kw 4)) (.kw 3) (.bin .Sub (.idx (.idx (.kw 0) (.kw 4)) (.kw 3)) (.int 1)),.six (.idx (.kw 0) (.kw 3)) (.kw 4) (.bin .Add (.idx (.idx (.kw 0) (.kw 3)) (.kw 4)) (.int 1)),.set 3 (.kw 4)|2]
def aF:PT :=
  %[.set 3 (.kw 2),.whl (.cmp .NotEq (.kw 3) (.glo "BEGIN")) MD|2]
theorem GN:ZC fP aF KI zH (VI 9)=true:=by kernel_rfl
def UH:LS:=["rooms","first","goal","chain","name"]
def yG:LS:=["rooms","first","goal"]
def bN:Need:=#[["name_behind"],[],[]]
noncomputable def gD:PT :=
  %[.expr (.mt .append (.kw 3) %[.kw 4|1]),.set 4 (.call "name_behind" %[.kw 0,.kw 4|1])|2]
def UE:PT :=
  %[.own 3 (.lst .nr),.set 4 (.kw 1),.whl (.cmp .NotEq (.kw 4) (.kw 2)) gD,.ret (.kw 3)|2]
theorem SK:ZC bN UE UH yG (VI 10)=true:=by kernel_rfl
def vG:LS:=["rooms","name","here"]
def IE:LS:=["rooms","name"]
def FK:Need:=#[[],[],[]]
noncomputable def LD:PT :=
  %[.set 2 (.tup %[.kw 1,.str "from"|1]),.ret (.idx (.comp [] ["there"] (.nm 0) .val %[.idx (.kw 0) (.kw 2)|1] (.and (.cmp .NotEq (.idx (.kw 0) (.int 0)) (.kw 2)) (.cmp .Gt (.idx (.idx (.kw 1) (.kw 0)) (.kw 3)) (.int 0))) (.idx (.kw 0) (.int 0))) (.int 0))|2]
theorem lK:ZC FK LD vG IE (VI 11)=true:=by kernel_rfl
def XH:LS:=["came_from"]
def jG:LS:=["came_from"]
def uN:Need:=#[[],[],["sorted"]]
noncomputable def VE:PT :=
  %[.ret (.bi .sorted %[.comp [] ["point"] (.nm 0) .val %[.kw 0|1] (.and (.cmp .Eq (.idx (.kw 0) (.int 1)) (.str "to")) (.cmp .NotIn (.tup %[.idx (.kw 0) (.int 0),.str "from"|1]) (.kw 1))) (.idx (.kw 0) (.int 0))|1])|2]
theorem RK:ZC uN VE XH jG (VI 12)=true:=by kernel_rfl
def xM:LS:=["_law_cell_here","_law_k","_law_m"]
def VJ:LS:=["_law_cell_here","_law_k"]
def GV:Need:=#[[],[],[]]
noncomputable def xI:PT :=
  %[.set 2 (.bin .Mod (.bin .Add (.bin .Mult (.bin .Mod (.kw 0) (.int 2147483647)) (.int 48271)) (.bin .Mult (.bin .Add (.bin .Add (.bin .Mult (.kw 1) (.kw 1)) (.bin .Mult (.int 3) (.kw 1))) (.int 7)) (.int 69621))) (.int 2147483647)),.ret (.bin .Mod (.bin .Mult (.kw 2) (.kw 2)) (.int 2147483647))|2]
theorem tS:ZC GV xI xM VJ (VI 15)=true:=by kernel_rfl
noncomputable def vM:LS:=["_law_cell_here","_law_many","_law_m","_law_base","_law_some","_law_size","_law_at","_law_out","_law_k","_law_signs"]
def KJ:LS:=["_law_cell_here","_law_many"]
def FV:Need:=#[["_law_mixed"],[],["range"]]
noncomputable def YD:PT :=
  %[.own 9 (.comp [] ["_law_place"] (.nm 0) .rng1 %[.kw 5|1] .nop (.kw 4)),.six (.kw 9) (.kw 6) (.idx (.kw 4) (.bin .Mod (.bin .Add (.bin .FloorDiv (.kw 2) (.int 4200)) (.bin .Mult (.int 3) (.kw 8))) (.int 20))),.six (.kw 9) (.bin .Mod (.bin .Add (.kw 6) (.int 1)) (.kw 5)) (.idx (.kw 4) (.bin .Mod (.bin .Add (.bin .FloorDiv (.kw 2) (.int 84000)) (.bin .FloorDiv (.kw 8) (.int 20))) (.int 20))),.expr (.mt .append (.kw 7) %[.mt .join (.str "") %[.kw 9|1]|1])|2]
def vI:PT :=
  %[.set 2 (.call "_law_mixed" %[.kw 0,.int 3|1]),.set 3 (.idx (.str "abcdefghijklmnpqrstvwxyz") (.bin .Mod (.kw 2) (.int 24))),.set 4 (.str "bcdfghjklmnpqrstvwxz"),.ife (.and (.cmp .Eq (.bin .Mod (.bin .FloorDiv (.kw 2) (.int 25)) (.int 3)) (.int 0)) (.cmp .Lt (.kw 1) (.int 9))) %[.ret (.comp [Jt,Jt,Jt,Jt,Jt,Jt,Jt,Jt,Js] ["_law_k"] (.nm 0) .rng1 %[.kw 1|1] .nop (.bin .Mult (.kw 4) (.bin .Sub (.kw 2) (.kw 0))))|2] .nil,.set 5 (.bin .Add (.int 2) (.bin .Mod (.bin .FloorDiv (.kw 2) (.int 75)) (.int 7))),.set 6 (.bin .Mod (.bin .FloorDiv (.kw 2) (.int 525)) (.kw 5)),.own 7 (.lst .nr),.for_ (.nm 8) .rng1 %[.kw 1|1] YD,.ret (.kw 7)|2]
theorem sS:ZC FV vI vM KJ (VI 16)=true:=by kernel_rfl
def iQ:LS:=["_law_script","_law_number","_law_cell_here"]
def rL:LS:=["_law_script"]
def mZ:Need:=#[[],[],[]]
noncomputable def tK:PT :=
  %[.set 1 (.bin .Mod (.bin .Add (.bin .Add (.bin .Mult (.kw 1) (.int 1000003)) (.kw 2)) (.int 1)) (.int 2147483647))|2]
def aK:PT :=
  %[.set 1 (.int 0),.for_ (.nm 2) .val %[.kw 0|1] tK,.ret (.kw 1)|2]
theorem aW:ZC mZ aK iQ rL (VI 17)=true:=by kernel_rfl
noncomputable def NU:LS:=["_law_script","_law_most_here","_law_seed","_law_m","_law_names_here","_law_edges","_law_k","_law_cell_here","_law_j","_law_n","_law_one","_law_other","_law_starts","_law_name"]
def NO:LS:=["_law_script","_law_most_here"]
noncomputable def r6:Need:=#[["_law_fold","_law_mixed","_law_names"],[],["enumerate","range","len"]]
noncomputable def YE:PT :=
  %[.ife (.cmp .Eq (.bin .Mod (.bin .FloorDiv (.kw 9) (.int 256)) (.idx (.lst %[.int 1,.int 2,.int 4|1]) (.bin .Mod (.bin .FloorDiv (.kw 3) (.int 27)) (.int 3)))) (.int 0)) %[.expr (.mt .append (.kw 5) %[.tup %[.idx (.kw 4) (.kw 10),.idx (.kw 4) (.kw 11)|1]|1])|2] .nil|2]
def kI:PT :=
  (.seq (.set 9 (.call "_law_mixed" %[.bin .Add (.kw 2) (.kw 7),.bin .Add (.bin .Add (.bin .Mult (.int 2) (.kw 6)) (.kw 8)) (.int 20)|1]))
  (.seq (.set 10 (.bin .Mod (.kw 9) (.bi .len %[.kw 4|1])))
  (.seq (.set 11 (.bin .Mod (.bin .FloorDiv (.kw 9) (.int 16)) (.bi .len %[.kw 4|1])))
  (.seq (.ife (.cmp .Gt (.bin .Mod (.bin .FloorDiv (.kw 3) (.int 9)) (.int 3)) (.int 0)) %[.set 11 (.bin .Mod (.bin .Add (.bin .Add (.kw 10) (.int 1)) (.bin .Mod (.bin .FloorDiv (.kw 9) (.int 16)) (.int 3))) (.bi .len %[.kw 4|1]))|2] .nil)
  YE))))
def zI:PT :=
  %[.for_ (.nm 8) .rng1 %[.bin .Add (.int 1) (.bin .Mod (.bin .FloorDiv (.kw 3) (.int 5000)) (.int 2))|1] kI|2]
noncomputable def yI:PT :=
  %[.ife (.cmp .Eq (.bin .Mod (.call "_law_mixed" %[.kw 2,.bin .Add (.int 200) (.kw 6)|1]) (.idx (.lst %[.int 2,.int 3,.int 2,.int 6|1]) (.bin .Mod (.bin .FloorDiv (.kw 3) (.int 81)) (.int 4)))) (.int 0)) %[.expr (.mt .append (.kw 12) %[.kw 13|1])|2] .nil|2]
noncomputable def eG:PT :=
  %[.frz [5,12] (.ret (.tup %[.kw 4,.kw 5,.kw 12,.idx (.kw 4) (.bin .Mod (.bin .FloorDiv (.kw 3) (.int 1296)) (.bi .len %[.kw 4|1]))|1]))|2]
def PN:PT :=
  (.seq (.set 2 (.call "_law_fold" %[.kw 0|1]))
  (.seq (.set 3 (.call "_law_mixed" %[.kw 2,.int 1|1]))
  (.seq (.set 4 (.call "_law_names" %[.kw 2,.bin .Add (.int 2) (.bin .Mod (.kw 3) (.bin .Sub (.kw 1) (.int 1)))|1]))
  (.seq (.own 5 (.lst .nr))
  (.seq (.for_ (.tp [6,7]) .enum %[.slc (.kw 0) .nop (.int 63)|1] zI)
  (.seq (.own 12 (.lst .nr))
  (.seq (.for_ (.tp [6,13]) .enum %[.kw 4|1] yI)
  (.seq (.ife (.cmp .Eq (.bin .Mod (.bin .FloorDiv (.kw 3) (.int 324)) (.int 4)) (.int 0)) %[.own 12 (.bin .Add (.kw 12) (.slc (.kw 12) .nop (.int 1)))|2] .nil)
  eG))))))))
theorem G1:ZC r6 PN NU NO (VI 18)=true:=by kernel_rfl
noncomputable def cI:LS:=["_law_edges","_law_goal","_law_chain","_law_found","_law_other"]
def jD:LS:=["_law_edges","_law_goal","_law_chain"]
def HV:Need:=#[["_law_grown"],[],["tuple","sorted","set"]]
noncomputable def VC:PT :=
  %[.ife (.and (.cmp .NotEq (.kw 4) (.kw 1)) (.cmp .NotIn (.kw 4) (.kw 2))) %[.own 3 (.bin .Add (.kw 3) (.call "_law_grown" %[.kw 0,.kw 1,.bin .Add (.kw 2) (.lst %[.kw 4|1])|1]))|2] .nil|2]
def ZE:PT :=
  %[.for_ (.nm 4) .val %[.sset (.comp [] ["_law_pair"] (.nm 0) .val %[.kw 0|1] (.cmp .Eq (.idx (.kw 0) (.int 0)) (.idx (.kw 3) (.neg (.int 1)))) (.idx (.kw 0) (.int 1)))|1] VC,.ret (.kw 3)|2]
def OF:PT :=
  (.seq (.own 3 (.lst .nr))
  (.seq (.ife (.cmp .In (.tup %[.idx (.kw 2) (.neg (.int 1)),.kw 1|1]) (.kw 0)) %[.expr (.mt .append (.kw 3) %[.bi .tuple %[.bi .sorted %[.kw 2|1]|1]|1])|2] .nil)
  ZE))
theorem cD:ZC HV OF cI jD (VI 19)=true:=by kernel_rfl
noncomputable def OU:LS:=["_law_edges","_law_starts","_law_goal","_law_found","_law_start"]
def OO:LS:=["_law_edges","_law_starts","_law_goal"]
def t6:Need:=#[["_law_grown"],[],["sorted","set"]]
noncomputable def PF:PT :=
  %[.ife (.cmp .NotEq (.kw 4) (.kw 2)) %[.set 3 (.bin .Add (.kw 3) (.call "_law_grown" %[.kw 0,.kw 2,.lst %[.kw 4|1]|1]))|2] .nil|2]
def RN:PT :=
  %[.set 3 (.lst .nr),.for_ (.nm 4) .val %[.kw 1|1] PF,.ret (.sset (.kw 3))|2]
theorem L1:ZC t6 RN OU OO (VI 20)=true:=by kernel_rfl
noncomputable def YK:LS:=["_law_rows","_law_most_here","_law_k","_law_row","_law_rest"]
def SD:LS:=["_law_rows"]
def lZ:Need:=#[["_law_most"],[],["enumerate","any","max"]]
noncomputable def iG:PT :=
  %[.set 4 (.comp [] ["_law_other"] (.nm 0) .val %[.slc (.kw 0) (.bin .Add (.kw 2) (.int 1)) .nop|1] (.not (.bi .any %[.comp [] ["_law_name"] (.nm 0) .val %[.kw 0|1] .nop (.cmp .In (.kw 0) (.kw 5))|1])) (.kw 0)),.set 1 (.bi .max %[.kw 1,.bin .Add (.int 1) (.call "_law_most" %[.kw 4|1])|1])|2]
def JH:PT :=
  %[.set 1 (.int 0),.for_ (.tp [2,3]) .enum %[.kw 0|1] iG,.ret (.kw 1)|2]
theorem mC:ZC lZ JH YK SD (VI 21)=true:=by kernel_rfl
noncomputable def ua:LS:=["_law_script","_law_names_here","_law_edges","_law_starts","_law_goal","_law_seed","_law_rows","_law_turn","_law_cut","_law_due"]
def bY:LS:=["_law_script"]
noncomputable def Yh:Need:=#[["_law_web","_law_fold","_law_all","apart_chains","_law_most","_law_mixed","meets_all"],[],["sorted","set","len","list","range","enumerate","all","any"]]
noncomputable def M7:PT :=
  %[.set 8 (.comp [] ["_law_k","_law_name"] (.tp [0,1]) .enum %[.kw 1|1] (.cmp .Eq (.bin .Mod (.call "_law_mixed" %[.kw 7,.bin .Add (.bin .Add (.int 400) (.bin .Mult (.int 9) (.kw 9))) (.kw 0)|1]) (.int 3)) (.int 0)) (.kw 1)),.set 9 (.bi .all %[.comp [] ["_law_row"] (.nm 0) .val %[.kw 6|1] .nop (.bi .any %[.comp [] ["_law_name"] (.nm 0) .val %[.kw 9|1] .nop (.cmp .In (.kw 0) (.kw 1))|1])|1]),.ife (.cmp .NotEq (.call "meets_all" %[.bi .list %[.kw 2|1],.bi .list %[.kw 3|1],.kw 4,.kw 8|1]) (.kw 9)) %[.ret (.bl Jt)|2] .nil|2]
def u2:PT :=
  %[.tset [1,2,3,4] (.call "_law_web" %[.kw 0,.int 5|1]),.set 5 (.call "_law_fold" %[.kw 0|1]),.set 6 (.call "_law_all" %[.sset (.kw 2),.kw 3,.kw 4|1]),.ife (.cmp .NotEq (.bi .len %[.idx (.call "apart_chains" %[.bi .list %[.kw 2|1],.bi .list %[.kw 3|1],.kw 4|1]) (.int 0)|1]) (.call "_law_most" %[.kw 6|1])) %[.ret (.bl Jt)|2] .nil,.for_ (.nm 7) .rng1 %[.int 4|1] M7,.ret (.bl Js)|2]
theorem be:ZC Yh u2 ua bY (VI 22)=true:=by kernel_rfl
noncomputable def MB:PSp where
 run:=λh Q _=>∃c k:Int,h=[.d (.int c),.d (.int k)]/\(0<=k/\k<=1000)/\∀v:Int,0<=v->Q (.d (.int v)) []
theorem OD{E:XE}:NX MB [.d (.int c),.d (.int k)] K E=((0<=k/\k<=1000)/\∀v:Int,0<=v->K (.d (.int v)) []):=gx #[λ#[_,_,e,q]=>by cases e;exact q,λq=>#[c,k,rfl,q]]
theorem NY:MU Ψ xI MB xM VJ:=by rintro _ Q _ ⟨c,k,rfl,⟨h0,y⟩,q⟩;refine OA [bD (.int c),bD (.int k),Jr] ?_;delta xI;simp![↓zA];have a:=Q1 c (show(2147483647:Int)≠0 by decide);have b:=Qo c (show(0:Int)<2147483647 by decide);have x:0<=(c % 2147483647 * 48271+(k * k+3 * k+7) * 69621) % 2147483647:=Q1 _ (by decide);have h:(c % 2147483647 * 48271+(k * k+3 * k+7) * 69621) % 2147483647<2147483647:=Qo _ (by decide);exact#[UK.ok (.inr #[(),()]),UK.ok (.inr #[(),()]),UK.ok (.inr #[(),()]),UK.ok (.inr #[(),()]),UK.ok (.inl #[(),()]),q _ (Q1 _ (by decide))]
noncomputable def HG:PSp where
 md:=[.kr]
 run:=λh Q _=>∃ns:LJ,h=[.lst ((ns.map Jy).map T.d)]/\∀v:Int,Q (.d (.int v)) []
theorem FO{ns:LJ}{E:XE}:NX HG [.lst ((ns.map Jy).map T.d)] K E=∀v:Int,K (.d (.int v)) []:=gx #[λ#[h,e,q]=>q,λq=>#[ns,rfl,q]]
theorem E5:MU Ψ aK HG iQ rL:=by rintro _ Q _ ⟨ns,rfl,q⟩;refine OA [Jp (.ny (.lst ((ns.map Jy).map T.d))),Jr,Jr] ?_;delta aK;simp![↓zA];rw[<- sB];refine FB (λ(n:Int)=>T.d (.int n)) (λl h=>∃a o,0<=a/\a<2147483647/\h=[Jp (.ny (.lst ((ns.map Jy).map T.d))),bD (.int a),o]) ?_ ?_ _ _ #[0,_,by decide,by decide,by rw[sB]];rintro h ⟨a,o,_,_,rfl⟩;simp![↓zA];exact q a;rintro x l h N y ⟨a,o,h0,z,rfl⟩;delta tK;simp![↓zA];exact#[UK.ok (.inr #[by decide,by decide]),y _ #[_,_,Q1 _ (by decide),Qo _ (by decide),rfl]]
def U3(s:Str):Prop:=s.9<=9/\∀c∈s.cps.toList,c<128
theorem mW(xs:List (Array Nat)):∀(h:Array Nat),(xs.foldl (·++·) h).toList=h.toList++(xs.map QDT).flatten:=by
 induction xs with|nil=>intro h;simp|cons a xs x=>intro h;rw[wg,x];simp
theorem vR(x:Str)(k:Int):(RG x k).cps.toList=(Q8 k.toNat x.cps.toList).flatten:=by
 unfold RG Txt.mul;split;rename_i h;have:k.toNat=0:=()
 rw[this];rfl;rename_i h;split;rename_i y;rw[w8]at y;rcases y with y|y;have:k=1:=by simpa using y
 subst this;simp;have z:x.9=0:=by simpa using y
 have:x.cps.toList=[]:=by
  have:x.cps.toList.9=0:=by rw[QM];exact z
  exact qt.mp this
 rw[this];simp;show((Q8 k.toNat x.cps).foldl (·++·) #[]).toList=_;rw[mW];simp
theorem Ub{c:Nat}(hc:c<128)(hk:k<=9):U3 (RG #[(WZ [c])] k):=by
 have h:=vR #[(WZ [c])] k;have e:(Q8 k.toNat ([c]:LN)).flatten=Q8 k.toNat c:=by
  generalize k.toNat=n;induction n with|zero=>rfl|succ n z=>rw[wX,WS,z,wX];rfl
 have h:(RG #[(WZ [c])] k).cps.toList=Q8 k.toNat c:=h.trans e;refine#[?_,λx y=>?_];have:=gV wm h;rw[QM,wF]at this;show(RG #[(WZ [c])] k).cps.size<=9;omega;rw[h]at y;rw[List.eq_of_mem_replicate y];exact hc
theorem TJ:∀(Y:LS),(QEC (Qz "") Y).cps.toList=(Y.map λy=>y.cps.toList).flatten
 |[]=>rfl|[y]=>by simp[QEC]|y::z::r=>by have h:=TJ (z::r);show((y.cps++(Qz "").cps)++(QEC (Qz "") (z::r)).cps).toList=_;rw[QCs,QCs,h,show(Qz "").cps.toList=[] by decide +kernel,wK];rfl
def one(y:Str):Prop:=∃c,c<128/\y=#[(WZ [c])]
theorem F6(hl:Y.9<=9)(h:∀y∈Y,one y):U3 (QBz (Qz "") Y):=by
 have e:(QBz (Qz "") Y).cps.toList=(Y.map λy=>y.cps.toList).flatten:=by rw[show QBz (Qz "") Y=QEC (Qz "") Y from StrLaws.glued_eq_join _ _];exact TJ Y
 have f:∀(Y:LS),(∀y∈Y,one y)->((Y.map λy=>y.cps.toList).flatten).9=Y.9/\∀c∈(Y.map λy=>y.cps.toList).flatten,c<128:=by
  intro Y;induction Y with
  |nil=>intro _;exact#[rfl,λc hc=>by simp at hc]|cons y r W =>
   intro h;let#[B,A]:=W λz C=>h z (QC _ C);let#[c,hc,rfl]:=h y QD;rw[QT,WS];refine#[?_,λx u=>?_];rw[QN,B,QL];show 1+r.9=r.9+1;omega;rcases QW.mp u with u|u
   ·have:x=c:=by simpa using u
    rw[this];exact hc
   exact A x u
 let#[o,j]:=f Y h;refine#[?_,by rw[e];exact j];have:=gV wm e;rw[QM,o]at this;show(QBz (Qz "") Y).cps.size<=9;omega
noncomputable def nJ:PSp where
 run:=λh Q _=>∃c k:Int,h=[.d (.int c),.d (.int k)]/\(2<=k/\k<=10)/\∀ns:LS,ns.9=k.toNat->(∀s∈ns,U3 s)->Q (.lst ((ns.map Jx).map T.d)) []
theorem Fi:(Qz "abcdefghijklmnpqrstvwxyz").cps.toList.9=24/\((Qz "abcdefghijklmnpqrstvwxyz").cps.toList.all λc=>decide (c<128))=true:=by decide +kernel
theorem Gi:(Qz "bcdfghjklmnpqrstvwxz").cps.toList.9=20/\((Qz "bcdfghjklmnpqrstvwxz").cps.toList.all λc=>decide (c<128))=true:=by decide +kernel
theorem Ll{K:Nat->Prop}(h0:0<=i)(h:i<24)(k:∀c,c<128->K c):CC (BE (Qz "abcdefghijklmnpqrstvwxyz").cps.toList i) K :=
 l9 h0 (by rw[Fi.1];exact h) λv hv=>k v (gy (qN.mp Fi.2 v hv))
theorem Di{K:Nat->Prop}(h0:0<=i)(h:i<20)(k:∀c,c<128->K c):CC (BE (Qz "bcdfghjklmnpqrstvwxz").cps.toList i) K :=
 l9 h0 (by rw[Gi.1];exact h) λv hv=>k v (gy (qN.mp Gi.2 v hv))
theorem N8:(Qz "bcdfghjklmnpqrstvwxz").9<=sizeLine:=by decide +kernel
theorem Gh:(Qz "abcdefghijklmnpqrstvwxyz").9<=sizeLine:=by decide +kernel
theorem GT(h:∀y∈Y,one y){c:Nat}(hc:c<128):∀y∈Y.set n #[(WZ [c])],one y:=λy x=>by rcases List.mem_or_eq_of_mem_set x with z|z;exact h y z;exact#[c,hc,z]
theorem RS:∀{Y:LS},(∀y∈Y,one y)->(Y.map (·.length)).sum=Y.9
 |[],_=>rfl|y::r,h=>by let#[c,_,rfl]:=h y QD;rw[QT,List.sum_cons,RS λz x=>h z (QC _ x),QL];show 1+r.9=r.9+1;omega
noncomputable def nh(c k m:Int)(c1:Nat)(sz h:Int)(ns:LS)(o8 o9:Option Sl):kA:=[bD (.int c),bD (.int k),bD (.int m),bD (.str #[(WZ [c1])]),bD (.str (Qz "bcdfghjklmnpqrstvwxz")),bD (.int sz),bD (.int h),oW (.lst ((ns.map Jx).map T.d)),o8,o9]
theorem b6{sz h:Int}{o8 o9:Option Sl}{i:Nat}(N:0<=m)(hc:c1<128)(M:2<=sz)(L:sz<=8)(J:0<=h)(O:h<sz)(hl:ns.9<=9)(q:∀s o,U3 s->Z.nx (nh c k m c1 sz h (ns++[s]) (bD (.int (i:Int))) o)) :
  pF Ψ YD Z (nh c k m c1 sz h ns (bD (.int (i:Int))) o9):=by
 delta nh at q ⊢;delta YD;simp![↓zA];refine#[(),(),AC (λ(i:Nat)=>T.d (.int (i:Int))) (λ_=>.d (.str #[(WZ [c1])])) _ _ _ (λx _ R G=>?_) (by rw[qU,Qm];omega) ?_];simp![↓zA];exact G;rw[qD,sB];have I:(Qj sz.toNat).map (λ_=>Jx #[(WZ [c1])])=((Qj sz.toNat).map λ_=>(#[(WZ [c1])]:Str)).map Jx:=by rw[Qi];rfl
 rw[I];have j:∀y∈(Qj sz.toNat).map λ_=>(#[(WZ [c1])]:Str),one y:=λy j=>by let#[_,_,e]:=QY.mp j;exact#[c1,hc,e.symm]
 have z:((Qj sz.toNat).map λ_=>(#[(WZ [c1])]:Str)).9=sz.toNat:=by rw[QG,qU]
 generalize (Qj sz.toNat).map (λ_=>(#[(WZ [c1])]:Str))=Y at j z;refine#[UK.ok (.inl #[by decide,by decide]),N8,Di (Q1 _ (by decide)) (Qo _ (by decide)) λE B=>dg J (by rw[QG];omega) ?_];rw[<- QDb];refine#[N8,Di (Q1 _ (by decide)) (Qo _ (by decide)) λC A=>?_];refine#[(),dg (Q1 _ ()) (by rw[QG,wf,z];have:=Qo (h+1) (show 0<sz by omega);omega) ?_];rw[<- QDb];have u:=GT (GT j (n:=h.toNat) B) (n:=((h+1) % sz).toNat) A;have W:((Y.set h.toNat #[(WZ [E])]).set ((h+1) % sz).toNat #[(WZ [C])]).9=sz.toNat:=by rw[wf,wf,z]
 generalize (Y.set h.toNat #[(WZ [E])]).set ((h+1) % sz).toNat #[(WZ [C])]=zs at u W;simp![↓zA];refine#[zs,rfl,by rw[RS u,show(Qz "").9=0 by decide +kernel];omega,?_];have F:=F6 () u;have f:=q _ (oW (.lst ((zs.map Jx).map T.d))) F;refine#[?_,?_];rw[QG,QG];omega;rw[Qk,Qk]at f;exact f
def NF:PT :=
  %[.set 5 (.bin .Add (.int 2) (.bin .Mod (.bin .FloorDiv (.kw 2) (.int 75)) (.int 7))),.set 6 (.bin .Mod (.bin .FloorDiv (.kw 2) (.int 525)) (.kw 5)),.own 7 (.lst .nr),.for_ (.nm 8) .rng1 %[.kw 1|1] YD,.ret (.kw 7)|2]
noncomputable def EL:PT->PT:=λr =>
  (.seq (.set 2 (.call "_law_mixed" %[.kw 0,.int 3|1]))
  (.seq (.set 3 (.idx (.str "abcdefghijklmnpqrstvwxyz") (.bin .Mod (.kw 2) (.int 24))))
  (.seq (.set 4 (.str "bcdfghjklmnpqrstvwxz"))
  (.seq (.ife (.and (.cmp .Eq (.bin .Mod (.bin .FloorDiv (.kw 2) (.int 25)) (.int 3)) (.int 0)) (.cmp .Lt (.kw 1) (.int 9))) %[.ret (.comp [Jt,Jt,Jt,Jt,Jt,Jt,Jt,Jt,Js] ["_law_k"] (.nm 0) .rng1 %[.kw 1|1] .nop (.bin .Mult (.kw 4) (.bin .Sub (.kw 2) (.kw 0))))|2] .nil)
  r))))
theorem gZ:vI=EL NF:=rfl
theorem n6(hm:0<=m)(F:2<=k)(E:k<=10)(hc:c1<128)(q:∀ns:LS,ns.9=k.toNat->(∀s∈ns,U3 s)->Q (.lst ((ns.map Jx).map T.d)) []) :
  pF Ψ NF (eZ Q) [bD (.int c),bD (.int k),bD (.int m),bD (.str #[(WZ [c1])]),bD (.str (Qz "bcdfghjklmnpqrstvwxz")),Jr,Jr,Jr,Jr,Jr]:=by
 delta NF;simp![↓zA];have C:=Q1 (m / 75) (show(7:Int)≠0 by decide);have B:=Qo (m / 75) (show(0:Int)<7 by decide);have z:2<=2+m / 75 % 7:=()
 have x:2+m / 75 % 7<=8:=()
 generalize 2+m / 75 % 7=sz at z x;have W:=Q1 (m / 525) (show sz≠0 by omega);have j:=Qo (m / 525) (show 0<sz by omega);generalize m / 525 % sz=av at W j;refine#[(),Q3 _,(),(),FB (λ(i:Nat)=>T.d (.int (i:Int))) (λl f=>∃ns o8 o9,ns.9+l.9=k.toNat/\(∀s∈ns,U3 s)/\f=nh c k m c1 sz av ns o8 o9) ?_ ?_ _ _ #[[],_,_,by rw[qU,Qm,Ws],λs hs=>(nomatch hs),rfl]];rintro f ⟨ns,o8,o9,hl,h,rfl⟩;delta nh;simp![↓zA];exact q ns (by rw[Qm]at hl;omega) h;rintro i l f N A ⟨ns,o8,o9,hl,h,rfl⟩;rw[QL]at hl;exact b6 (o8:=bD (.int (i:Int))) (o9:=o9) hm hc z x W j () λs o hs=>A _ #[ns++[s],_,_,by rw[QN,qE];omega,λy u=>by rcases QW.mp u with u|u;exact h y u;rw[QJ.mp u];exact hs,rfl]
theorem MY(o:Ψ.sp "_law_mixed"=MB):MU Ψ vI nJ vM KJ:=by
 rintro _ Q _ ⟨c,k,rfl,⟨f,u⟩,q⟩;refine OA [bD (.int c),bD (.int k),Jr,Jr,Jr,Jr,Jr,Jr,Jr,Jr] ?_;rw[gZ];have h:∀(m:Int) (c1:Nat),0<=m->c1<128->_:=λm c1 hm hc=>n6 (Ψ:=Ψ) (c:=c) (m:=m) (c1:=c1) hm f u hc q;generalize NF=r at h;delta EL;simp![↓nA (md:=[]) o rfl rfl,↓OD];refine λm hm=>#[Gh,Ll (Q1 _ (by decide)) (Qo _ (by decide)) λc1 hc=>?_]
 have h:=h m c1 hm hc;split;split
 ·rename_i z
  have z:=gy z;refine#[(),(),AC (λ(i:Nat)=>T.d (.int (i:Int))) (λi=>.d (.str (RG #[(WZ [c1])] (k - (i:Int))))) _ _ _ (λx y R j=>?_) (by rw[qU,Qm];omega) ?_];simp![↓zA];have y:=Q7.mp y;refine#[(),(),?_,j];show 1 * (k - (x:Int)).toNat<=jx;omega;rw[qD,sB];have:=q ((Qj k.toNat).map λ(i:Nat)=>RG #[(WZ [c1])] (k - (i:Int))) (by rw[QG,qU]) λs hs=>by let#[i,_,rfl]:=QY.mp hs;exact Ub hc ()
  rw[show((Qj k.toNat).map λ(i:Nat)=>RG #[(WZ [c1])] (k - (i:Int))).map Jx=(Qj k.toNat).map λ(i:Nat)=>Jx (RG #[(WZ [c1])] (k - (i:Int))) by rw[Qi];rfl]at this;exact this
 exact h;exact h
def pr(p:Str×Str):D:=.tuple [.str p.1,.str p.2]
noncomputable def TU(sc h m:Sl)(ns:LS)(es:LB)(o6 o7 o8 o9 o10 o11 U o13:Option Sl):kA:=[Jp sc,bD (.int 5),Jp h,Jp m,bD (.list (ns.map Jx)),oW (.lst ((es.map pr).map T.d)),o6,o7,o8,o9,o10,o11,U,o13]
theorem Le{K:D->Prop}(h0:0<=i)(h:i<ns.9)(k:∀s∈ns,K (.str s)):CC (BE (ns.map Jx) i) K :=
 V2 h0 (by rw[QG];exact h) λv hv=>by let#[s,hs,rfl]:=QY.mp hv;exact k s hs
theorem Ci{l:LJ}{K:D->Prop}(h0:0<=i)(x:i<l.9)(h:∀s∈l,0<s)(k:∀s,0<s->K (.int s)):CC (BE (l.map Jy) i) K :=
 V2 h0 (by rw[QG];exact x) λv hv=>by let#[s,hs,rfl]:=QY.mp hv;exact k s (h s hs)
theorem Ra{z:Sl}{n a b:Int}(hl:es.9<=200)(B:0<=a)(A:a<ns.9)(W:0<=b)(o:b<ns.9)
  (q:∀es',es'.9<=es.9+1->(∀p∈es',p∈es∨p.1∈ns/\p.2∈ns)->Z.nx (TU sc z (.ny (.d (.int m))) ns es' o6 o7 o8 (bD (.int n)) (bD (.int a)) (bD (.int b)) U o13)) :
  pF Ψ YE Z (TU sc z (.ny (.d (.int m))) ns es o6 o7 o8 (bD (.int n)) (bD (.int a)) (bD (.int b)) U o13):=by
 delta TU at q ⊢;delta YE;simp![↓zA];refine#[(),Ci (l:=[1,2,4]) (Q1 _ (by decide)) (Qo _ (by decide)) (by decide) λd j=>?_];simp![↓zA];refine#[j,?_];split;refine Le B A λx f=>Le W o λy u=>?_;refine#[(),?_,?_];rw[QG,QG];omega;have:=q (es++[(x,y)]) (by rw[QN];exact QV _) λp h=>by rcases QW.mp h with h|h;exact .inl h;rw[QJ.mp h];exact .inr #[f,u]
 rw[Qk,Qk]at this;exact this;exact q es (wn _) λp h=>.inl h
theorem Gf(z:Ψ.sp "_law_mixed"=MB){i j:Nat}(hl:es.9<=200)(C:0<ns.9)(F:i<63)(E:j<2)
  (q:∀es' o9 o10 o11,es'.9<=es.9+1->(∀p∈es',p∈es∨p.1∈ns/\p.2∈ns)->Z.nx (TU sc (.ny (.d (.int s))) (.ny (.d (.int m))) ns es' (bD (.int (i:Int))) (bD (.int c)) (bD (.int (j:Int))) o9 o10 o11 U o13)) :
  pF Ψ kI Z (TU sc (.ny (.d (.int s))) (.ny (.d (.int m))) ns es (bD (.int (i:Int))) (bD (.int c)) (bD (.int (j:Int))) o9 o10 o11 U o13):=by
 have x:∀n a b:Int,0<=a->a<ns.9->0<=b->b<ns.9->pF Ψ YE Z (TU sc (.ny (.d (.int s))) (.ny (.d (.int m))) ns es (bD (.int (i:Int))) (bD (.int c)) (bD (.int (j:Int))) (bD (.int n)) (bD (.int a)) (bD (.int b)) U o13):=λn a b B A W o=>Ra hl B A W o λes' f u=>q es' _ _ _ f u;have h:(0:Int)<ns.length:=()
 delta TU at x ⊢;delta kI;simp?[↓nA (md:=[]) z rfl rfl];refine#[UK.ok (.inl #[by decide,by decide]),QEI OD #[#[(),()],λn y=>?_]];simp![QG];refine#[h,h,?_];split;exact#[h,x _ _ _ (Q1 _ ()) (Qo _ h) (Q1 _ ()) (Qo _ h)];exact x _ _ _ (Q1 _ ()) (Qo _ h) (Q1 _ ()) (Qo _ h)
theorem Ff(R:Ψ.sp "_law_mixed"=MB){i:Nat}(hl:es.9<=126)(L:0<ns.9)(O:i<63)
  (q:∀es' o8 o9 o10 o11,es'.9<=es.9+2->(∀p∈es',p∈es∨p.1∈ns/\p.2∈ns)->Z.nx (TU sc (.ny (.d (.int s))) (.ny (.d (.int m))) ns es' (bD (.int (i:Int))) (bD (.int c)) o8 o9 o10 o11 U o13)) :
  pF Ψ zI Z (TU sc (.ny (.d (.int s))) (.ny (.d (.int m))) ns es (bD (.int (i:Int))) (bD (.int c)) o8 o9 o10 o11 U o13):=by
 delta TU;delta zI;simp![↓zA];have G:=Q1 (m / 5000) (show(2:Int)≠0 by decide);have F:=Qo (m / 5000) (show(0:Int)<2 by decide);generalize m / 5000 % 2=t at G F;refine#[(),(),FB (λ(j:Nat)=>T.d (.int (j:Int))) (λl y=>∃es' o8 o9 o10 o11,(∀j∈l,j<2)/\es'.9+l.9<=es.9+2/\(∀p∈es',p∈es∨p.1∈ns/\p.2∈ns)/\y=TU sc (.ny (.d (.int s))) (.ny (.d (.int m))) ns es' (bD (.int (i:Int))) (bD (.int c)) o8 o9 o10 o11 U o13) ?_ ?_ _ _ #[es,_,_,_,_,λj M=>by have:=Q7.mp M;omega,by rw[qU];omega,λp W=>.inl W,rfl]];rintro y ⟨es',J,o,x,h,_,C,B,rfl⟩;exact q es' _ o x h (by rw[Qm]at C;omega) B;rintro j l y N P ⟨es',J,o,x,h,E,C,B,rfl⟩;rw[QL]at C;exact Gf (j:=j) (o9:=o) (o10:=x) (o11:=h) R () L O (E j QD) λA I f u H S=>P _ #[A,_,I,f,u,λk hk=>E k (QC _ hk),(),λp W=>by rcases S p W with z|z;exact B p z;exact .inr z,rfl]
noncomputable def A3(sc:Sl)(s m:Int)(ns:LS)(es:LB)(st:LS)(o6 o7 o8 o9 o10 o11 o13:Option Sl):kA:=[Jp sc,bD (.int 5),bD (.int s),bD (.int m),bD (.list (ns.map Jx)),oW (.lst ((es.map pr).map T.d)),o6,o7,o8,o9,o10,o11,oW (.lst ((st.map Jx).map T.d)),o13]
theorem Df(f:Ψ.sp "_law_mixed"=MB){i:Nat}{x:Str}(hl:st.9<=10)(j:i<10)
  (y:Z.nx (A3 sc s m ns es st (bD (.int (i:Int))) o7 o8 o9 o10 o11 (bD (.str x))))
  (h:Z.nx (A3 sc s m ns es (st++[x]) (bD (.int (i:Int))) o7 o8 o9 o10 o11 (bD (.str x)))) :
  pF Ψ yI Z (A3 sc s m ns es st (bD (.int (i:Int))) o7 o8 o9 o10 o11 (bD (.str x))):=by
 delta A3 at y h ⊢;delta yI;simp?[↓nA (md:=[]) f rfl rfl];refine QEI OD #[#[(),()],λn z=>?_];simp![↓zA];refine#[(),Ci (l:=[2,3,2,6]) (Q1 _ (by decide)) (Qo _ (by decide)) (by decide) λd u=>?_];simp![↓zA];refine#[u,?_];split;refine#[by rw[QG,QG];omega,?_];rw[Qk,Qk]at h;exact h;exact y
def J9(ns:LS)(es:LB)(st:LS)(g:Str):Prop:=ns.9<=5/\(∀s∈ns,U3 s)/\es.9<=126/\(∀p∈es,p.1∈ns/\p.2∈ns)/\st.9<=11/\(∀s∈st,s∈ns)/\g∈ns
noncomputable def Hf(ns:LS)(es:LB)(st:LS)(g:Str):D:=.tuple [.list (ns.map Jx),.list (es.map pr),.list (st.map Jx),.str g]
theorem Pa(u:0<ns.9)(q:∀g∈ns,Q (.d (Hf ns es st g)) []) :
  pF Ψ eG (eZ Q) (A3 sc s m ns es st o6 o7 o8 o9 o10 o11 o13):=by
 have h:(0:Int)<ns.length:=()
 delta A3;delta eG;simp?[QG];have z:(T.lst ((es.map pr).map T.d)).er=.list (es.map pr):=by show PyData.list (ersT ((es.map pr).map T.d))=_;rw[bB]
 have y:(T.lst ((st.map Jx).map T.d)).er=.list (st.map Jx):=by show PyData.list (ersT ((st.map Jx).map T.d))=_;rw[bB]
 rw[z,y];exact#[h,Le (Q1 _ ()) (Qo _ h) λg x=>#[(),q g x]]
theorem UN{α:Type}(l:List α)(k:Nat):(kE l Jr (Jp (k:Int))).9<=k:=by
 unfold kE;rw[Wf];have:HT.sIx l.9 l.9 (Jp (k:Int))<=k:=by unfold HT.sIx;simp only;split<;>omega
 omega
theorem e7{α:Type}{l:List α}{a b:Option Int}{x:α}(h:x∈kE l a b):x∈l:=W8 (List.mem_of_mem_take h)
theorem VU{α h:Type}(f:α->h)(l:List α)(a b:Option Int):kE (l.map f) a b=(kE l a b).map f:=by unfold kE;rw[QG,List.map_take,List.map_drop]
theorem CQ{α:Type}{l:List α}{p:α×Nat}(h:p∈l.zipIdx):p.2<l.9/\p.1∈l:=by have h:=List.mem_zipIdx_iff_getElem?.mp h;exact#[(Qb.mp h).1,Qq h]
def AQ:PSp where
 md:=[.kr]
 run:=λh Q _=>∃x:LJ,h=[.lst ((x.map Jy).map T.d),.d (.int 5)]/\∀ns es st g,J9 ns es st g->Q (.d (Hf ns es st g)) []
theorem Kc(h0:Ψ.sp "_law_fold"=HG)(G:Ψ.sp "_law_mixed"=MB)(h2:Ψ.sp "_law_names"=nJ):MU Ψ PN AQ NU NO:=by
 rintro _ Q _ ⟨o,rfl,q⟩;refine OA [Jp (.ny (.lst ((o.map Jy).map T.d))),bD (.int 5),Jr,Jr,Jr,Jr,Jr,Jr,Jr,Jr,Jr,Jr,Jr,Jr] ?_;delta PN;simp![↓nA (md:=[.kr]) h0 rfl rfl,↓nA (md:=[]) G rfl rfl,↓nA (md:=[]) h2 rfl rfl];refine QEI FO λv=>?_;simp![↓nA (md:=[]) G rfl rfl,↓nA (md:=[]) h2 rfl rfl];refine QEI OD #[#[by decide,by decide],λm hm=>?_];simp![↓nA (md:=[]) h2 rfl rfl];have k0:=Q1 m (show(5 - 1:Int)≠0 by decide);have k1:=Qo m (show(0:Int)<5 - 1 by decide);refine#[by decide,#[_,_,rfl,#[(),()],λns hnl H=>?_]];have hn9:ns.9<=5:=()
 have C:0<ns.length:=()
 simp![↓zA];rw[VU];refine#[Q3 _,FB (λ(p:D×Nat)=>T.d (.tuple [.int (p.2:Int),p.1])) (λl f=>∃es o6 o7 o8 o9 o10 o11,(∀p∈l,p.2<63/\∃c,p.1=.int c)/\es.9+2 * l.9<=126/\(∀p∈es,p.1∈ns/\p.2∈ns)/\f=TU (.ny (.lst ((o.map Jy).map T.d))) (.ny (.d (.int v))) (.ny (.d (.int m))) ns es o6 o7 o8 o9 o10 o11 Jr Jr) ?_ ?_ _ _ #[[],_,_,_,_,_,_,λp u=>?_,?_,λp u=>(nomatch u),rfl]];rintro f ⟨es,o6,o7,o8,o9,o10,o11,_,el,j,rfl⟩;delta TU;simp![↓zA];refine#[Q3 _,FB (λ(p:D×Nat)=>T.d (.tuple [.int (p.2:Int),p.1])) (λl f=>∃st o6 o13,(∀p∈l,p.2<10/\∃x∈ns,p.1=.str x)/\st.9+l.9<=10/\(∀s∈st,s∈ns)/\f=A3 (.ny (.lst ((o.map Jy).map T.d))) v m ns es st o6 (mF o7) o8 o9 o10 o11 o13) ?_ ?_ _ _ #[[],_,_,λp u=>?_,?_,λp u=>(nomatch u),rfl]];rintro f ⟨st,O,B,_,J,W,rfl⟩;rw[Qm]at J;have S:=λ(st:LS) (s1:st.9<=11) (s2:∀s∈st,s∈ns)=>Pa (Ψ:=Ψ) (sc:=.ny (.lst ((o.map Jy).map T.d))) (s:=v) (m:=m) (es:=es) (st:=st) (o6:=mF O) (o7:=mF o7) (o8:=o8) (o9:=o9) (o10:=o10) (o11:=o11) (o13:=mF B) C λg hg=>q ns es st g #[hn9,H,by rw[Qm]at el;omega,j,s1,s2,hg];unfold A3 at S;delta A3;simp![↓zA];split;rw[VU];have c1:=UN st 1;refine#[by rw[QG,QG];show st.9+(kE st Jr (Jp ((1:Nat):Int))).9<=_;omega,?_];have:=S (st++kE st Jr (Jp 1)) (by rw[QN];show st.9+(kE st Jr (Jp ((1:Nat):Int))).9<=_;omega) λs hs=>by rcases QW.mp hs with h|h;exact W s h;exact W s (e7 h)
 rw[Qk]at this;exact this;exact S st () W;rintro⟨x,i⟩ l f N F ⟨st,O,B,A,J,W,rfl⟩;let#[hi,y,hy,e]:=A _ QD;have e:x=.str y:=e;subst e;rw[QL]at J;refine CC.mk rfl ?_;exact Df (i:=i) (x:=y) G () hi (F _ #[st,_,_,λp u=>A p (QC _ u),(),W,rfl]) (F _ #[st++[y],_,_,λp u=>A p (QC _ u),by rw[QN,qE];omega,λs hs=>by rcases QW.mp hs with h|h;exact W s h;rw[QJ.mp h];exact hy,rfl]);let#[E,I]:=CQ u;rw[QG]at E;let#[x,hx,e]:=QY.mp I;exact#[(),x,hx,e.symm];rw[QAe,QG,Qm];omega;rintro⟨x,i⟩ l f N F ⟨es,O,p7,p8,p9,R,P,A,el,j,rfl⟩;let#[hi,c,e]:=A _ QD;have e:x=.int c:=e;subst e;rw[QL]at el;refine CC.mk rfl ?_;exact Ff (i:=i) (c:=c) (o8:=p8) (o9:=p9) (o10:=R) (o11:=P) G () C hi λes' r8 r9 M L f1 f2=>F _ #[es',_,_,r8,r9,M,L,λp u=>A p (QC _ u),(),λp u=>by rcases f2 p u with z|z;exact j p z;exact z,rfl];let#[E,I]:=CQ u;have c1:=UN o 63;rw[QG]at E;let#[x,hx,e]:=QY.mp I;exact#[Ql E c1,x,e.symm];have c1:=UN o 63;rw[QAe,QG,Qm];have c1:(kE o Jr (Jp 63)).9<=63:=c1;omega
theorem KN(a b:Str):qP (.str a) (.str b)=decide (a=b):=by rw[qa,gz];simp[qP]
theorem DE(l:LS)(z:Str):((l.map Jx).any λy=>qP y (.str z))=decide (z∈l):=by rw[List.any_map,qa,Wg,gz];constructor;rintro⟨x,u,e⟩;have e:qP (.str x) (.str z)=true:=e;rw[KN,gz]at e;exact e▸u;intro h;exact#[z,h,by show qP (.str z) (.str z)=Js;rw[KN];exact dT rfl]
theorem uD(l:LS):(l.map Jx).all VB=true:=by rw[List.all_map,qN];exact λ_ _=>rfl
noncomputable def j7(g:Str)(X:LS)(s:Str):Bool:=!decide (s=g)&&!decide (s∈X)
inductive Led(es:LB)(st:LS)(g:Str)(X:LS):Str->Prop
 |st {s:Str}:s∈st->j7 g X s=Js->Led es st g X s
 |ed {a b:Str}:Led es st g X a->(a,b)∈es->j7 g X b=Js->Led es st g X b
theorem oG:∀{ks ns:LS},ks.Nodup->(∀s∈ks,s∈ns)->ks.9<=ns.9
 |[],_,_,_=>Q3 _|s::r,ns,h,hs=>by let#[u,z]:=Qa.mp h;have hm:=hs s QD;have:=oG (ks:=r) (ns:=ns.erase s) z λx y=>(W7 (λ(e:x=s)=>u (e▸y))).mpr (hs x (QC _ y));rw[WV hm]at this;have f:=WB hm;rw[QL];omega
noncomputable abbrev Pt:=Str×Str
theorem HM(h:pr p=pr q):p=q:=by let#[a,b]:=p;let#[c,d]:=q;injection h with h;injection h with h1 h;injection h with h2 _;injection h1 with h1;injection h2 with h2;exact QEA h1 h2
theorem V0{x k:D}{r:List D}(h:x≠k):dA (x::r) k=(dA r k).map (·+1):=by unfold dA;rw[Gq h];cases r<;>rfl
theorem T8{x k:D}{r:List D}(h:x=k):dA (x::r) k=Jp 0:=by unfold dA;rw[Gw h]
noncomputable def look{α:Type}:List (Pt×α)->Pt->Option α
 |[],_=>Jr|e::l,p=>if e.1=p then Jp e.2 else look l p
noncomputable def put{α:Type}:List (Pt×α)->Pt->α->List (Pt×α)
 |[],p,v=>[(p,v)]|e::l,p,v=>if e.1=p then(e.1,v)::l else e::put l p v
def EB{α:Type}(l:List (Pt×α)):List D:=l.map λe=>pr e.1
theorem EH{α:Type}{p:Pt}:∀{l:List (Pt×α)},look l p=Jr->dA (EB l) (pr p)=Jr/\∀w,put l p w=l++[(p,w)]
 |[],_=>#[rfl,λ_=>rfl]|e::l,h=>by unfold look at h;by_cases c:e.1=p;rw[Gw c]at h;cases h;rw[Gq c]at h;let#[y,x]:=EH h;refine#[?_,λw=>?_];show dA (pr e.1::EB l) (pr p)=Jr;rw[V0 (λz=>c (HM z)),y];rfl;show(if e.1=p then(e.1,w)::l else e::put l p w)=_;rw[Gq c,x];rfl
theorem fC{α:Type}{p:Pt}{v:α}(f:α->T):∀{l:List (Pt×α)},look l p=Jp v->∃n,dA (EB l) (pr p)=Jp n/\(l.map λe=>f e.2)[n]?=Jp (f v)/\∀w,EB (put l p w)=EB l/\(l.map λe=>f e.2).set n (f w)=(put l p w).map λe=>f e.2
 |[],h=>by cases h|e::l,h=>by unfold look at h;by_cases c:e.1=p;rw[Gw c]at h;injection h with h;refine#[0,?_,?_,λw=>?_];exact T8 (gV pr c);show Jp (f e.2)=_;rw[h];have:put (e::l) p w=(e.1,w)::l:=Gw c;rw[this];exact#[rfl,rfl];rw[Gq c]at h;let#[n,o,j,u]:=fC f h;refine#[n+1,?_,j,λw=>?_];show dA (pr e.1::EB l) (pr p)=Jp (n+1);rw[V0 (λz=>c (HM z)),o];rfl;have:put (e::l) p w=e::put l p w:=Gq c;rw[this];let#[y,x]:=u w;refine#[?_,?_];show pr e.1::EB (put l p w)=pr e.1::EB l;rw[y];show f e.2::(l.map λe=>f e.2).set n (f w)=f e.2::(put l p w).map λe=>f e.2;rw[x]
theorem xD{α:Type}{p q:Pt}{w:α}:∀{l:List (Pt×α)},look (put l p w) q=if p=q then Jp w else look l q
 |[]=>rfl|e::l=>by
  by_cases c:e.1=p;have h:put (e::l) p w=(e.1,w)::l:=Gw c;rw[h];show(if e.1=q then Jp w else look l q)=if p=q then Jp w else(if e.1=q then Jp e.2 else look l q)
  rw[c];split<;>rfl;have h:put (e::l) p w=e::put l p w:=Gq c;rw[h];show(if e.1=q then Jp e.2 else look (put l p w) q)=if p=q then Jp w else(if e.1=q then Jp e.2 else look l q)
  rw[xD];by_cases d:e.1=q;rw[Gw d,Gw d,Gq (λz=>c (d.trans z.symm))];rw[Gq d,Gq d]
theorem aT{α:Type}{p:Pt}{w:α}:∀{l:List (Pt×α)},(put l p w).9<=l.9+1
 |[]=>QV _|e::l=>by by_cases c:e.1=p;rw[show put (e::l) p w=(e.1,w)::l from Gw c,QL,QL];omega;have:=aT (p:=p) (w:=w) (l:=l);rw[show put (e::l) p w=e::put l p w from Gq c,QL,QL];omega
theorem zC(p:Pt):sE Js (pr p):=#[[.inr p.1,.inr p.2],rfl]
noncomputable abbrev Inn:=List (Pt×Int)
noncomputable abbrev Rm:=List (Pt×Inn)
noncomputable def JC(l:Inn):T:=.dct Js (EB l) (l.map λe=>T.d (.int e.2))
def UA(r:Rm):T:=.dct Js (EB r) (r.map λe=>JC e.2)
def sdf(r:Rm)(p:Pt):Rm:=match look r p with
 |some _=>r|none=>r++[(p,[])]
theorem uT{Q:T->Prop}(hl:r.9<jx)(q:Q (UA (sdf r p))):Zg (.d (pr p)) (UA r) Q:=by
 refine#[EB r,_,rfl,zC p,by unfold EB;rw[QG];exact hl,?_];unfold sdf at q;cases h:look r p with
 |some v=>rw[h]at q;let#[n,x,_]:=fC JC h;exact .inl #[n,x,q]|none =>
  rw[h]at q;refine .inr #[(EH h).1,?_];have e:UA (r++[(p,[])])=.dct Js (EB r++[pr p]) ((r.map λe=>JC e.2)++[.dct Js [] []]):=by unfold UA EB;rw[Qk,Qk];rfl
  show Q (T.dct Js (EB r++[pr p]) ((r.map λe=>JC e.2)++[.dct Js [] []]));rw[<- e];exact q
theorem iM{Q:T->Prop}(hl:l.9<jx)(q:Q (JC (put l p v))):fg (JC l) (.d (pr p)) (.d (.int v)) Q:=by
 refine#[zC p,by unfold EB;rw[QG];exact hl,?_];have e:cR Js (EB l) (l.map λe=>T.d (.int e.2)) (pr p) (.d (.int v))=JC (put l p v):=by
  unfold cR;cases h:look l p with|none=>let#[x,y]:=EH h;rw[x,y];unfold JC EB;rw[Qk,Qk];rfl|some u=>let#[n,x,y,j]:=fC (λi:Int=>T.d (.int i)) h;rw[x];let#[f,z]:=j v;show T.dct Js (EB l) ((l.map λe=>T.d (.int e.2)).set n (T.d (.int v)))=_;unfold JC;rw[f,z]
 show Q (cR Js (EB l) (l.map λe=>T.d (.int e.2)) (pr p) (.d (.int v)));rw[e];exact q
theorem FG{Q:T->(T->T)->Prop}(h:look r p=Jp l)(q:∀f:T->T,(∀x,f (JC x)=UA (put r p x))->Q (JC l) f):ug (.d (pr p)) (UA r) Q:=by let#[n,o,j,u]:=fC JC h;refine#[Js,EB r,_,n,JC l,rfl,zC p,o,j,q _ λx=>?_];let#[z,y]:=u x;show T.dct Js (EB r) ((r.map λe=>JC e.2).set n (JC x))=_;unfold UA;rw[z,y]
def sA:Pt:=("","begin")
def tO(n:Str):Pt:=(n,"to")
def fR(n:Str):Pt:=(n,"from")
theorem pk:("begin":Str)≠"to":=by decide +kernel
theorem ak:("begin":Str)≠"from":=by decide +kernel
theorem gk:("to":Str)≠"from":=by decide +kernel
theorem UB:sA≠tO a:=λh=>pk (gV Prod.snd h)
theorem JD:sA≠fR a:=λh=>ak (gV Prod.snd h)
theorem iA:tO a≠fR b:=λh=>gk (gV Prod.snd h)
theorem cB(h:tO a=tO b):a=b:=gV we h
theorem GD(h:fR a=fR b):a=b:=gV we h
def FW(p q:Pt):Prop:=(p=sA/\∃n,q=tO n)∨(∃n,p=tO n/\q=fR n)∨(∃a b,a≠b/\p=fR a/\q=tO b)
theorem aD(h:FW p q):¬ FW q p:=by
 rintro k;rcases h with⟨rfl,n,rfl⟩| ⟨n,rfl,rfl⟩| ⟨a,b,u,rfl,rfl⟩<;>rcases k with⟨x,m,y⟩| ⟨m,x,y⟩| ⟨c,d,z,x,y⟩
 exact UB x.symm;exact JD y;exact iA x;exact JD x.symm;exact iA x.symm;exact z ((GD x).symm.trans (cB y));exact UB x.symm;exact u ((GD y).trans (cB x).symm);exact iA x
theorem gF(h:FW p q):p≠q:=λe=>aD h (by rw[e]at h ⊢;exact h)
noncomputable abbrev Wy:=Pt×Pt×Int
def lk(r:Rm)(p:Pt):Inn:=(look r p).getD []
def oB(r:Rm)(w:Wy):Rm:=put (put (sdf (sdf r w.1) w.2.1) w.1 (put (lk (sdf (sdf r w.1) w.2.1) w.1) w.2.1 w.2.2)) w.2.1 (put (lk (put (sdf (sdf r w.1) w.2.1) w.1 (put (lk (sdf (sdf r w.1) w.2.1) w.1) w.2.1 w.2.2)) w.2.1) w.1 0)
theorem pP{α:Type}{p q:Pt}{v:α}:∀{l:List (Pt×α)},look (l++[(p,v)]) q=(look l q).or (if p=q then Jp v else Jr)
 |[]=>rfl|e::l=>by show(if e.1=q then Jp e.2 else look (l++[(p,v)]) q)=(if e.1=q then Jp e.2 else look l q).or (if p=q then Jp v else Jr);by_cases c:e.1=q;rw[Gw c,Gw c];rfl;rw[Gq c,Gq c];exact pP
theorem oP:look (sdf r p) q=(look r q).or (if p=q then Jp [] else Jr):=by
 unfold sdf;cases h:look r p with
 |some v =>
  show look r q=_;cases y:look r q with
  |some x=>rfl|none =>
   show Jr=if p=q then Jp [] else Jr
   rw[Gq];intro e;rw[e,y]at h;cases h
 |none=>show look (r++[(p,[])]) q=_;exact pP
theorem BM:(sdf r p).9<=r.9+1:=by unfold sdf;split;omega;rw[QN,qE];omega
theorem EG{α:Type}{p:Pt}{w:α}{e:Pt×α}:∀{l:List (Pt×α)},e∈put l p w->e=(p,w)∨e∈l
 |[],h=>.inl (QJ.mp h)|x::l,h=>by by_cases c:x.1=p;rw[show put (x::l) p w=(x.1,w)::l from Gw c]at h;rcases QK.mp h with h|h;exact .inl (by rw[h,c]);exact .inr (QC _ h);rw[show put (x::l) p w=x::put l p w from Gq c]at h;rcases QK.mp h with h|h;exact .inr (by rw[h];exact QD);exact(EG h).imp_right (QC _)
theorem FM{α:Type}{p:Pt}{w:α}{q:Pt}:∀{l:List (Pt×α)},(∃v,(q,v)∈put l p w)↔q=p∨∃v,(q,v)∈l
 |[]=>by
  constructor;rintro⟨v,h⟩;exact .inl (gV we (QJ.mp h));rintro(rfl|⟨v,h⟩)
  ·exact#[w,QJ.mpr rfl]
  exact(nomatch h)
 |x::l=>by
  by_cases c:x.1=p;rw[show put (x::l) p w=(x.1,w)::l from Gw c];constructor;rintro⟨v,h⟩;rcases QK.mp h with h|h;exact .inl ((gV we h).trans c);exact .inr #[v,QC _ h];rintro(rfl|⟨v,h⟩)
  ·exact#[w,by rw[c];exact QD]
  rcases QK.mp h with h|h
  ·exact#[w,by rw[<- h];exact QD]
  exact#[v,QC _ h];rw[show put (x::l) p w=x::put l p w from Gq c];have y:=FM (p:=p) (w:=w) (q:=q) (l:=l);constructor;rintro⟨v,h⟩;rcases QK.mp h with h|h;exact .inr #[v,by rw[h];exact QD];exact(y.mp #[v,h]).imp_right λ#[v,h]=>#[v,QC _ h]
  rintro(h|⟨v,h⟩)
  ·let#[v,h]:=y.mpr (.inl h)
   exact#[v,QC _ h]
  rcases QK.mp h with h|h
  ·exact#[v,by rw[h];exact QD]
  let#[v,h]:=y.mpr (.inr #[v,h]);exact#[v,QC _ h]
def HW(r:Rm)(p q:Pt):Prop:=∃v,(q,v)∈lk r p
def Key(r:Rm)(p:Pt):Prop:=∃l,look r p=Jp l
def Pos(r:Rm):Prop:=∀p,∀e∈lk r p,(0<e.2↔FW p e.1)
def N3(r:Rm):Prop:=∀p q,HW r p q->Key r q
def Sz(r:Rm)(n:Nat):Prop:=r.9<=n/\∀p,(lk r p).9<=n
theorem DD:lk (put r p l) q=if p=q then l else lk r q:=by unfold lk;rw[xD];split<;>rfl
theorem CD:lk (sdf r p) q=lk r q:=by
 unfold lk;rw[oP];cases look r q with|some x=>rfl|none=>show(if p=q then Jp [] else Jr).getD []=[];split<;>rfl
theorem mH:Key (put r p l) q↔p=q∨Key r q:=by unfold Key;rw[xD];by_cases h:p=q;rw[Gw h];exact#[λ_=>.inl h,λ_=>#[_,rfl]];rw[Gq h];exact#[.inr,λz=>z.resolve_left h]
theorem eD:Key (sdf r p) q↔p=q∨Key r q:=by
 unfold Key;rw[oP];cases look r q with|some x=>exact#[λ_=>.inr #[_,rfl],λ_=>#[_,rfl]]|none=>show(∃l,(if p=q then Jp [] else Jr)=Jp l)↔_;by_cases h:p=q;rw[Gw h];exact#[λ_=>.inl h,λ_=>#[_,rfl]];rw[Gq h];exact#[λ#[_,e]=>(nomatch e),λz=>(z.resolve_left h)]
theorem gH(h:w.1≠w.2.1)(p:Pt):lk (oB r w) p=if w.2.1=p then put (lk r p) w.1 0 else if w.1=p then put (lk r p) w.2.1 w.2.2 else lk r p:=by unfold oB;rw[DD,DD,DD,CD,CD,CD,CD,Gq h,CD,CD];by_cases y:w.2.1=p;rw[Gw y,Gw y,y];rw[Gq y,Gq y];by_cases x:w.1=p;rw[Gw x,Gw x,x];rw[Gq x,Gq x]
theorem nF:Key (oB r w) p↔p=w.1∨p=w.2.1∨Key r p:=by
 unfold oB;rw[mH,mH,eD,eD];constructor;rintro(h|h|h|h|h)
 ·exact .inr (.inl h.symm)
 exact .inl h.symm;exact .inr (.inl h.symm);exact .inl h.symm;exact .inr (.inr h);rintro(h|h|h)
 ·exact .inr (.inl h.symm)
 exact .inl h.symm;exact .inr (.inr (.inr (.inr h)))
theorem rH(h:w.1≠w.2.1):HW (oB r w) p q↔HW r p q∨(p=w.1/\q=w.2.1)∨(p=w.2.1/\q=w.1):=by
 unfold HW;rw[gH h];by_cases x:w.2.1=p;rw[Gw x,FM];constructor;rintro(e|e)
 ·exact .inr (.inr #[x.symm,e])
 exact .inl e;rintro(e|⟨u,y⟩| ⟨u,y⟩)
 ·exact .inr e
 exact gJ (u.symm.trans x.symm) h;exact .inl y;rw[Gq x];by_cases f:w.1=p;rw[Gw f,FM];constructor;rintro(e|e)
 ·exact .inr (.inl #[f.symm,e])
 exact .inl e;rintro(e|⟨u,y⟩| ⟨u,y⟩)
 ·exact .inr e
 exact .inl y;exact gJ u.symm x;rw[Gq f];exact#[.inl,λz=>z.elim id λz=>z.elim (λe=>gJ e.1.symm f) λe=>gJ e.1.symm x]
def GE(w:Wy):Prop:=FW w.1 w.2.1/\0<w.2.2
theorem lY(g:GE w)(y:Pos r):Pos (oB r w):=by intro p e h;rw[gH (gF g.1)]at h;by_cases f:w.2.1=p;rw[Gw f]at h;rcases EG h with z|z;rw[z,<- f];exact#[λx=>gJ x (We 0),λx=>gJ x (aD g.1)];exact y p e z;rw[Gq f]at h;by_cases u:w.1=p;rw[Gw u]at h;rcases EG h with z|z;rw[z,<- u];exact#[λ_=>g.1,λ_=>g.2];exact y p e z;rw[Gq u]at h;exact y p e h
theorem R0(g:GE w)(x:N3 r):N3 (oB r w):=by
 intro p q h;rw[nF];rcases(rH (gF g.1)).mp h with h|⟨_,h⟩| ⟨_,h⟩
 exact .inr (.inr (x p q h));exact .inr (.inl h);exact .inl h
theorem iJ{α:Type}{w:α}{l:List (Pt×α)}(h:l.9<=n):(put l p w).9<=n+1:=Qc aT ()
theorem GM{α:Type}{p:Pt}{w:α}:∀{l:List (Pt×α)},(look l p).isSome=Js->(put l p w).9=l.9
 |[],h=>by cases h|e::l,h=>by by_cases c:e.1=p;rw[show put (e::l) p w=(e.1,w)::l from Gw c];rfl;rw[show put (e::l) p w=e::put l p w from Gq c,QL,QL];rw[show look (e::l) p=look l p from Gq c]at h;rw[GM h]
theorem ZP(h:Key r p):(look r p).isSome=true:=by let#[l,e]:=h;rw[e];rfl
theorem JZ:(oB r w).9<=r.9+2:=by have x:Key (sdf (sdf r w.1) w.2.1) w.1:=eD.mpr (.inr (eD.mpr (.inl rfl)));have h:Key (sdf (sdf r w.1) w.2.1) w.2.1:=eD.mpr (.inl rfl);unfold oB;rw[GM (ZP (mH.mpr (.inr h))),GM (ZP x)];have:=BM (r:=r) (p:=w.1);have:=BM (r:=sdf r w.1) (p:=w.2.1);omega
theorem DG(g:w.1≠w.2.1)(h:Sz r n):Sz (oB r w) (n+2):=by
 refine#[Qc JZ (by have:=h.1;omega),λp=>?_];rw[gH g];have x:=h.2 p;split;exact Qc (iJ x) ();split
 ·exact Qc (iJ x) ()
 omega
theorem VN:∀{ws:List Wy}{r:Rm},(∀w∈ws,GE w)->∀{p q:Pt},HW (ws.foldl oB r) p q↔HW r p q∨(∃v,(p,q,v)∈ws)∨∃v,(q,p,v)∈ws
 |[],r,_,p,q=>#[.inl,λz=>z.elim id λz=>z.elim (λ#[_,z]=>(nomatch z)) λ#[_,z]=>(nomatch z)]
 |w::ws,r,h,p,q=>by
  rw[wg,VN (λw x=>h w (QC _ x)),rH (gF (h w QD).1)];constructor;rintro((z|⟨rfl,rfl⟩| ⟨rfl,rfl⟩)|⟨v,z⟩| ⟨v,z⟩)
  ·exact .inl z
  exact .inr (.inl #[_,QD]);exact .inr (.inr #[_,QD]);exact .inr (.inl #[v,QC _ z]);exact .inr (.inr #[v,QC _ z]);rintro(z|⟨v,z⟩| ⟨v,z⟩)
  ·exact .inl (.inl z)
  rcases QK.mp z with z|z
  ·rw[<- z]
   exact .inl (.inr (.inl #[rfl,rfl]))
  exact .inr (.inl #[v,z]);rcases QK.mp z with z|z
  ·rw[<- z]
   exact .inl (.inr (.inr #[rfl,rfl]))
  exact .inr (.inr #[v,z])
theorem tQ:∀{ws:List Wy}{r:Rm}{n:Nat},(∀w∈ws,GE w)->Pos r->N3 r->Key r sA->Sz r n->Pos (ws.foldl oB r)/\N3 (ws.foldl oB r)/\Key (ws.foldl oB r) sA/\Sz (ws.foldl oB r) (n+2 * ws.9)
 |[],r,n,_,h1,h2,h3,h4=>#[h1,h2,h3,h4]|w::ws,r,n,h,h1,h2,h3,h4=>by have g:=h w QD;have:=tQ (ws:=ws) (r:=oB r w) (n:=n+2) (λw x=>h w (QC _ x)) (lY g h1) (R0 g h2) (nF.mpr (.inr (.inr h3))) (DG (gF g.1) h4);rw[wg,QL,show n+2 * (ws.9+1)=n+2+2 * ws.9 by omega];exact this
noncomputable def BK(g:Str)(n:Str):List Wy:=if n=g then[] else[(tO n,fR n,1),(sA,tO n,2)]
noncomputable def cM(g:Str)(e:Str×Str):List Wy:=if e.1=g∨e.1=e.2 then[] else[(tO e.1,fR e.1,1),(tO e.2,fR e.2,1),(fR e.1,tO e.2,2)]
def EE:Rm:=[(sA,[])]
def jA(es:LB)(st:LS)(g:Str):Rm:=(es.flatMap (cM g)).foldl oB ((st.flatMap (BK g)).foldl oB EE)
theorem Gj:(0:Int)<1:=by decide
theorem Km:(0:Int)<2:=by decide
theorem BS{n:Str}:(BK g n).9<=2:=by unfold BK;split;exact Q3 _;exact QV _
theorem CS:(cM g e).9<=3:=by unfold cM;split;exact Q3 _;exact QV _
theorem VG{n:Str}:∀w∈BK g n,GE w:=by
 intro w h;unfold BK at h;split at h;exact(nomatch h);rcases QK.mp h with rfl|h
 ·exact#[.inr (.inl #[n,rfl,rfl]),Gj]
 rw[QJ.mp h];exact#[.inl #[rfl,n,rfl],Km]
theorem XG:∀w∈cM g e,GE w:=by
 intro w x;unfold cM at x;split at x;exact(nomatch x);rename_i h;rcases QK.mp x with rfl|x;exact#[.inr (.inl #[e.1,rfl,rfl]),Gj];rcases QK.mp x with rfl|x
 ·exact#[.inr (.inl #[e.2,rfl,rfl]),Gj]
 rw[QJ.mp x];exact#[.inr (.inr #[e.1,e.2,λz=>h (.inr z),rfl,rfl]),Km]
theorem zK{α:Type}{f:α->List Wy}{k:Nat}(h:∀x,(f x).9<=k):∀(l:List α),(l.flatMap f).9<=k * l.9
 |[]=>QV _|x::l=>by have:=zK h l;have:=h x;rw[QAn,QN,QL,Nat.mul_succ];omega
theorem TC{α:Type}{f:α->List Wy}(h:∀x,∀w∈f x,GE w)(l:List α):∀w∈l.flatMap f,GE w:=λw z=>by let#[x,_,y]:=qm.mp z;exact h x w y
structure RmOk(r:Rm)(n:Nat):Prop where
 pos:Pos r
 dom:N3 r
 bg:Key r sA
 sz:Sz r n
theorem vD:RmOk EE 1:=by
 have e:∀p,lk EE p=[]:=λp=>by show(if sA=p then Jp [] else Jr).getD []=[];split<;>rfl
 refine#[λp y x=>?_,λp q #[v,h]=>?_,#[[],Gw rfl],QV _,λp=>?_];rw[e]at x;exact(nomatch x);rw[e]at h;exact(nomatch h);rw[e];exact Q3 _
theorem RmOk.add{r:Rm}{n:Nat}(h:RmOk r n){ws:List Wy}(g:∀w∈ws,GE w):RmOk (ws.foldl oB r) (n+2 * ws.9):=by let#[u,z,y,x]:=tQ g h.pos h.dom h.bg h.sz;exact#[u,z,y,x]
theorem HJ(z:es.9<=126)(y:st.9<=11):RmOk (jA es st g) 1000:=by have a:=(vD.add (TC (f:=BK g) (λ_=>VG) st)).add (TC (f:=cM g) (λ_=>XG) es);have x:=zK (f:=BK g) (k:=2) (λ_=>BS) st;have h:=zK (f:=cM g) (k:=3) (λ_=>CS) es;exact#[a.pos,a.dom,a.bg,Qc a.sz.1 (),λp=>Qc (a.sz.2 p) ()]
def C3(r:Rm)(p q:Pt):Prop:=∃v,(q,v)∈lk r p/\0<v
theorem E3(x:Pos r):C3 r p q↔HW r p q/\FW p q :=
 #[λ#[v,m,h]=>#[#[v,m],(x p _ m).mp h],λ#[#[v,m],h]=>#[v,m,(x p _ m).mpr h]]
inductive Rch(r:Rm):Pt->Prop
 |bg:Rch r sA
 |go {p q:Pt}:Rch r p->C3 r p q->Rch r q
theorem YF:C3 (jA es st g) p q↔∃v,(p,q,v)∈st.flatMap (BK g)++es.flatMap (cM g):=by
 have u:=TC (f:=BK g) (λ_=>VG) st;have y:=TC (f:=cM g) (λ_=>XG) es;have x:∀w∈st.flatMap (BK g)++es.flatMap (cM g),GE w:=λw j=>(QW.mp j).elim (u w) (y w);have o:Pos (jA es st g):=((vD.add u).add y).pos;rw[E3 o];unfold jA;rw[<- QAo,VN x];constructor;rintro⟨z|z|⟨v,z⟩,h⟩
 ·let#[v,z]:=z
  have e:lk EE p=[]:=by show(if sA=p then Jp [] else Jr).getD []=[];split<;>rfl
  rw[e]at z;exact(nomatch z)
 exact z;exact gJ h (aD (x _ z).1);rintro⟨v,z⟩;exact#[.inr (.inl #[v,z]),(x _ z).1]
theorem RZ{n:Str}:(p,q,v)∈BK g n↔n≠g/\((p,q,v)=(tO n,fR n,1)∨(p,q,v)=(sA,tO n,2)):=by unfold BK;split;rename_i h;exact#[λz=>(nomatch z),λz=>gJ h z.1];rename_i h;rw[QK,QJ];exact#[λz=>#[h,z],λz=>z.2]
theorem bW:(p,q,v)∈cM g e↔(e.1≠g/\e.1≠e.2)/\((p,q,v)=(tO e.1,fR e.1,1)∨(p,q,v)=(tO e.2,fR e.2,1)∨(p,q,v)=(fR e.1,tO e.2,2)):=by unfold cM;split;rename_i h;exact#[λz=>(nomatch z),λz=>h.elim (λh=>gJ h z.1.1) λh=>gJ h z.1.2];rename_i h;rw[QK,QK,QJ];exact#[λz=>#[#[λe=>h (.inl e),λe=>h (.inr e)],z],λz=>z.2]
def B0(es:LB)(X:LS):LB:=es.filter λe=>!decide (e.1∈X)
def sX(st:LS)(X:LS):LS:=st.filter λs=>!decide (s∈X)
theorem EJ:e∈B0 es X↔e∈es/\e.1∉X:=by unfold B0;rw[QZ,Qp,decide_eq_false_iff_not]
theorem PZ{s:Str}:s∈sX st X↔s∈st/\s∉X:=by unfold sX;rw[QZ,Qp,decide_eq_false_iff_not]
theorem KB{s:Str}:j7 g X s=Js↔s≠g/\s∉X:=by unfold j7;rw[Qf,Qp,Qp,decide_eq_false_iff_not,decide_eq_false_iff_not]
end
section
variable{es:LB}{st:LS}{g:Str}{x:LS}
theorem fF{s:Str}(h:Led es st g x s):s≠g/\s∉x:=by
 cases h with|st _ h=>exact KB.mp h|ed _ _ h=>exact KB.mp h
def Ae(es:LB)(st:LS)(g:Str)(x:LS)(n:Str):Prop:=(n∈sX st x/\n≠g)∨∃a,(a,n)∈B0 es x/\Led es st g x a
theorem gX{n:Str}(h:Ae es st g x n)(z:n≠g)(y:n∉x):Led es st g x n:=by
 rcases h with⟨h,_⟩| ⟨a,h,l⟩
 exact .st (PZ.mp h).1 (KB.mpr #[z,y]);exact .ed l (EJ.mp h).1 (KB.mpr #[z,y])
theorem EX{p:Pt}(h:Rch (jA (B0 es x) (sX st x) g) p):(∀n,p=tO n->Ae es st g x n)/\∀n,p=fR n->Ae es st g x n:=by
 induction h with|bg=>exact#[λn e=>gJ e UB,λn e=>gJ e JD]|@go p q _ w y=>let#[v,w]:=YF.mp w;rcases QW.mp w with w|w;let#[n,z,w]:=qm.mp w;obtain⟨ng,w|w⟩:=RZ.mp w;cases w;exact#[λm e=>gJ e.symm iA,λm e=>by rw[<- GD e];exact y.1 n rfl];cases w;exact#[λm e=>by rw[<- cB e];exact .inl #[z,ng],λm e=>gJ e iA];let#[#[a,b],z,w]:=qm.mp w;obtain⟨⟨u,k⟩,w|w|w⟩:=bW.mp w;cases w;exact#[λm e=>gJ e.symm iA,λm e=>by rw[<- GD e];exact y.1 a rfl];cases w;exact#[λm e=>gJ e.symm iA,λm e=>by rw[<- GD e];exact y.1 b rfl];cases w;exact#[λm e=>by rw[<- cB e];exact .inr #[a,z,gX (y.2 a rfl) u (EJ.mp z).2],λm e=>gJ e iA]
theorem U6{n:Str}(h:Led es st g x n):Rch (jA (B0 es x) (sX st x) g) (fR n):=by
 induction h with|@st s h k=>let#[u,f]:=KB.mp k;have m:s∈sX st x:=PZ.mpr #[h,f];have a:Rch (jA (B0 es x) (sX st x) g) (tO s):=.go .bg (YF.mpr #[2,Qd _ (qm.mpr #[s,m,RZ.mpr #[u,.inr rfl]])]);exact .go a (YF.mpr #[1,Qd _ (qm.mpr #[s,m,RZ.mpr #[u,.inl rfl]])])|@ed a b l m k v=>by_cases e:a=b;rw[<- e];exact v;let#[z,w]:=fF l;have y:(a,b)∈B0 es x:=EJ.mpr #[m,w];have c:Rch (jA (B0 es x) (sX st x) g) (tO b):=.go v (YF.mpr #[2,QR _ (qm.mpr #[(a,b),y,bW.mpr #[#[z,e],.inr (.inr rfl)]])]);exact .go c (YF.mpr #[1,QR _ (qm.mpr #[(a,b),y,bW.mpr #[#[z,e],.inr (.inl rfl)]])])
theorem O4:Rch (jA (B0 es x) (sX st x) g) (tO g)↔∃a,(a,g)∈es/\Led es st g x a:=by
 constructor;intro h;rcases(EX h).1 g rfl with⟨_,z⟩| ⟨a,z,l⟩
 exact gJ rfl z;exact#[a,(EJ.mp z).1,l];rintro⟨a,m,l⟩;let#[y,u]:=fF l;exact .go (U6 l) (YF.mpr #[2,QR _ (qm.mpr #[(a,g),EJ.mpr #[m,u],bW.mpr #[#[y,y],.inr (.inr rfl)]])])
end
section
variable{r:Rm}{ks:List Pt}{vs:List D}
theorem nX:∀{ws:List Wy}{r:Rm}{n:Nat},(∀w∈ws,GE w)->Sz r n->Sz (ws.foldl oB r) (n+2 * ws.9)
 |[],r,n,_,h4=>h4|w::ws,r,n,h,h4=>by have:=nX (ws:=ws) (r:=oB r w) (n:=n+2) (λw x=>h w (QC _ x)) (DG (gF (h w QD).1) h4);rw[wg,QL,show n+2 * (ws.9+1)=n+2+2 * ws.9 by omega];exact this
inductive CF(r:Rm):List Pt->List D->Prop
 |bg:CF r [sA] [.none]
 |add {ks:List Pt}{vs:List D}{p q:Pt}:CF r ks vs->p∈ks->C3 r p q->q∉ks->CF r (ks++[q]) (vs++[pr p])
theorem CF.len(h:CF r ks vs):vs.9=ks.length:=by
 induction h with|bg=>rfl|add _ _ _ _ x=>rw[QN,QN,x];rfl
theorem CF.hb(h:CF r ks vs):sA∈ks:=by
 induction h with|bg=>exact QD|add _ _ _ _ x=>exact Qd _ x
theorem CF.rch(h:CF r ks vs):∀k∈ks,Rch r k:=by
 induction h with|bg=>intro k hk;rw[QJ.mp hk];exact .bg|add _ y w _ x=>intro k hk;rcases QW.mp hk with z|z;exact x k z;rw[QJ.mp z];exact .go (x _ y) w
theorem CF.nd(h:CF r ks vs):ks.Nodup:=by
 induction h with
 |bg=>exact Qa.mpr #[λz=>(nomatch z),Qt]
 |add _ _ _ n x=>refine qT.mpr #[x,Qa.mpr #[λz=>(nomatch z),Qt],λa y b hb z=>?_];rw[QJ.mp hb]at z;exact n (z▸y)
theorem SG(x:N3 r)(hb:Key r sA){p:Pt}(h:Rch r p):Key r p:=by
 cases h with|bg=>exact hb|go _ w=>let#[v,m,_]:=w;exact x _ _ #[v,m]
theorem mN{p:Pt}{l:Inn}:∀{r:Rm},look r p=Jp l->p∈r.map (·.1)
 |[],h=>by cases h|e::r,h=>by by_cases c:e.1=p;rw[<- c];exact QD;rw[show look (e::r) p=look r p from Gq c]at h;exact QC _ (mN (r:=r) h)
theorem HF:∀{ks ns:List Pt},ks.Nodup->(∀s∈ks,s∈ns)->ks.9<=ns.9
 |[],_,_,_=>Q3 _|s::r,ns,h,hs=>by let#[u,z]:=Qa.mp h;have hm:=hs s QD;have:=HF (ks:=r) (ns:=ns.erase s) z λx y=>(W7 (λ(e:x=s)=>u (e▸y))).mpr (hs x (QC _ y));rw[WV hm]at this;have v:=WB hm;rw[QL];omega
theorem CF.le(x:N3 r)(hb:Key r sA)(h:CF r ks vs):ks.9<=r.length:=by
 have:=HF (ns:=r.map (·.1)) h.nd λs hs=>by let#[l,e]:=SG x hb (h.rch s hs);exact mN e
 rw[QG]at this;exact this
structure Srch(r:Rm)(ks:List Pt)(vs:List D)(ws:List Pt):Prop where
 cf:CF r ks vs
 sub:∀w∈ws,w∈ks
 clo:∀k∈ks,k∉ws->∀q,C3 r k q->q∈ks
structure Srch1(r:Rm)(here:Pt)(ks:List Pt)(vs:List D)(ws:List Pt)(l:Inn):Prop where
 cf:CF r ks vs
 sub:∀w∈ws,w∈ks
 clo:∀k∈ks,k∉ws->k≠here->∀q,C3 r k q->q∈ks
 her:here∈ks
 don:∀e∈lk r here,0<e.2->e.1∈ks∨e∈l
 all:∀e∈l,e∈lk r here
end
section
variable{r:Rm}{ks ws:List Pt}{vs:List D}
theorem rg:Srch r [sA] [.none] [sA]:=#[.bg,λ_ h=>h,λk h n=>gJ h n]
theorem Srch.pop{w:Pt}(h:Srch r ks vs (w::ws)):Srch1 r w ks vs ws (lk r w):=by refine#[h.cf,λx v=>h.sub x (QC _ v),λk hk n u=>h.clo k hk λz=>?_,h.sub w QD,λe y _=>.inr y,λe y=>y];rcases QK.mp z with z|z;exact u z;exact n z
theorem Srch1.skip{y:Pt}{e:Pt×Int}{l:Inn}(h:Srch1 r y ks vs ws (e::l))(c:0<e.2->e.1∈ks):Srch1 r y ks vs ws l:=by
 refine#[h.cf,h.sub,h.clo,h.her,λx u p=>?_,λx u=>h.all x (QC _ u)];rcases h.don x u p with z|z;exact .inl z;rcases QK.mp z with z|z
 ·rw[z]at p ⊢;exact .inl (c p)
 exact .inr z
theorem Srch1.add{u:Pt}{e:Pt×Int}{l:Inn}(h:Srch1 r u ks vs ws (e::l))(c:0<e.2)(n:e.1∉ks):Srch1 r u (ks++[e.1]) (vs++[pr u]) (ws++[e.1]) l:=by
 have f:=h.all e QD;refine#[h.cf.add h.her #[e.2,f,c] n,λx v=>?_,λk hk a b q w=>?_,Qd _ h.her,λx v p=>?_,λx v=>h.all x (QC _ v)];rcases QW.mp v with z|z
 ·exact Qd _ (h.sub x z)
 exact QR _ z;rcases QW.mp hk with z|z
 ·exact Qd _ (h.clo k z (λy=>a (Qd _ y)) b q w)
 exact gJ (QR _ z) a;rcases h.don x v p with z|z
 ·exact .inl (Qd _ z)
 rcases QK.mp z with z|z
 ·rw[z];exact .inl (QR _ QD)
 exact .inr z
theorem Srch1.fin{x:Pt}(h:Srch1 r x ks vs ws []):Srch r ks vs ws:=by refine#[h.cf,h.sub,λk hk n q w=>?_];by_cases e:k=x;subst e;let#[v,m,p]:=w;rcases h.don (q,v) m p with z|z;exact z;exact(nomatch z);exact h.clo k hk n e q w
theorem Srch.done(h:Srch r ks vs [])(p:Pt):p∈ks↔Rch r p:=by
 refine#[h.cf.rch p,λz=>?_];induction z with|bg=>exact h.cf.hb|go _ w x=>exact h.clo _ x (λz=>(nomatch z)) _ w
end
def eC(Q:T->LT->Prop):PEnds:={ nx:=λh=>KY (NA [0] h) (Q (.d .none)),rt:=λt h=>KY (NA [0] h) (Q t) }
theorem jI{Ψ:PEv}{b:PT}{p:PSp}{N x:LS}{ds:LT}{Q:T->LT->Prop}(ρ:kA)(h:pF Ψ b (eC Q) ρ)(hl:ds.9=x.length:=by rfl)(hc:XB 0 p.md x.9=[0]:=by rfl)(hs:LA N p.md ds=ρ:=by rfl):ds.9=x.9/\pF Ψ b (YC p x.9 Q) (LA N p.md ds):=by
 have e:YC p x.9 Q=eC Q:=by unfold YC;rw[hc];rfl
 rw[e,hs];exact#[hl,h]
def KW(r:Rm)(h t:Pt)(v:Int):kA:=[oW (UA r),bD (pr h),bD (pr t),bD (.int v)]
section
variable{Ψ:PEv}{Z:PEnds}{q:PT}{r:Rm}{h t:Pt}{v:Int}
theorem Fl(hl:r.9<jx)(k:pF Ψ q Z (KW (sdf r h) h t v)):pF Ψ (.seq (.sdf 0 (.kw 1)) q) Z (KW r h t v):=by delta KW at k ⊢;simp![↓zA];refine#[rfl,uT hl ?_];exact k
theorem Dl(hl:r.9<jx)(k:pF Ψ q Z (KW (sdf r t) h t v)):pF Ψ (.seq (.sdf 0 (.kw 2)) q) Z (KW r h t v):=by delta KW at k ⊢;simp![↓zA];refine#[rfl,uT hl ?_];exact k
theorem Bl{l:Inn}(e:look r h=Jp l)(hl:l.9<jx)(k:pF Ψ q Z (KW (put r h (put l t v)) h t v)):pF Ψ (.seq (.six (.idx (.kw 0) (.kw 1)) (.kw 2) (.kw 3)) q) Z (KW r h t v):=by delta KW at k ⊢;simp![↓zA];refine FG e λf x=>iM hl ?_;rw[x];exact k
theorem Ul{l:Inn}(e:look r t=Jp l)(hl:l.9<jx)(k:pF Ψ q Z (KW (put r t (put l h 0)) h t v)):pF Ψ (.seq (.six (.idx (.kw 0) (.kw 2)) (.kw 1) (.int 0)) q) Z (KW r h t v):=by delta KW at k ⊢;simp![↓zA];refine FG e λf x=>iM hl ?_;rw[x];exact k
end
theorem jE{r:Rm}{p:Pt}(h:Key r p):look r p=Jp (lk r p):=by let#[l,e]:=h;unfold lk;rw[e];rfl
def VF:PSp where
 md:=[.chg]
 run:=λh Q _=>∃(r:Rm) (w:Wy),h=[UA r,.d (pr w.1),.d (pr w.2.1),.d (.int w.2.2)]/\(w.1≠w.2.1/\Sz r 5000)/\Q (.d .none) [UA (oB r w)]
theorem j6{Ψ:PEv}:MU Ψ jM VF uM XJ:=by rintro _ Q _ ⟨r,w,rfl,⟨y,hs⟩,q⟩;refine jI (KW r w.1 w.2.1 w.2.2) ?_;have k:=hs.1;have v:=BM (r:=r) (p:=w.1);have x:Key (sdf (sdf r w.1) w.2.1) w.1:=eD.mpr (.inr (eD.mpr (.inl rfl)));have h:Key (sdf (sdf r w.1) w.2.1) w.2.1:=eD.mpr (.inl rfl);have u:=hs.2 w.1;have z:=hs.2 w.2.1;refine Fl () (Dl () (Bl (jE x) (by rw[CD,CD];omega) (Ul (jE (mH.mpr (.inr h))) (by rw[DD,Gq y,CD,CD];omega) ?_)));exact q
def NG:PSp where
 md:=[.chg]
 run:=λh Q _=>∃(r:Rm) (n:Str),h=[UA r,.d (.str n)]/\Sz r 5000/\Q (.d .none) [UA (oB r (tO n,fR n,1))]
theorem y6{Ψ:PEv}(h:Ψ.sp "add_way"=VF):MU Ψ JG NG ZK gI:=by rintro _ Q _ ⟨r,n,rfl,hs,q⟩;refine jI [oW (UA r),bD (.str n)] ?_;delta JG;simp![↓RF (md:=[]) h rfl rfl];refine#[(),(),?_];exact#[_,(tO n,fR n,1),rfl,#[iA,hs],#[_,rfl,q]]
def OW(es:LB)(st:LS)(g:Str)(r:Rm)(o4 o5 o6:Option Sl):kA:=[bD (.list (es.map pr)),bD (.list (st.map Jx)),bD (.str g),oW (UA r),o4,o5,o6]
section
variable{Ψ:PEv}{Z:PEnds}{es:LB}{st:LS}{g:Str}{r:Rm}
theorem Zk(h:Ψ.va "BEGIN"=Jp (pr sA)){q:PT}{o3 o4 o5 o6:Option Sl}(k:pF Ψ q Z (OW es st g EE o4 o5 o6)) :
  pF Ψ (.seq (.own 3 (.dsp (.glo "BEGIN") (.dnew Js))) q) Z [bD (.list (es.map pr)),bD (.list (st.map Jx)),bD (.str g),o3,o4,o5,o6]:=by
 simp![↓uG h];exact#[zC sA,k]
theorem Yk(a:Ψ.sp "add_name"=NG)(v:Ψ.sp "add_way"=VF)(u:Ψ.va "BEGIN"=Jp (pr sA))(z:Ψ.va "WIDE"=Jp (.int 2)){n:Str}{o5 o6:Option Sl}(hs:Sz r 4900)(k:Z.nx (OW es st g ((BK g n).foldl oB r) (bD (.str n)) o5 o6)) :
  pF Ψ JE Z (OW es st g r (bD (.str n)) o5 o6):=by
 delta OW at k ⊢;delta JE;simp![↓uG u,↓uG z,↓RF (md:=[]) a rfl rfl,↓RF (md:=[]) v rfl rfl];by_cases e:n=g;rw[dT e];unfold BK at k;rw[Gw e]at k;exact k;rw[dF e];unfold BK at k;rw[Gq e]at k;have y:Sz r 5000:=#[Qc hs.1 (),λp=>Qc (hs.2 p) ()]
 have h:=DG (w:=(tO n,fR n,1)) iA hs;have x:Sz (oB r (tO n,fR n,1)) 5000:=#[Qc h.1 (),λp=>Qc (h.2 p) ()]
 refine#[_,_,rfl,y,#[_,rfl,?_]];refine#[(),?_];exact#[_,(sA,tO n,2),rfl,#[UB,x],#[_,rfl,k]]
theorem Jk(i:Ψ.sp "add_name"=NG)(f:Ψ.sp "add_way"=VF)(v:Ψ.va "WIDE"=Jp (.int 2)){a b:Str}{o4:Option Sl}(hs:Sz r 4900)(k:Z.nx (OW es st g ((cM g (a,b)).foldl oB r) o4 (bD (.str a)) (bD (.str b)))) :
  pF Ψ iE Z (OW es st g r o4 (bD (.str a)) (bD (.str b))):=by
 delta OW at k ⊢;delta iE;simp![↓uG v,↓RF (md:=[]) i rfl rfl,↓RF (md:=[]) f rfl rfl];unfold cM at k;by_cases e:a=g;rw[dT e];rw[Gw (.inl e)]at k;exact k;rw[dF e];by_cases h:a=b;rw[dT h];rw[Gw (.inr h)]at k;exact k;rw[dF h];rw[Gq (λz=>z.elim e h)]at k;have u:Sz r 5000:=#[Qc hs.1 (),λp=>Qc (hs.2 p) ()]
 have x:=DG (w:=(tO a,fR a,1)) iA hs;have y:=DG (w:=(tO b,fR b,1)) iA x;refine#[_,_,rfl,u,#[_,rfl,?_]];refine#[_,_,rfl,#[Qc x.1 (),λp=>Qc (x.2 p) ()],#[_,rfl,?_]];refine#[(),(),?_];exact#[_,(fR a,tO b,2),rfl,#[iA.symm,#[Qc y.1 (),λp=>Qc (y.2 p) ()]],#[_,rfl,k]]
end
section
variable{Ψ:PEv}{r:Rm}{p q:Pt}{l:Inn}{n m:Bool}{R:T->Prop}{W:LT->Prop}{E:XE}{ρ:kA}{b:PX}{M:List (T×Bool)->kA->Prop}{md:List Md}{ks:List Pt}{vs:List D}
def SE:PSp where
 run:=λx Q _=>∃(h:LB) (st:LS) (g:Str),x=[.d (.list (h.map pr)),.d (.list (st.map Jx)),.d (.str g)]/\(h.9<=126/\st.9<=11)/\Q (UA (jA h st g)) []
theorem YV(o:Ψ.sp "add_name"=NG)(j:Ψ.sp "add_way"=VF)(i:Ψ.va "BEGIN"=Jp (pr sA))(f:Ψ.va "WIDE"=Jp (.int 2)):MU Ψ sK SE JK fI:=by rintro _ Q _ ⟨h,st,g,rfl,⟨Y,X⟩,q⟩;refine OA [bD (.list (h.map pr)),bD (.list (st.map Jx)),bD (.str g),Jr,Jr,Jr,Jr] ?_;refine Zk i ?_;delta OW;simp![↓zA];rw[<- sB];refine FB (λ(s:Str)=>T.d (.str s)) (λl ρ=>∃r x,RmOk r (1+4 * (11 - l.9))/\l.9<=11/\(l.flatMap (BK g)).foldl oB r=(st.flatMap (BK g)).foldl oB EE/\ρ=OW h st g r x Jr Jr) ?_ ?_ _ _ #[EE,_,?_,X,rfl,rfl];rintro ρ ⟨r,x,ok,_,e,rfl⟩;have e:r=(st.flatMap (BK g)).foldl oB EE:=e;delta OW;simp![↓zA];rw[<- sB];refine FB (λ(p:Str×Str)=>T.d (pr p)) (λl ρ=>∃r v u,Sz r (45+6 * (126 - l.9))/\l.9<=126/\(l.flatMap (cM g)).foldl oB r=jA h st g/\ρ=OW h st g r (mF x) v u) ?_ ?_ _ _ #[r,_,_,?_,Y,by rw[e];rfl,rfl];rintro ρ ⟨r,v,u,_,_,e,rfl⟩;have e:r=jA h st g:=e;subst e;delta OW;simp![↓zA];exact q;rintro⟨a,b⟩ l ρ N k ⟨r,v,u,s,w,e,rfl⟩;rw[QL]at s w;rw[QAn,QAo]at e;refine CC.mk rfl ?_;refine Jk (a:=a) (b:=b) o j f #[Qc s.1 (),λp=>Qc (s.2 p) ()] (k _ #[_,_,_,?_,(),e,rfl]);have z:Sz ((cM g (a,b)).foldl oB r) (45+6 * (126 - (l.9+1))+2 * (cM g (a,b)).9):=nX XG s;have y:=CS (g:=g) (e:=(a,b));exact#[Qc z.1 (),λp=>Qc (z.2 p) ()];exact#[Qc ok.sz.1 (by rw[Qm];omega),λp=>Qc (ok.sz.2 p) (by rw[Qm];omega)];rintro s l ρ N k ⟨r,x,ok,w,e,rfl⟩;rw[QL]at ok w;rw[QAn,QAo]at e;refine Yk (n:=s) o j i f #[Qc ok.sz.1 (),λp=>Qc (ok.sz.2 p) ()] (k _ #[_,_,?_,(),e,rfl]);have z:=ok.add (ws:=BK g s) VG;have y:=BS (g:=g) (n:=s);exact#[z.pos,z.dom,z.bg,Qc z.sz.1 (),λp=>Qc (z.sz.2 p) ()];exact#[vD.pos,vD.dom,vD.bg,Qc vD.sz.1 (),λp=>Qc (vD.sz.2 p) ()]
def HK(l:Inn):D:=.dict (l.map λe=>(pr e.1,.int e.2))
def B3(r:Rm):List (D×D):=r.map λe=>(pr e.1,HK e.2)
theorem Ld(l:Inn):(JC l).er=HK l:=by show PyData.dict ((EB l).zip (ersT (l.map λe=>T.d (.int e.2))))=_;rw[show(l.map λe=>T.d (.int e.2))=(l.map λe=>Jy e.2).map T.d by rw[Qi];rfl,bB];unfold EB HK;rw[QB2]
theorem c7(r:Rm):(UA r).er=.dict (B3 r):=by show PyData.dict ((EB r).zip (ersT (r.map λe=>JC e.2)))=_;rw[ZN,Qi,show(T.er∘λ(e:Pt×Inn)=>JC e.2)=λe=>HK e.2 from funext λe=>Ld e.2];unfold EB B3;rw[QB2]
theorem yW(h:look r p=Jp l):iC (B3 r)=Jp true:=by
 cases r with|nil=>cases h|cons e r=>rfl
theorem UZ(l:Inn):(l.map λe=>(pr e.1,Jy e.2))=[]∨iC (l.map λe=>(pr e.1,Jy e.2))=Jp true:=by
 cases l with|nil=>exact .inl rfl|cons e r=>exact .inr rfl
theorem Oa(h:Key r p)(k:R (.d (HK (lk r p)))):FC (.d (.dict (B3 r))) n (.d (pr p)) m R:=by
 have e:=jE h;let#[i,u,y,_]:=fC (λl=>T.d (HK l)) e;have w:(B3 r).map (·.1)=EB r:=by unfold B3 EB;rw[Qi];rfl
 refine Xf (yW e) (zC p) (by rw[w];exact u) ?_ k;have v:(B3 r).map (·.2)=r.map λe=>HK e.2:=by unfold B3;rw[Qi];rfl
 rw[v];rw[Qg]at y ⊢;cases z:r[i]? with|none=>rw[z]at y;cases y|some x=>rw[z]at y;injection y with y;injection y with y;show Jp (HK x.2)=_;rw[y]
theorem Of:GK .itm [(.d (HK l),n)] W=W (l.map λe=>.d (.tuple [pr e.1,.int e.2])):=by unfold HK;rw[Nf (UZ l),Qi];rfl
theorem YG{K:TK}:k8 (UA r) Jt Ψ b E ρ K=NB Ψ b E (lockA ρ) λy m _=>K y m ρ:=rfl
theorem HU{K:TK}:k8 (JC l) Jt Ψ b E ρ K=NB Ψ b E (lockA ρ) λy m _=>K y m ρ:=rfl
theorem xO:v8 (UA r) Jt Ψ b E md ρ M=DK Ψ b E md (lockA ρ) λxs _=>M xs ρ:=rfl
theorem E2:v8 (JC l) Jt Ψ b E md ρ M=DK Ψ b E md (lockA ρ) λxs _=>M xs ρ:=rfl
def zf(t:T)(r:Rm):Prop:=t=UA r∨t=.d (.dict (B3 r))
theorem Uf{b:Bool}{ks:List D}{ts:LT}{n m:Bool}{k:D}{l:Nat}{t:T}(z:sE b k)(y:dA ks k=Jp l)(x:ts[l]?=Jp t)(h:R t):FC (.dct b ks ts) Jt (.d k) m R:=.inr #[b,ks,ts,l,t,rfl,z,y,x,h]
theorem gE(h:Key r p)(k:R (JC (lk r p))):FC (UA r) Jt (.d (pr p)) m R:=by let#[i,y,x,_]:=fC JC (jE h);exact Uf (n:=Jt) (zC p) y x k
theorem bM{v:Int}(h:look l p=Jp v)(k:R (.d (.int v))):FC (JC l) Jt (.d (pr p)) m R:=by let#[i,y,x,_]:=fC (λv:Int=>T.d (.int v)) h;exact Uf (n:=Jt) (zC p) y x k
theorem GS(l:Inn):VD (l.map λe=>T.d (.int e.2))=Jp (l.map λe=>.int e.2):=by rw[show(l.map λe=>T.d (.int e.2))=(l.map λe=>Jy e.2).map T.d by rw[Qi];rfl,oA]
theorem Aa:GK .itm [(JC l,Jt)] W=W (l.map λe=>.d (.tuple [pr e.1,.int e.2])):=by
 refine(UP _ _).trans ?_;have e:((EB l).zip (l.map λe=>Jy e.2)).map (λp=>T.d (.tuple [p.1,p.2]))=l.map λe=>T.d (.tuple [pr e.1,.int e.2]):=by unfold EB;rw[QB2,Qi];rfl
 refine gx #[λ#[x,h,k]=>?_,λk=>#[_,GS l,by rw[e];exact k]];rw[GS]at h;cases h;rw[e]at k;exact k
theorem j4{a:PX}:SF (.idx a b)=SF a:=rfl
theorem Re:yO [(JC l,Jt)]=false:=rfl
noncomputable def RW(ks:List Pt)(vs:List D):T:=.dct Js (ks.map pr) (vs.map T.d)
theorem vY:pr q∈ks.map pr↔q∈ks:=by constructor;intro h;let#[x,y,e]:=QY.mp h;rw[<- HM e];exact y;exact wE
theorem II(ks:List Pt)(q:Pt):(dA (ks.map pr) (pr q)).isSome=decide (q∈ks):=by rw[qa,zS,vY,gz]
theorem vb{x:D}{Q:T->Prop}(n:q∉ks)(hl:ks.9<jx)(k:Q (RW (ks++[q]) (vs++[x]))):fg (RW ks vs) (.d (pr q)) (.d x) Q:=by refine#[zC q,by rw[QG];exact hl,?_];show Q (cR Js (ks.map pr) (vs.map T.d) (pr q) (.d x));unfold cR;rw[gC.mpr (λz=>n (vY.mp z))];unfold RW at k;rw[Qk,Qk]at k;exact k
theorem Je{L:Bool->Prop}:HD .NotIn (.d (pr q)) (RW ks vs) L=L (!decide (q∈ks)):=by unfold RW;rw[JS,II];exact gx #[λh=>h.2,λh=>#[zC q,h]]
def tL(h:T)(ks:List Pt)(vs:List D)(ws:List Pt)(o3 o4 o5:Option Sl):kA:=[Jp (.ny h),Jp (.own (RW ks vs)),Jp (.own (.lst ((ws.map pr).map T.d))),o3,o4,o5]
end
section
variable{Ψ:PEv}{Z:PEnds}{x:T}{r:Rm}{ks ws:List Pt}{vs:List D}
section
variable{w:Pt}{o3 o4 o5:Option Sl}
theorem Bk{p q:Pt}{v:Int}(hl:ks.9<jx)(a:ws.9<jx)(u:(0<v->q∈ks)->Z.nx (tL x ks vs ws (bD (pr p)) (bD (pr q)) (bD (.int v))))
  (k:0<v->q∉ks->Z.nx (tL x (ks++[q]) (vs++[pr p]) (ws++[q]) (bD (pr p)) (bD (pr q)) (bD (.int v)))) :
  pF Ψ RA Z (tL x ks vs ws (bD (pr p)) (bD (pr q)) (bD (.int v))):=by
 delta tL at u k ⊢;delta RA;simp![↓Je];by_cases h:0<v;rw[dT h];by_cases y:q∈ks;rw[dT y];exact u λ_=>y;rw[dF y];simp only[QBT,↓reduceIte];refine vb y hl ?_;refine#[by rw[QG,QG];exact a,?_];have:=k h y;rw[Qk,Qk]at this;exact this;rw[dF h];exact u λz=>gJ z h
theorem Ob{q:PT}(k:pF Ψ q Z (tL x ks vs ws (bD (pr w)) o4 o5)) :
  pF Ψ (.seq (.set 3 (.mt .pop (.kw 2) %[.int 0|1])) q) Z (tL x ks vs (w::ws) o3 o4 o5):=by
 delta tL at k ⊢;simp![↓zA];refine#[0,.d (pr w),?_,rfl,rfl,k];unfold dO;rw[Gw (by decide),Gw (by rw[QG,QG,QL];omega)];rfl
theorem Pb(y:zf x r)(hk:Key r w)
  (k:sG (pF Ψ RA) (.tp [4,5]) { Z with nx:=λh=>Z.nx (kill [4,5] h) } ((lk r w).map λe=>T.d (.tuple [pr e.1,.int e.2])) (tL x ks vs ws (bD (pr w)) o4 o5)) :
  pF Ψ %[.for_ (.tp [4,5]) .itm %[.idx (.kw 0) (.kw 3)|1] RA|2] Z (tL x ks vs ws (bD (pr w)) o4 o5):=by
 rcases y with rfl|rfl;delta tL at k ⊢;simp![↓YG];refine gE hk ?_;simp![↓E2,↓Aa,Re,j4];exact k;delta tL at k ⊢;simp![↓zA];refine Oa hk ?_;simp![↓Of];exact k
theorem Uk(m:zf x r)(a:N3 r)(hb:Key r sA)(X:r.9<=1000)(h:Srch r ks vs (w::ws))(hm:2 * (r.9 - ks.9)+ws.9+1<=3000)
  (hz:∀z u y o3 o4 o5,Srch r z u y->2 * (r.9 - z.9)+y.9<=2 * (r.9 - ks.9)+ws.9->Z.nx (tL x z u y o3 o4 o5)) :
  pF Ψ dD Z (tL x ks vs (w::ws) o3 o4 o5):=by
 have Y:jx=16777216:=qR;refine Ob ?_;have h0:=h.pop;have hk:Key r w:=SG a hb (h.cf.rch w (h.sub w QD));refine Pb m hk ?_;refine FB (λ(e:Pt×Int)=>T.d (.tuple [pr e.1,.int e.2])) (λl k=>∃z u y o4 o5,Srch1 r w z u y l/\2 * (r.9 - z.9)+y.9<=2 * (r.9 - ks.9)+ws.9/\k=tL x z u y (bD (pr w)) o4 o5) ?_ ?_ _ _ #[ks,vs,ws,_,_,h0,QV _,rfl];rintro k ⟨z,u,y,g,f,s,l,rfl⟩;exact hz z u y _ (mF g) (mF f) s.fin l;rintro⟨q,v⟩ l k N i ⟨z,u,y,g,f,s,e,rfl⟩;refine CC.mk rfl ?_;have o:=s.cf.le a hb;refine Bk (p:=w) (q:=q) (v:=v) () () (λc=>i _ #[z,u,y,_,_,s.skip c,e,rfl]) λc n=>?_;have b:=s.add c n;have j:=b.cf.le a hb;rw[QN,qE]at j;exact i _ #[_,_,_,_,_,b,by rw[QN,QN,qE];omega,rfl]
theorem Ck(h:Ψ.va "BEGIN"=Jp (pr sA)){q:PT}(k:pF Ψ q Z (tL x [sA] [.none] [sA] Jr Jr Jr)) :
  pF Ψ (.seq (.own 1 (.dsp (.glo "BEGIN") .non)) (.seq (.own 2 (.lst %[.glo "BEGIN"|1])) q)) Z [Jp (.ny x),Jr,Jr,Jr,Jr,Jr]:=by
 have y:jx=16777216:=qR;simp![↓uG h];exact#[zC sA,(),k]
end
end
theorem GI{Ψ:PEv}{E:XE}{c:PX}{q:PT}{Z:PEnds}{ρ:kA}(W:Nat->kA->Prop)(m:Nat)(h0:W m ρ)(hs:∀m ρ,W m ρ->CT Ψ c E ρ λb x=>if b=Js then lB Ψ E q { Z with nx:=λh=>∃y,y < m/\W y h,ct:=λh=>∃y,y < m/\W y h,bk:=Z.nx } x else Z.nx x):Cf Ψ E c q Z ρ:=#[W,#[m,h0],hs]
def ND:PSp where
 md:=[.ny]
 run:=λz Q _=>∃(y:T) (r:Rm),z=[y]/\(zf y r/\N3 r/\Key r sA/\r.9<=1000)/\∀h x,CF r h x->(∀p,p∈h↔Rch r p)->Q (RW h x) []
theorem LY{Ψ:PEv}(l:Ψ.va "BEGIN"=Jp (pr sA)):MU Ψ uE ND dE oD:=by
 rintro _ Q _ ⟨a,r,rfl,⟨h0,j,hb,i⟩,q⟩;refine OA [Jp (.ny a),Jr,Jr,Jr,Jr,Jr] ?_;refine Ck l ?_;delta tL;simp![↓zA];refine GI (λm k=>m<=3000/\∃x y h o3 o4 o5,Srch r x y h/\m=2 * (r.9 - x.9)+h.9/\k=tL a x y h o3 o4 o5) (2 * (r.9 - 1)+1) #[(),[sA],[.none],[sA],Jr,Jr,Jr,rg,rfl,rfl] ?_;rintro m k ⟨hm,x,y,h,o3,o4,o5,s,e,rfl⟩;cases h with|nil=>delta tL;simp![QG];rw[dF ()];simp![↓zA];exact q x y s.cf s.done|cons w h=>rw[QL]at e;have b:=λ(Z:PEnds) g=>Uk (Ψ:=Ψ) (Z:=Z) (o3:=o3) (o4:=o4) (o5:=o5) h0 j hb i s () g;unfold tL at b;delta tL;simp![QG];rw[dT ()];refine b _ λv u z o3 o4 o5 f n=>#[_,(),(),v,u,z,o3,o4,o5,f,rfl,rfl]
theorem N7{α:Type}{x:α}{r:List α}:BE (x::r) 0=Jp x:=SN (j:=0) rfl
theorem Hl{α:Type}{x y:α}{r:List α}:BE (x::y::r) 1=Jp y:=SN (j:=1) rfl
theorem yf{md:List Md}{r:Rm}{xs:List (T×Bool)}{C:LT->Prop}:rB (.ny::md) ((UA r,Js)::xs) C=rB md xs λts=>C (.d (.dict (B3 r))::ts):=by have e:JA (.ny::md) ((UA r,Js)::xs) []=(JA md xs []).map (.d (UA r).er::·):=rfl;unfold rB;rw[e,jF,c7]
theorem ae{ks:List Pt}{vs:List D}{q:Pt}{L:Bool->Prop}(hv:vs.9=ks.9)(hb:sA∈ks)(k:L (!decide (q∈ks))):HD .NotIn (.d (pr q)) (bA (RW ks vs) Js) L:=by
 have e:(RW ks vs).er=.dict ((ks.map pr).zip vs):=by show PyData.dict ((ks.map pr).zip (ersT (vs.map T.d)))=_;rw[bB]
 show B1 .NotIn (pr q) (RW ks vs).er L;rw[e];show ∃b,iC ((ks.map pr).zip vs)=Jp b/\sE b (pr q)/\L (!(dA (((ks.map pr).zip vs).map (·.1)) (pr q)).isSome);refine#[Js,?_,zC q,?_];cases ks with
 |nil=>exact(nomatch hb)
 |cons x ks=>cases vs with|nil=>cases hv|cons y vs=>rfl
 rw[QAH (by rw[QG];omega),II];exact k
noncomputable def GG:PSp where
 run:=λx Q _=>∃(h:LB) (st:LS) (g:Str) (cut:LS),x=[.d (.list (h.map pr)),.d (.list (st.map Jx)),.d (.str g),.d (.list (cut.map Jx))]/\(h.9<=126/\st.9<=11)/\∀b,(b=Js↔¬ ∃a,(a,g)∈h/\Led h st g cut a)->Q (.d (.bool b)) []
section
variable{Ψ:PEv}{Z:PEnds}{es:LB}{st y:LS}{g:Str}
theorem Nk{q:PT}{o4 o5:Option Sl}(hl:es.9<=126)(k:pF Ψ q Z [bD (.list (es.map pr)),bD (.list (st.map Jx)),bD (.str g),bD (.list (y.map Jx)),bD (.list ((B0 es y).map pr)),o5]) :
  pF Ψ (.seq (.set 4 (.comp [] ["edge"] (.nm 0) .val %[.kw 0|1] (.cmp .NotIn (.idx (.kw 0) (.int 0)) (.kw 4)) (.kw 0))) q) Z [bD (.list (es.map pr)),bD (.list (st.map Jx)),bD (.str g),bD (.list (y.map Jx)),o4,o5]:=by
 simp![↓zA];rw[<- sB];refine FA (λ(p:Str×Str)=>T.d (pr p)) (λp=>T.d (pr p)) (λp=>!decide (p.1∈y)) es _ _ (λx u R z=>?_) (by rw[Qm];omega) ?_;let#[a,b]:=x;delta pr at z ⊢;simp![N7,DE,uD,VB,true_or];by_cases h:a∈y;rw[dT h]at z ⊢;exact z;rw[dF h]at z ⊢;exact z;rw[qD,sB pr];simp![↓zA];exact k
theorem Mk{q:PT}{o4 o5:Option Sl}(hl:st.9<=11)(k:pF Ψ q Z [bD (.list (es.map pr)),bD (.list (st.map Jx)),bD (.str g),bD (.list (y.map Jx)),o4,bD (.list ((sX st y).map Jx))]) :
  pF Ψ (.seq (.set 5 (.comp [] ["name"] (.nm 0) .val %[.kw 1|1] (.cmp .NotIn (.kw 0) (.kw 4)) (.kw 0))) q) Z [bD (.list (es.map pr)),bD (.list (st.map Jx)),bD (.str g),bD (.list (y.map Jx)),o4,o5]:=by
 simp![↓zA];rw[<- sB Jx st];refine FA (λ(p:Str)=>T.d (.str p)) (λp=>T.d (.str p)) (λp=>!decide (p∈y)) st _ _ (λx u R z=>?_) (by rw[Qm];omega) ?_;simp![DE,uD,VB,true_or];by_cases h:x∈y;rw[dT h]at z ⊢;exact z;rw[dF h]at z ⊢;exact z;rw[qD,sB Jx];simp![↓zA];exact k
end
theorem OY{Ψ:PEv}(w:Ψ.sp "rooms_of"=SE)(v:Ψ.sp "points_reached"=ND):MU Ψ YI GG ZI yH:=by rintro _ Q _ ⟨u,st,g,cut,rfl,⟨x,h⟩,q⟩;refine OA [bD (.list (u.map pr)),bD (.list (st.map Jx)),bD (.str g),bD (.list (cut.map Jx)),Jr,Jr] ?_;refine Nk x (Mk h ?_);simp![↓nA (md:=[]) w rfl rfl,↓nA (md:=[.ny]) v rfl rfl];refine#[(),?_];have z:(B0 u cut).9<=126:=Qc (Wx _ _) x;have y:(sX st cut).9<=11:=Qc (Wx _ _) h;refine#[_,_,_,rfl,#[z,y],?_];simp![↓yf];have ok:=HJ (g:=g) z y;refine#[_,_,rfl,#[(.inr rfl),ok.dom,ok.bg,ok.sz.1],λa k hc hk=>?_];simp![↓zA];refine ae (q:=tO g) hc.len hc.hb ?_;refine q _ ?_;rw[Qp,decide_eq_false_iff_not,hk,O4]
def sm:List Pt->(Pt->Int)->Int
 |[],_=>0|x::l,f=>f x+sm l f
section
variable{f g:Pt->Int}
theorem MA:∀{l:List Pt},(∀x∈l,f x=g x)->sm l f=sm l g
 |[],_=>rfl|x::l,h=>by show f x+sm l f=g x+sm l g;rw[h x QD,MA λy z=>h y (QC _ z)]
theorem hG:∀(l:List Pt),sm l (λx=>f x+g x)=sm l f+sm l g
 |[]=>rfl|x::l=>by show f x+g x+sm l _=f x+sm l f+(g x+sm l g);rw[hG l];omega
theorem FH:∀(l:List Pt),sm l (λx=>- f x)=- sm l f
 |[]=>rfl|x::l=>by show - f x+sm l _=- (f x+sm l f);rw[FH l];omega
theorem XF:∀(l:List Pt),sm l (λ_=>0)=0
 |[]=>rfl|x::l=>by show 0+sm l _=0;rw[XF l];rfl
theorem uL:∀{l:List Pt},(∀x∈l,0<=f x)->0<=sm l f
 |[],_=>QCt _|x::l,h=>by have v:=h x QD;have u:=uL (l:=l) λy z=>h y (QC _ z);show 0<=f x+sm l f;omega
theorem gG:∀{l:List Pt},(∀x∈l,0<=f x)->∀{y:Pt},y∈l->f y<=sm l f
 |x::l,h,y,z=>by have v:=h x QD;have h0:∀y∈l,0<=f y:=λy z=>h y (QC _ z);show f y<=f x+sm l f;rcases QK.mp z with e|e;have u:=uL h0;rw[e];omega;have u:=gG h0 e;omega
theorem eX:∀{l:List Pt},(∀x∈l,0<=f x)->∀{y z:Pt},y∈l->z∈l->y≠z->f y+f z<=sm l f
 |x::l,h,y,z,v,hz,ne=>by
  have k:=h x QD;have h0:∀y∈l,0<=f y:=λy v=>h y (QC _ v);show f y+f z<=f x+sm l f;rcases QK.mp v with e|e;rcases QK.mp hz with u|u
  ·exact gJ (e.trans u.symm) ne
  have w:=gG h0 u;rw[e];omega;rcases QK.mp hz with u|u
  ·have w:=gG h0 e
   rw[u];omega
  have w:=eX h0 e u ne;omega
theorem iX:∀{l:List Pt},0<sm l f->∃x∈l,0<f x
 |[],h=>gJ h (We 0)|x::l,h=>by by_cases c:0<f x;exact#[x,QD,c];have h:0<f x+sm l f:=h;let#[y,z,p]:=iX (l:=l) ();exact#[y,QC _ z,p]
theorem yT{k:Pt->Pt->Int}{m:List Pt}:∀(l:List Pt),sm l (λx=>sm m λy=>k x y)=sm m λy=>sm l λx=>k x y
 |[]=>(XF m).symm|x::l=>by show sm m (λy=>k x y)+sm l _=sm m λy=>k x y+sm l λx=>k x y;rw[yT l,hG]
theorem KM{u:Pt}{k:Int}:∀{l:List Pt},u∉l->sm l (λx=>if x=u then k else 0)=0
 |[],_=>rfl|x::l,h=>by show(if x=u then k else 0)+sm l _=0;rw[Gq (λ(e:x=u)=>h (e▸QD)),KM λz=>h (QC _ z)];rfl
theorem GH{u:Pt}{k:Int}:∀{l:List Pt},l.Nodup->u∈l->sm l (λx=>if x=u then k else 0)=k
 |x::l,nd,h=>by let#[v,y]:=Qa.mp nd;show(if x=u then k else 0)+sm l _=k;by_cases e:x=u;rw[Gw e,KM (by rw[<- e];exact v)];omega;rw[Gq e,GH y ((QK.mp h).resolve_left λz=>e z.symm)];omega
theorem ZO(p:Pt->Bool):∀(l:List Pt),sm l f=sm (l.filter p) f+sm (l.filter λx=>!p x) f
 |[]=>rfl|x::l=>by
  show f x+sm l f=_;rw[Wl,Wl,ZO p l];cases p x with|true=>show _=(f x+sm (l.filter p) f)+sm (l.filter λx=>!p x) f;omega|false=>show _=sm (l.filter p) f+(f x+sm (l.filter λx=>!p x) f);omega
theorem X4{a:Pt->Pt->Int}(l:List Pt)(h:∀x∈l,∀y∈l,a x y=- a y x):sm l (λx=>sm l λy=>a x y)=0:=by
 have w:sm l (λx=>sm l λy=>a x y)=sm l λy=>sm l λx=>a x y:=yT l;have v:(sm l λy=>sm l λx=>a x y)=- sm l (λy=>sm l λx=>a y x):=by rw[<- FH];refine MA λy z=>?_;rw[<- FH];exact MA λx u=>h x u y z
 omega
end
section
variable{p q u v:Pt}{r:Rm}{w:Wy}{es:LB}{st:LS}{g:Str}
def rm(r:Rm)(p q:Pt):Int:=(look (lk r p) q).getD 0
def ZG(r:Rm)(p q:Pt):Prop:=∃v,look (lk r p) q=Jp v
def S7(r:Rm):Prop:=∀p,((lk r p).map (·.1)).Nodup
theorem LF{α:Type}{q:Pt}{v:α}:∀{l:List (Pt×α)},look l q=Jp v->(q,v)∈l
 |[],h=>by cases h|e::l,h=>by by_cases c:e.1=q;rw[show look (e::l) q=Jp e.2 from Gw c]at h;injection h with h;rw[<- c,<- h];exact QD;rw[show look (e::l) q=look l q from Gq c]at h;exact QC _ (LF h)
theorem eN{α:Type}{q:Pt}{v:α}:∀{l:List (Pt×α)},(l.map (·.1)).Nodup->(q,v)∈l->look l q=Jp v
 |e::l,nd,h=>by let#[k,y]:=Qa.mp nd;rcases QK.mp h with c|c;rw[<- c];exact Gw rfl;have x:e.1≠q:=λz=>k (QY.mpr #[(q,v),c,z.symm]);rw[show look (e::l) q=look l q from Gq x];exact eN y c
theorem put_keys{α:Type}{p:Pt}{w:α}:∀{l:List (Pt×α)},(put l p w).map (·.1)=if p∈l.map (·.1) then l.map (·.1) else l.map (·.1)++[p]
 |[]=>rfl|e::l=>by by_cases c:e.1=p;rw[show put (e::l) p w=(e.1,w)::l from Gw c,Gw (by rw[<- c];exact QD)];rfl;rw[show put (e::l) p w=e::put l p w from Gq c];rw[QT,QT,put_keys];by_cases h:p∈l.map (·.1);rw[Gw h,Gw (QC _ h)];rw[Gq h,Gq (λz=>(QK.mp z).elim (λz=>c z.symm) h)];rfl
theorem BF{α:Type}{w:α}{l:List (Pt×α)}(h:(l.map (·.1)).Nodup):((put l p w).map (·.1)).Nodup:=by rw[put_keys];split;exact h;rename_i n;refine qT.mpr #[h,Qa.mpr #[λz=>(nomatch z),Qt],λa x b hb z=>?_];rw[QJ.mp hb]at z;exact n (z▸x)
theorem GQ(nd:S7 r):C3 r p q↔0<rm r p q:=by
 unfold C3 rm;constructor;rintro⟨v,m,h⟩;rw[eN (nd p) m];exact h;intro h;cases e:look (lk r p) q with|none=>rw[e]at h;exact gJ h (We 0)|some v=>rw[e]at h;exact#[v,LF e,h]
def oV(r:Rm)(u v:Pt):Rm:=put (put r u (put (lk r u) v (rm r u v - 1))) v (put (lk (put r u (put (lk r u) v (rm r u v - 1))) v) u (rm (put r u (put (lk r u) v (rm r u v - 1))) v u+1))
theorem GR(h:u≠v)(p:Pt):lk (oV r u v) p=if v=p then put (lk r v) u (rm r v u+1) else if u=p then put (lk r u) v (rm r u v - 1) else lk r p:=by
 have e:rm (put r u (put (lk r u) v (rm r u v - 1))) v u=rm r v u:=by unfold rm;rw[DD,Gq h]
 unfold oV;rw[e,DD,DD,DD,Gq h]
theorem zR(h:u≠v)(p q:Pt):rm (oV r u v) p q=rm r p q+(if p=v/\q=u then 1 else 0) - (if p=u/\q=v then 1 else 0):=by show(look (lk (oV r u v) p) q).getD 0=_;rw[GR h];by_cases y:v=p;rw[Gw y,xD,Gq (c:=p=u/\q=v) (λz=>h (z.1.symm.trans y.symm))];by_cases x:u=q;rw[Gw x,Gw #[y.symm,x.symm],<- y,<- x];show rm r v u+1=rm r v u+1 - 0;omega;rw[Gq x,Gq (λz=>x z.2.symm),y];show rm r p q=rm r p q+0 - 0;omega;rw[Gq y,Gq (c:=p=v/\q=u) (λz=>y z.1.symm)];by_cases x:u=p;rw[Gw x,xD];by_cases k:v=q;rw[Gw k,Gw #[x.symm,k.symm],<- x,<- k];show rm r u v - 1=rm r u v+0 - 1;omega;rw[Gq k,Gq (λz=>k z.2.symm),x];show rm r p q=rm r p q+0 - 0;omega;rw[Gq x,Gq (λz=>x z.1.symm)];show rm r p q=rm r p q+0 - 0;omega
theorem xB:ZG r p q↔HW r p q:=by
 unfold ZG HW;constructor;rintro⟨v,h⟩;exact#[v,LF h];rintro⟨v,h⟩;generalize lk r p=l at h;induction l with
 |nil=>exact(nomatch h)
 |cons e l x =>
  by_cases c:e.1=q;exact#[e.2,Gw c];rcases QK.mp h with z|z
  ·exact gJ (by rw[<- z]) c
  let#[w,y]:=x z;exact#[w,(show look (e::l) q=look l q from Gq c).trans y]
theorem P7(h:u≠v)(a:ZG r u v)(k:ZG r v u):ZG (oV r u v) p q↔ZG r p q:=by unfold ZG;rw[GR h];by_cases y:v=p;rw[Gw y,xD];by_cases x:u=q;rw[Gw x,<- y,<- x];exact#[λ_=>k,λ_=>#[_,rfl]];rw[Gq x,y];rw[Gq y];by_cases x:u=p;rw[Gw x,xD];by_cases z:v=q;rw[Gw z,<- x,<- z];exact#[λ_=>a,λ_=>#[_,rfl]];rw[Gq z,x];rw[Gq x]
theorem g6(h:u≠v)(nd:S7 r):S7 (oV r u v):=by
 intro p;rw[GR h];split;exact BF (nd v);split
 ·exact BF (nd u)
 exact nd p
theorem CM(h:¬ ZG r p q):rm r p q=0:=by
 unfold rm;cases e:look (lk r p) q with|none=>rfl|some v=>exact gJ #[v,e] h
def gj(p q:Pt)(v:Int):Prop:=(∃n,p=tO n/\q=fR n/\v=1)∨(∃n,p=sA/\q=tO n/\v=2)∨(∃a b,a≠b/\p=fR a/\q=tO b/\v=2)∨(¬ FW p q/\v=0)
def uf(P:Pt->Pt->Int->Prop)(r:Rm):Prop:=∀p,∀e∈lk r p,P p e.1 e.2
theorem pW{P:Pt->Pt->Int->Prop}(a:w.1≠w.2.1)(f:P w.1 w.2.1 w.2.2)(b:P w.2.1 w.1 0)(h:uf P r):uf P (oB r w):=by intro p e x;rw[gH a]at x;by_cases k:w.2.1=p;rw[Gw k]at x;rcases EG x with z|z;rw[z,<- k];exact b;exact h p e z;rw[Gq k]at x;by_cases y:w.1=p;rw[Gw y]at x;rcases EG x with z|z;rw[z,<- y];exact f;exact h p e z;rw[Gq y]at x;exact h p e x
theorem BO(h:(r.map (·.1)).Nodup):((sdf r p).map (·.1)).Nodup:=by
 unfold sdf;cases e:look r p with|some v=>exact h|none=>show(List.map (λe:Pt×Inn=>e.1) (r++[(p,[])])).Nodup;rw[Qk];refine qT.mpr #[h,Qa.mpr #[λz=>(nomatch z),Qt],λa y b hb z=>?_];have hb:b=p:=QJ.mp hb;rw[z,hb]at y;let#[x,k,f]:=QY.mp y;have:=eN h (show(p,x.2)∈r by rw[<- f];exact k);rw[e]at this;cases this
theorem dZ(x:w.1≠w.2.1)(h:S7 r):S7 (oB r w):=by
 intro p;rw[gH x];split;exact BF (h p);split
 ·exact BF (h p)
 exact h p
theorem SA:Key r p↔p∈r.map (·.1):=by
 constructor;rintro⟨l,e⟩;exact mN e;intro h;induction r with
 |nil=>exact(nomatch h)
 |cons e r x =>
  by_cases c:e.1=p;exact#[e.2,Gw c];rcases QK.mp h with z|z
  ·exact gJ z.symm c
  let#[l,hl]:=x z;exact#[l,(show look (e::r) p=look r p from Gq c).trans hl]
structure Tbl0(r:Rm):Prop where
 ndk:(r.map (·.1)).Nodup
 ndi:S7 r
 cap:uf gj r
 kind:∀p,Key r p->p=sA∨∃n,p=tO n∨p=fR n
 sym:∀p q,HW r p q->HW r q p/\Key r p
theorem JP(h:FW p q):(p=sA∨∃n,p=tO n∨p=fR n)/\(q=sA∨∃n,q=tO n∨q=fR n):=by
 rcases h with⟨h,n,e⟩| ⟨n,h,e⟩| ⟨a,b,_,h,e⟩
 exact#[.inl h,.inr #[n,.inl e]];exact#[.inr #[n,.inl h],.inr #[n,.inr e]];exact#[.inr #[a,.inr h],.inr #[b,.inl e]]
theorem t4(k:FW w.1 w.2.1)(f:gj w.1 w.2.1 w.2.2)(t:Tbl0 r):Tbl0 (oB r w):=by
 have y:=gF k;refine#[?_,dZ y t.ndi,pW y f (.inr (.inr (.inr #[aD k,rfl]))) t.cap,λp h=>?_,λp q h=>?_];unfold oB;exact BF (BF (BO (BO t.ndk)));rcases nF.mp h with z|z|z
 ·rw[z];exact(JP k).1
 rw[z];exact(JP k).2;exact t.kind p z;rw[rH y,nF];rcases(rH y).mp h with z|⟨x,a⟩| ⟨x,a⟩
 let#[e,b]:=t.sym p q z;exact#[.inl e,.inr (.inr b)];exact#[.inr (.inr #[a,x]),.inl x];exact#[.inr (.inl #[a,x]),.inr (.inl x)]
theorem OS:∀{ws:List Wy}{r:Rm},(∀w∈ws,FW w.1 w.2.1/\gj w.1 w.2.1 w.2.2)->Tbl0 r->Tbl0 (ws.foldl oB r)
 |[],_,_,t=>t|w::ws,r,h,t=>OS (ws:=ws) (λw x=>h w (QC _ x)) (t4 (h w QD).1 (h w QD).2 t)
theorem SI{p:Pt}:∀{ws:List Wy}{r:Rm},Key (ws.foldl oB r) p↔Key r p∨∃w∈ws,p=w.1∨p=w.2.1
 |[],r=>#[.inl,λz=>z.elim id λ#[_,m,_]=>(nomatch m)]
 |w::ws,r=>by
  rw[wg,SI (ws:=ws),nF];constructor;rintro((z|z|z)|⟨x,m,z⟩)
  ·exact .inr #[w,QD,.inl z]
  exact .inr #[w,QD,.inr z];exact .inl z;exact .inr #[x,QC _ m,z];rintro(z|⟨x,m,z⟩)
  ·exact .inl (.inr (.inr z))
  rcases QK.mp m with rfl|m
  ·rcases z with z|z
   ·exact .inl (.inl z)
   exact .inl (.inr (.inl z))
  exact .inr #[x,m,z]
def MW(es:LB)(st:LS)(g:Str):List Wy:=st.flatMap (BK g)++es.flatMap (cM g)
theorem PD:jA es st g=(MW es st g).foldl oB EE:=by unfold jA MW;rw[QAo]
theorem FD{v:Int}:(p,q,v)∈MW es st g↔(∃n∈st,n≠g/\((p,q,v)=(tO n,fR n,1)∨(p,q,v)=(sA,tO n,2)))∨(∃e∈es,(e.1≠g/\e.1≠e.2)/\((p,q,v)=(tO e.1,fR e.1,1)∨(p,q,v)=(tO e.2,fR e.2,1)∨(p,q,v)=(fR e.1,tO e.2,2))):=by
 unfold MW;rw[QW,qm,qm];constructor;rintro(⟨n,m,h⟩| ⟨e,m,h⟩)
 ·exact .inl #[n,m,RZ.mp h]
 exact .inr #[e,m,bW.mp h];rintro(⟨n,m,h⟩| ⟨e,m,h⟩)
 ·exact .inl #[n,m,RZ.mpr h]
 exact .inr #[e,m,bW.mpr h]
theorem OB:∀w∈MW es st g,FW w.1 w.2.1/\gj w.1 w.2.1 w.2.2:=by
 rintro⟨p,q,v⟩ h;rcases FD.mp h with⟨n,_,_,e|e⟩| ⟨e,_,⟨_,x⟩,z|z|z⟩
 cases e;exact#[.inr (.inl #[n,rfl,rfl]),.inl #[n,rfl,rfl,rfl]];cases e;exact#[.inl #[rfl,n,rfl],.inr (.inl #[n,rfl,rfl,rfl])];cases z;exact#[.inr (.inl #[_,rfl,rfl]),.inl #[_,rfl,rfl,rfl]];cases z;exact#[.inr (.inl #[_,rfl,rfl]),.inl #[_,rfl,rfl,rfl]];cases z;exact#[.inr (.inr #[_,_,x,rfl,rfl]),.inr (.inr (.inl #[_,_,x,rfl,rfl,rfl]))]
theorem fH(p:Pt):lk EE p=[]:=by show(if sA=p then Jp [] else Jr).getD []=[];split<;>rfl
theorem Tf:Tbl0 EE:=by refine#[Qa.mpr #[λz=>(nomatch z),Qt],λp=>?_,λp e x=>?_,λp h=>?_,λp q h=>?_];rw[fH];exact Qt;rw[fH]at x;exact(nomatch x);exact .inl (QJ.mp (SA.mp h));let#[v,h]:=h;rw[fH]at h;exact(nomatch h)
end
section
variable{es:LB}{st:LS}{g:Str}
section
variable{p q:Pt}{n:Str}
theorem RC:Tbl0 (jA es st g):=by rw[PD];exact OS OB Tf
theorem z0:∀w∈MW es st g,GE w:=λw h=>by unfold MW at h;rcases QW.mp h with z|z;exact TC (f:=BK g) (λ_=>VG) st w z;exact TC (f:=cM g) (λ_=>XG) es w z
theorem AB:HW (jA es st g) p q↔(∃v,(p,q,v)∈MW es st g)∨∃v,(q,p,v)∈MW es st g:=by
 rw[PD,VN z0];constructor;rintro(⟨v,h⟩| h)
 ·rw[fH]at h;exact(nomatch h)
 exact h;exact .inr
theorem JL(h:Key (jA es st g) (tO n)):HW (jA es st g) (tO n) (fR n):=by
 rw[PD]at h;rcases SI.mp h with z|⟨⟨p,q,v⟩,m,z⟩
 exact gJ (QJ.mp (SA.mp z)).symm UB;refine AB.mpr (.inl #[1,FD.mpr ?_]);have z:tO n=p∨tO n=q:=z;rcases FD.mp m with⟨k,mk,x,e|e⟩| ⟨e,u,x,y|y|y⟩
 cases e;rcases z with z|z;rw[cB z];exact .inl #[k,mk,x,.inl rfl];exact gJ z iA;cases e;rcases z with z|z;exact gJ z.symm UB;rw[cB z];exact .inl #[k,mk,x,.inl rfl];cases y;rcases z with z|z;rw[cB z];exact .inr #[e,u,x,.inl rfl];exact gJ z iA;cases y;rcases z with z|z;rw[cB z];exact .inr #[e,u,x,.inr (.inl rfl)];exact gJ z iA;cases y;rcases z with z|z;exact gJ z iA;rw[cB z];exact .inr #[e,u,x,.inr (.inl rfl)]
theorem JW:gj p q (rm (jA es st g) p q)∨(¬ ZG (jA es st g) p q/\rm (jA es st g) p q=0):=by by_cases h:ZG (jA es st g) p q;let#[v,e]:=h;have:=RC (es:=es) (st:=st) (g:=g) |>.cap p (q,v) (LF e);unfold rm;rw[e];exact .inl this;exact .inr #[h,CM h]
theorem Kl:0<=rm (jA es st g) p q:=by rcases JW (es:=es) (st:=st) (g:=g) (p:=p) (q:=q) with(⟨_,_,_,e⟩| ⟨_,_,_,e⟩| ⟨_,_,_,_,_,e⟩| ⟨_,e⟩)|⟨_,e⟩<;>rw[e]<;>decide
theorem iH(h:¬ FW p q):rm (jA es st g) p q=0:=by
 rcases JW (es:=es) (st:=st) (g:=g) (p:=p) (q:=q) with(⟨n,y,x,_⟩| ⟨n,y,x,_⟩| ⟨a,b,z,y,x,_⟩| ⟨_,e⟩)|⟨_,e⟩
 exact gJ (.inr (.inl #[n,y,x])) h;exact gJ (.inl #[y,n,x]) h;exact gJ (.inr (.inr #[a,b,z,y,x])) h;exact e;exact e
theorem fe(h:q≠fR n):rm (jA es st g) (tO n) q=0:=iH λl=>by
 rcases l with⟨e,_⟩| ⟨m,y,x⟩| ⟨a,b,_,e,_⟩
 exact UB e.symm;exact h (by rw[x,cB y]);exact iA e
theorem ki:rm (jA es st g) (tO n) (fR n)<=1:=by
 rcases JW (es:=es) (st:=st) (g:=g) (p:=tO n) (q:=fR n) with(⟨_,_,_,e⟩| ⟨m,h,_,_⟩| ⟨a,b,x,h,y,_⟩| ⟨_,e⟩)|⟨_,e⟩
 rw[e];decide;exact gJ h.symm UB;exact gJ h iA;rw[e];decide;rw[e];decide
theorem re(h:Key (jA es st g) (tO n)):rm (jA es st g) (tO n) (fR n)=1:=by
 have a:=xB.mpr (JL h);rcases JW (es:=es) (st:=st) (g:=g) (p:=tO n) (q:=fR n) with(⟨_,_,_,e⟩| ⟨m,x,_,_⟩| ⟨a,b,y,x,u,_⟩| ⟨l,e⟩)|⟨z,e⟩
 exact e;exact gJ x.symm UB;exact gJ x iA;exact gJ (.inr (.inl #[n,rfl,rfl])) l;exact gJ a z
theorem Vl(h:p≠tO n):rm (jA es st g) p (fR n)=0:=iH λl=>by
 rcases l with⟨_,m,e⟩| ⟨m,y,x⟩| ⟨a,b,_,_,e⟩
 exact iA e.symm;exact h (by rw[y,GD x]);exact iA e.symm
theorem Xl:rm (jA es st g) p sA=0:=iH λl=>by
 rcases l with⟨_,m,e⟩| ⟨m,x,h⟩| ⟨a,b,_,_,e⟩
 exact UB e;exact JD h;exact UB e
theorem zi(h:p≠fR n):rm (jA es st g) p (tO n)=0∨rm (jA es st g) p (tO n)=2:=by
 rcases JW (es:=es) (st:=st) (g:=g) (p:=p) (q:=tO n) with(⟨_,_,e,_⟩| ⟨m,_,_,e⟩| ⟨a,b,_,_,_,e⟩| ⟨l,e⟩)|⟨_,e⟩
 exact gJ e iA;exact .inr e;exact .inr e;exact .inl e;exact .inl e
theorem de{v:Int}(h:(p,tO n,v)∈MW es st g):rm (jA es st g) p (tO n)=2:=by
 have a:ZG (jA es st g) p (tO n):=xB.mpr (AB.mpr (.inl #[v,h]));have l:FW p (tO n):=(OB _ h).1;rcases JW (es:=es) (st:=st) (g:=g) (p:=p) (q:=tO n) with(⟨_,_,e,_⟩| ⟨m,_,_,e⟩| ⟨a,b,_,_,_,e⟩| ⟨x,e⟩)|⟨z,e⟩
 exact gJ e iA;exact e;exact e;exact gJ l x;exact gJ a z
end
end
section
variable{es:LB}{st:LS}{g:Str}
def ME(es:LB)(st:LS)(g:Str):List Pt:=(jA es st g).map (·.1)
def fl(es:LB)(st:LS)(g:Str)(r:Rm)(p q:Pt):Int:=rm (jA es st g) p q - rm r p q
def out(es:LB)(st:LS)(g:Str)(r:Rm)(p:Pt):Int:=sm (ME es st g) (fl es st g r p)
structure Base(es:LB)(st:LS)(g:Str)(r:Rm):Prop where
 ndi:S7 r
 adj:∀p q,ZG r p q↔ZG (jA es st g) p q
 keys:r.map (·.1)=ME es st g
 nn:∀p q,0<=rm r p q
 anti:∀p q,fl es st g r p q=- fl es st g r q p
structure Flow(es:LB)(st:LS)(g:Str)(r:Rm):Prop extends Base es st g r where
 cons:∀x,x≠sA->x≠tO g->out es st g r x=0
theorem OE:(ME es st g).Nodup:=RC.ndk
theorem S8:Flow es st g (jA es st g):=by
 have e:∀p q,fl es st g (jA es st g) p q=0:=λp q=>by unfold fl;omega
 refine#[#[RC.ndi,λp q=>QAb,rfl,λp q=>Kl,λp q=>by rw[e,e];rfl],λx _ _=>?_];unfold out;rw[MA (g:=λ_=>0) λq _=>e x q];exact XF _
theorem eB{p q:Pt}(h:ZG (jA es st g) p q):ZG (jA es st g) q p:=xB.mpr (RC.sym p q (xB.mp h)).1
theorem vB{p q:Pt}(h:ZG (jA es st g) p q):p∈ME es st g:=SA.mp (RC.sym p q (xB.mp h)).2
theorem vO{p q:Pt}(h:ZG (jA es st g) p q):p≠q:=by
 rcases AB.mp (xB.mp h) with⟨v,m⟩| ⟨v,m⟩
 exact gF (OB _ m).1;exact(gF (OB _ m).1).symm
section
variable{r:Rm}
theorem Base.dom(b:Base es st g r):N3 r:=λp q h=>by have a:=(b.adj p q).mp (xB.mpr h);rw[SA,b.keys];exact vB (eB a)
theorem Base.bg(b:Base es st g r):Key r sA:=by rw[SA,b.keys];refine SA.mp ?_;show Key (jA es st g) sA;rw[PD];exact SI.mpr (.inl #[[],Gw rfl])
theorem Base.len(b:Base es st g r):r.9=(jA es st g).length:=by have:=gV wm b.keys;unfold ME at this;rw[QG,QG]at this;exact this
theorem Base.adjw(b:Base es st g r){p q:Pt}(h:0<rm r p q):ZG (jA es st g) p q:=(b.adj p q).mp (by
 unfold rm at h;cases e:look (lk r p) q with|none=>rw[e]at h;exact gJ h (We 0)|some v=>exact#[v,e])
theorem dN{u:Pt}{l:Inn}(h:u∈r.map (·.1)):(put r u l).map (·.1)=r.map (·.1):=by rw[put_keys,Gw h]
theorem Base.pushed(b:Base es st g r){u v:Pt}(h:0<rm r u v):Base es st g (oV r u v):=by
 have a:=b.adjw h;have y:=vO a;have e:=zR (r:=r) y;refine#[g6 y b.ndi,λp q=>?_,?_,λp q=>?_,λp q=>?_];rw[P7 y ((b.adj u v).mpr a) ((b.adj v u).mpr (eB a))];exact b.adj p q;have k:u∈r.map (·.1):=by rw[b.keys];exact vB a
 have f:v∈r.map (·.1):=by rw[b.keys];exact vB (eB a)
 unfold oV;rw[dN (by rw[dN k];exact f),dN k];exact b.keys;rw[e];have:=b.nn p q;by_cases c:p=u/\q=v;rw[Gw c,c.1,c.2];split<;>omega;rw[Gq c];split<;>omega;unfold fl;rw[e,e];have:=b.anti p q;unfold fl at this;by_cases x:p=v/\q=u;rw[Gw x,Gw (c:=q=u/\p=v) #[x.2,x.1],Gq (c:=p=u/\q=v) (λz=>y (z.1.symm.trans x.1)),Gq (c:=q=v/\p=u) (λz=>y (z.2.symm.trans x.1))];omega;rw[Gq x,Gq (c:=q=u/\p=v) (λz=>x #[z.2,z.1])];by_cases w:p=u/\q=v;rw[Gw w,Gw (c:=q=v/\p=u) #[w.2,w.1]];omega;rw[Gq w,Gq (c:=q=v/\p=u) (λz=>w #[z.2,z.1])];omega
theorem FT(b:Base es st g r){u v:Pt}(h:0<rm r u v)(x:Pt):out es st g (oV r u v) x=out es st g r x+(if x=u then 1 else 0) - (if x=v then 1 else 0):=by
 have a:=b.adjw h;have f:=vO a;unfold out;have e:∀q,fl es st g (oV r u v) x q=fl es st g r x q+((if q=v then(if x=u then 1 else 0) else 0)+-(if q=u then(if x=v then 1 else 0) else 0)):=λq=>by unfold fl;rw[zR f];by_cases k:x=u;have w:x≠v:=λz=>f (k.symm.trans z);rw[Gq (c:=x=v/\q=u) (λz=>w z.1),Gw k,Gq w];by_cases y:q=v;rw[Gw (c:=x=u/\q=v) #[k,y],Gw y];split<;>omega;rw[Gq (c:=x=u/\q=v) (λz=>y z.2),Gq y];split<;>omega;rw[Gq (c:=x=u/\q=v) (λz=>k z.1),Gq k];by_cases w:x=v;rw[Gw w];by_cases y:q=u;rw[Gw (c:=x=v/\q=u) #[w,y],Gw y];split<;>omega;rw[Gq (c:=x=v/\q=u) (λz=>y z.2),Gq y];split<;>omega;rw[Gq (c:=x=v/\q=u) (λz=>w z.1),Gq w];split<;>split<;>omega
 rw[MA λq _=>e q,hG,hG,FH,GH OE (vB (eB a)),GH OE (vB a)];omega
end
section
variable{r y:Rm}{ks:List Pt}
theorem CF.find{vs:List D}(h:CF r ks vs){q:Pt}(m:q∈ks)(b:q≠sA):∃z u p k v,CF r z u/\p∈z/\C3 r p q/\q∉z/\ks=z++q::k/\vs=u++pr p::v:=by
 induction h with|bg=>exact gJ (QJ.mp m) b|@add ks vs p x c i w n f=>by_cases e:q∈ks;let#[z,u,a,k,v,Z,Y,X,s,o,l]:=f e;exact#[z,u,a,k++[x],v++[pr p],Z,Y,X,s,by rw[o,qd];rfl,by rw[l,qd];rfl];have j:q=x:=QJ.mp ((QW.mp m).resolve_left e);subst j;exact#[ks,vs,p,[],[],c,i,w,n,rfl,rfl]
structure LC(es:LB)(st:LS)(g:Str)(y r:Rm)(here:Pt)(ks:List Pt):Prop extends Base es st g r where
 cons:∀x,x≠sA->x≠tO g->out es st g r x=if x=here then 1 else 0
 val:out es st g r sA=out es st g y sA+if here=sA then 1 else 0
 fresh:∀p,∀q∈ks,rm y p q<=rm r p q
theorem YZ(f:Flow es st g y)(ks:List Pt):LC es st g y y (tO g) ks:=by refine#[f.toBase,λx u h=>?_,?_,λp q _=>QCt _];rw[Gq h];exact f.cons x u h;rw[Gq (λz=>UB z.symm)];omega
theorem C6{h p:Pt}{u:List Pt}(nd:S7 y)(l:LC es st g y r h ks)(e:h∈ks)(hb:h≠sA)(w:C3 y p h)(b:h∉u)(hs:∀q∈u,q∈ks):0<rm r p h/\LC es st g y (oV r p h) p u:=by have h0:0<rm r p h:=Int.lt_of_lt_of_le ((GQ nd).mp w) (l.fresh p h e);have a:=vO (l.adjw h0);refine#[h0,l.toBase.pushed h0,λx k f=>?_,?_,λx q v=>?_];rw[FT l.toBase h0,l.cons x k f];split<;>split<;>omega;rw[FT l.toBase h0,l.val,Gq hb,Gq (c:=sA=h) (λz=>hb z.symm)];by_cases c:p=sA;rw[Gw c,Gw c.symm];omega;rw[Gq c,Gq (λz=>c z.symm)];omega;have k:=l.fresh x q (hs q v);rw[zR a,Gq (c:=x=p/\q=h) (λz=>b (z.2▸v))];split<;>omega
theorem Ec(l:LC es st g y r sA ks):Flow es st g r/\out es st g r sA=out es st g y sA+1:=by refine#[#[l.toBase,λx h z=>?_],?_];rw[l.cons x h z,Gq h];rw[l.val,Gw rfl]
end
end
section
variable{es:LB}{st:LS}{g:Str}{r:Rm}
section
variable{p q y:Pt}{n a:Str}{ks:List Pt}
theorem EI(b:Base es st g r)(h:rm (jA es st g) q p=0):fl es st g r p q=rm r q p:=by have:=b.anti p q;unfold fl at this ⊢;omega
def SQ(r:Rm)(n:Str):Int:=rm r (fR n) (tO n)
theorem RQ(b:Base es st g r)(n:Str):fl es st g r (tO n) (fR n)=SQ r n:=EI b (iH λl=>aD (.inr (.inl #[n,rfl,rfl])) l)
theorem lJ(b:Base es st g r)(n:Str):SQ r n<=1:=by rw[<- RQ b];have x:=ki (es:=es) (st:=st) (g:=g) (n:=n);have h:=b.nn (tO n) (fR n);unfold fl;omega
theorem RX(b:Base es st g r)(h:p∉ME es st g∨q∉ME es st g):rm r p q=0:=by refine CM λa=>?_;have a:=(b.adj p q).mp a;rcases h with h|h;exact h (vB a);exact h (vB (eB a))
theorem x8(l:List Pt)(nd:l.Nodup)(u:Pt)(k:Int)(h:u∉l->k=0):sm l (λx=>if x=u then k else 0)=k:=by by_cases m:u∈l;exact GH nd m;rw[KM m,h m]
def inn(r:Rm)(n:Str)(y:Pt):Int:=if y=fR n then 0 else rm r (tO n) y
theorem aN(f:Flow es st g r)(h:n≠g):sm (ME es st g) (inn r n)=SQ r n:=by
 have c:=f.cons (tO n) (λz=>UB z.symm) (λz=>h (cB z));unfold out at c;have e:∀y,fl es st g r (tO n) y=(if y=fR n then SQ r n else 0)+- inn r n y:=λy=>by unfold inn;by_cases e:y=fR n;rw[Gw e,Gw e,e,RQ f.toBase];omega;rw[Gq e,Gq e];unfold fl;rw[fe e];omega
 rw[MA λy _=>e y,hG,FH,x8 _ OE (fR n) (SQ r n) (λz=>RX f.toBase (.inl z))]at c;omega
theorem tN(b:Base es st g r)(n:Str)(y:Pt):0<=inn r n y:=by unfold inn;split;decide;exact b.nn _ _
def D5(r:Rm)(n:Str)(y:Pt):Int:=if y=tO n then 0 else rm r y (fR n)
theorem DT(f:Flow es st g r)(n:Str):sm (ME es st g) (D5 r n)=SQ r n:=by
 have c:=f.cons (fR n) (λz=>JD z.symm) (λz=>iA z.symm);unfold out at c;have e:∀y,fl es st g r (fR n) y=- (if y=tO n then SQ r n else 0)+D5 r n y:=λy=>by unfold D5;by_cases e:y=tO n;rw[Gw e,Gw e,e];have:=f.anti (fR n) (tO n);rw[RQ f.toBase]at this;omega;rw[Gq e,Gq e,EI f.toBase (Vl e)];omega
 rw[MA λy _=>e y,hG,FH,x8 _ OE (tO n) (SQ r n) (λz=>RX f.toBase (.inr z))]at c;omega
theorem uc(b:Base es st g r)(n:Str)(y:Pt):0<=D5 r n y:=by unfold D5;split;decide;exact b.nn _ _
def BQ(r:Rm)(n:Str):Prop:=0<rm r (tO n) sA
def M3(r:Rm)(a b:Str):Prop:=a≠b/\0<rm r (tO b) (fR a)
theorem TH(b:Base es st g r)(h:BQ r n):n∈st/\n≠g:=by
 rcases AB.mp (xB.mp (b.adjw h)) with⟨v,m⟩| ⟨v,m⟩
 exact gJ (OB _ m).1 λl=>by
  rcases l with⟨e,_⟩| ⟨_,_,e⟩| ⟨_,_,_,e,_⟩
  exact UB e.symm;exact JD e;exact iA e
 rcases FD.mp m with⟨k,mk,x,e|e⟩| ⟨e,_,_,y|y|y⟩
 ·exact gJ (gV we e) UB
 have:=gV (λw:Wy=>w.2.1) e;rw[cB this];exact#[mk,x];exact gJ (gV we y) UB;exact gJ (gV we y) UB;exact gJ (gV we y) JD
theorem Fc(b:Base es st g r){c:Str}(h:M3 r a c):(a,c)∈es/\a≠g:=by
 rcases AB.mp (xB.mp (b.adjw h.2)) with⟨v,m⟩| ⟨v,m⟩
 exact gJ (OB _ m).1 λl=>by
  rcases l with⟨e,_⟩| ⟨k,z,x⟩| ⟨_,_,_,e,_⟩
  exact UB e.symm;exact h.1 ((GD x).trans (cB z).symm);exact iA e
 rcases FD.mp m with⟨k,mk,u,e|e⟩| ⟨e,f,u,y|y|y⟩
 ·exact gJ (gV we e).symm iA
 exact gJ (gV we e).symm JD;exact gJ (gV we y).symm iA;exact gJ (gV we y).symm iA;have z:a=e.1:=GD (gV we y);have x:c=e.2:=cB (gV (λw:Wy=>w.2.1) y);rw[z,x];exact#[f,u.1]
theorem PR:inn r n sA=rm r (tO n) sA:=by unfold inn;exact Gq JD
theorem TM(h:a≠n):inn r n (fR a)=rm r (tO n) (fR a):=by unfold inn;exact Gq λz=>h (GD z)
theorem v6(h:a≠n):D5 r a (tO n)=rm r (tO n) (fR a):=by unfold D5;exact Gq λz=>h (cB z).symm
theorem xH(b:Base es st g r)(h:0<rm r p q):p∈ME es st g/\q∈ME es st g:=#[vB (b.adjw h),vB (eB (b.adjw h))]
theorem sU(f:Flow es st g r)(n:Str)(h:n≠g):rm r (tO n) sA<=1:=by by_cases c:0<rm r (tO n) sA;have z:=gG (λx _=>tN f.toBase n x) (xH f.toBase c).2;rw[aN f h,PR]at z;exact Int.le_trans z (lJ f.toBase n);omega
theorem z7(f:Flow es st g r)(h:BQ r n):SQ r n=1:=by have ng:=(TH f.toBase h).2;have z:=gG (λx _=>tN f.toBase n x) (xH f.toBase h).2;rw[aN f ng,PR]at z;have:=lJ f.toBase n;unfold BQ at h;omega
theorem k6(f:Flow es st g r)(h:M3 r a n)(ng:n≠g):SQ r n=1:=by have z:=gG (λx _=>tN f.toBase n x) (xH f.toBase h.2).2;rw[aN f ng,TM h.1]at z;have:=lJ f.toBase n;have:=h.2;omega
theorem bX(f:Flow es st g r)(ng:n≠g){x:Pt}(u:0<inn r n x)(h:0<inn r n y):x=y:=by
 have w:x∈ME es st g:=by unfold inn at u;split at u;exact gJ u (We 0);exact(xH f.toBase u).2
 have v:y∈ME es st g:=by unfold inn at h;split at h;exact gJ h (We 0);exact(xH f.toBase h).2
 by_cases e:x=y;exact e;have k:=eX (λz _=>tN f.toBase n z) w v e;rw[aN f ng]at k;have:=lJ f.toBase n;omega
theorem AT(f:Flow es st g r){b:Str}(ng:n≠g)(x:M3 r a n)(h:M3 r b n):a=b :=
 GD (bX f ng (by rw[TM x.1];exact x.2) (by rw[TM h.1];exact h.2))
theorem YN(f:Flow es st g r)(x:BQ r n)(h:M3 r a n):False :=
 JD (bX f (TH f.toBase x).2 (by rw[PR];exact x) (by rw[TM h.1];exact h.2))
theorem SY(f:Flow es st g r)(h:SQ r n=1):∃y,y≠tO n/\0<rm r y (fR n):=by let#[y,_,x]:=iX (f:=D5 r n) (l:=ME es st g) (by rw[DT f,h];decide);unfold D5 at x;split at x;exact gJ x (We 0);rename_i ne;exact#[y,ne,x]
theorem U8(b:Base es st g r)(h:ZG r y (fR n)):∃m,y=tO m:=by
 rcases AB.mp (xB.mp ((b.adj _ _).mp h)) with⟨v,m⟩| ⟨v,m⟩
 rcases(OB _ m).1 with⟨_,k,e⟩| ⟨k,e,_⟩| ⟨_,k,_,_,e⟩
 ·exact gJ e.symm iA
 exact#[k,e];exact gJ e.symm iA;rcases(OB _ m).1 with⟨e,_⟩| ⟨k,e,_⟩| ⟨_,k,_,_,e⟩
 ·exact gJ e.symm JD
 exact gJ e.symm iA;exact#[k,e]
theorem fZ(b:Base es st g r)(h:ZG r y sA):∃m,y=tO m:=by
 rcases AB.mp (xB.mp ((b.adj _ _).mp h)) with⟨v,m⟩| ⟨v,m⟩
 rcases(OB _ m).1 with⟨_,k,e⟩| ⟨k,_,e⟩| ⟨_,k,_,_,e⟩
 ·exact gJ e UB
 exact gJ e JD;exact gJ e UB;rcases(OB _ m).1 with⟨_,k,e⟩| ⟨k,e,_⟩| ⟨_,k,_,e,_⟩
 ·exact#[k,e]
 exact gJ e UB;exact gJ e JD
theorem Dc(f:Flow es st g r)(h:SQ r n=1):∃m,M3 r n m:=by let#[y,z,x]:=SY f h;let#[m,rfl]:=U8 f.toBase ((f.adj _ _).mpr (f.toBase.adjw x));exact#[m,λe=>z (by rw[e]),x]
theorem jL(f:Flow es st g r){v:Int}(m:(p,tO n,v)∈MW es st g):0<rm r p (tO n):=by
 have c:=de m;have l:=(OB _ m).1;have h:fl es st g r p (tO n)=rm r (tO n) p:=EI f.toBase (iH (aD l));unfold fl at h;rw[c]at h;have o:rm r (tO n) p<=1:=by
  rcases FD.mp m with⟨k,mk,z,e|e⟩| ⟨e,s,z,y|y|y⟩
  exact gJ (gV (λw:Wy=>w.2.1) e) iA;have b:p=sA:=gV we e;have u:n=k:=cB (gV (λw:Wy=>w.2.1) e);rw[b];exact sU f n (by rw[u];exact z);exact gJ (gV (λw:Wy=>w.2.1) y) iA;exact gJ (gV (λw:Wy=>w.2.1) y) iA;have b:p=fR e.1:=gV we y;have u:n=e.2:=cB (gV (λw:Wy=>w.2.1) y);rw[b];by_cases c:0<rm r (tO n) (fR e.1);have j:e.1≠n:=by rw[u];exact z.2
  have i:=gG (λx _=>uc f.toBase e.1 x) (xH f.toBase c).1;rw[DT f,v6 j]at i;exact Int.le_trans i (lJ f.toBase _);omega
 omega
theorem CO{l m:List Pt}(v:l.Nodup)(u:m.Nodup)(h:∀x,x∈l↔x∈m):l.9=m.length:=by have a:=HF v λx z=>(h x).mp z;have b:=HF u λx z=>(h x).mpr z;omega
noncomputable def AF(ks:List Pt)(x:Pt):Bool:=decide (x.2="to")&&!decide (fR x.1∈ks)
theorem iD{x:Pt}:AF ks x=Js↔∃n,x=tO n/\fR n∉ks:=by unfold AF;rw[Qf,Qp,gz,decide_eq_false_iff_not];constructor;rintro⟨u,z⟩;exact#[x.1,QEA rfl u,z];rintro⟨n,rfl,h⟩;exact#[rfl,h]
theorem VM(p:Pt->Bool):∀(l:List Pt),sm l (λx=>if p x=Js then 1 else 0)=(l.filter p).9
 |[]=>rfl|x::l=>by show(if p x=Js then 1 else 0)+sm l _=_;rw[VM p l,Wl];by_cases c:p x=Js;rw[Gw c,Gw c,QL];omega;rw[Gq c,Gq c];omega
theorem IP(f:Flow es st g r)(nd:ks.Nodup)(hk:∀p,p∈ks↔Rch r p)(M:tO g∉ks):out es st g r sA=(ks.filter (AF ks)).length:=by
 have sub:∀p∈ks,p∈ME es st g:=λp L=>by have:=SA.mp (SG f.toBase.dom f.toBase.bg ((hk p).mp L));rw[f.keys]at this;exact this
 have o:∀x∈ks,∀y,y∉ks->rm r x y=0:=λx w y u=>by have:=f.nn x y;by_cases c:0<rm r x y;exact gJ ((hk y).mpr (.go ((hk x).mp w) ((GQ f.ndi).mpr c))) u;omega
 have I:sm ((ME es st g).filter λx=>decide (x∈ks)) (λx=>out es st g r x)=out es st g r sA:=by
  have hb:sA∈ks:=(hk sA).mpr .bg;have e:∀x∈(ME es st g).filter (λx=>decide (x∈ks)),out es st g r x=if x=sA then out es st g r sA else 0:=λx w=>by by_cases c:x=sA;rw[Gw c,c];rw[Gq c];exact f.cons x c λz=>M (z▸gy (QZ.mp w).2)
  rw[MA e];exact GH (OE.sublist qf) (QZ.mpr #[sub _ hb,dT hb])
 have G:∀x∈(ME es st g).filter (λx=>decide (x∈ks)),sm ((ME es st g).filter λy=>!decide (y∈ks)) (fl es st g r x)=if AF ks x=Js then 1 else 0:=λx w=>by
  have W:x∈ks:=gy (QZ.mp w).2;have Z:=(QZ.mp w).1;have k:∀y∈(ME es st g).filter (λy=>!decide (y∈ks)),y∉ks/\fl es st g r x y=rm (jA es st g) x y:=λy u=>by have:=(QZ.mp u).2;rw[Qp,decide_eq_false_iff_not]at this;refine#[this,?_];unfold fl;rw[o x W y this];omega
  have B:∀y∈(ME es st g).filter (λy=>!decide (y∈ks)),∀n,y=tO n->fl es st g r x y=0:=λy u n e=>by
   let#[C,O]:=k y u;rw[O,e];by_cases A:x=fR n;rw[A];exact iH λl=>aD (.inr (.inl #[n,rfl,rfl])) l;rcases zi (es:=es) (st:=st) (g:=g) A with z|z
   ·exact z
   have a:ZG (jA es st g) x (tO n):=by refine qK λJ=>?_;rw[CM J]at z;exact gJ z (by decide)
   rcases AB.mp (xB.mp a) with⟨v,m⟩| ⟨v,m⟩
   have:=jL f m;rw[o x W (tO n) (e▸C)]at this;exact gJ this (We 0);rw[iH (aD (OB _ m).1)]
  rcases RC.kind x (SA.mpr Z) with e|⟨n,e|e⟩
  have i:¬ AF ks x=true:=λz=>by let#[n,j,_]:=iD.mp z;exact UB (e.symm.trans j)
  rw[Gq i];rw[MA (g:=λ_=>0),XF];intro y u;by_cases t:∃n,y=tO n;let#[n,t]:=t;exact B y u n t;rw[(k y u).2,e];exact iH λl=>by
   rcases l with⟨_,z⟩| ⟨n,z,_⟩| ⟨_,b,_,_,z⟩
   exact t z;exact UB z;exact t #[b,z]
  by_cases X:fR n∈ks
  ·have i:¬ AF ks x=true:=λz=>by
    let#[m,j,h]:=iD.mp z;rw[<- cB (e.symm.trans j)]at h;exact h X
   rw[Gq i,MA (g:=λ_=>0),XF];intro y u;rw[(k y u).2,e];exact fe λz=>(k y u).1 (z▸X)
  rw[Gw (iD.mpr #[n,e,X])];have K:Key (jA es st g) (tO n):=by rw[<- e];exact SA.mpr Z
  have N:fR n∈ME es st g:=vB (eB (xB.mpr (JL K)));rw[MA (g:=λy=>if y=fR n then 1 else 0)];exact GH (OE.sublist qf) (QZ.mpr #[N,by rw[dF X];rfl]);intro y u;rw[(k y u).2,e];by_cases c:y=fR n;rw[Gw c,c,re K];rw[Gq c,fe c];have i:¬ AF ks x=true:=λz=>by let#[m,j,_]:=iD.mp z;exact iA (j.symm.trans e)
  rw[Gq i,MA (g:=λ_=>0),XF];intro y u;by_cases t:∃n,y=tO n;let#[n,t]:=t;exact B y u n t;rw[(k y u).2,e];exact iH λl=>by
   rcases l with⟨z,_⟩| ⟨n,z,_⟩| ⟨_,b,_,_,z⟩
   exact JD z.symm;exact iA z.symm;exact t #[b,z]
 have F:∀x,out es st g r x=sm ((ME es st g).filter λy=>decide (y∈ks)) (fl es st g r x)+sm ((ME es st g).filter λy=>!decide (y∈ks)) (fl es st g r x):=λx=>ZO _ _;have E:sm ((ME es st g).filter λx=>decide (x∈ks)) (λx=>out es st g r x)=sm ((ME es st g).filter λx=>decide (x∈ks)) (λx=>if AF ks x=Js then 1 else 0):=by rw[MA λx _=>F x,hG,X4 _ λx _ y _=>f.anti x y,MA G];omega
 rw[<- I,E,VM];have:(((ME es st g).filter λx=>decide (x∈ks)).filter (AF ks)).9=(ks.filter (AF ks)).length:=by refine CO ((OE.sublist qf).sublist qf) (nd.sublist qf) λx=>?_;rw[QZ,QZ,QZ,gz];exact#[λ#[#[_,s],Y]=>#[s,Y],λ#[s,Y]=>#[#[sub x s,s],Y]]
 rw[this]
theorem k7(f:Flow es st g r):out es st g r sA=(((lk r sA).map (·.1)).filter λy=>decide (0<rm r y sA)).length:=by
 have e:∀y∈ME es st g,fl es st g r sA y=if decide (0<rm r y sA)=Js then 1 else 0:=λy x=>by rw[EI f.toBase Xl];have h0:=f.nn y sA;by_cases c:0<rm r y sA;rw[dT c,Gw rfl];let#[n,e]:=fZ f.toBase ((f.adj _ _).mpr (f.toBase.adjw c));rw[e]at c ⊢;have:=sU f n (TH f.toBase c).2;omega;rw[dF c,Gq (by decide)];omega
 unfold out;rw[MA e,VM];have:((ME es st g).filter λy=>decide (0<rm r y sA)).9=(((lk r sA).map (·.1)).filter λy=>decide (0<rm r y sA)).length:=by refine CO (OE.sublist qf) ((f.ndi sA).sublist qf) λy=>?_;rw[QZ,QZ,gz];refine#[λ#[_,h]=>#[?_,h],λ#[_,h]=>#[(xH f.toBase h).1,h]];let#[v,hv]:=(f.adj sA y).mpr (eB (f.toBase.adjw h));exact QY.mpr #[(y,v),LF hv,rfl]
 rw[this]
theorem i7(f:Flow es st g r)(hk:∀p,p∈ks↔Rch r p)(X:tO g∉ks){cut:LS}(hc:∀n,tO n∈ks->fR n∉ks->n∈cut):¬ ∃a,(a,g)∈es/\Led es st g cut a:=by
 have w:∀p∈ks,∀n v,(p,tO n,v)∈MW es st g->tO n∈ks:=λp o n v m=>(hk _).mpr (.go ((hk _).mp o) ((GQ f.ndi).mpr (jL f m)));have x:∀n,Led es st g cut n->fR n∈ks:=λn h=>by
  induction h with|@st s h k=>let#[i,u]:=KB.mp k;have t:=w sA ((hk _).mpr .bg) s 2 (FD.mpr (.inl #[s,h,i,.inr rfl]));exact qK λz=>u (hc s t z)|@ed a b l m k j=>let#[i,u]:=KB.mp k;by_cases e:a=b;rw[<- e];exact j;have t:=w (fR a) j b 2 (FD.mpr (.inr #[(a,b),m,#[(fF l).1,e],.inr (.inr rfl)]));exact qK λz=>u (hc b t z)
 rintro⟨a,m,l⟩;exact X (w (fR a) (x a l) g 2 (FD.mpr (.inr #[(a,g),m,#[(fF l).1,(fF l).1],.inr (.inr rfl)])))
end
end
inductive Run(r:Rm)(g f:Str):LS->Str->Prop
 |nil:Run r g f [] f
 |go {c:LS}{n m:Str}:Run r g f c n->n≠g->M3 r n m->Run r g f (c++[n]) m
inductive Chn(es:LB)(st:LS)(g:Str):LS->Str->Prop
 |st {f:Str}:f∈st->f≠g->Chn es st g [] f
 |go {c:LS}{n m:Str}:Chn es st g c n->n≠g->(n,m)∈es->Chn es st g (c++[n]) m
section
variable{es:LB}{st:LS}{g:Str}{r:Rm}
section
variable{s n:Str}{c:LS}
theorem Run.chn(f:Flow es st g r)(hs:BQ r s)(h:Run r g s c n):Chn es st g c n:=by
 induction h with|nil=>exact .st (TH f.toBase hs).1 (TH f.toBase hs).2|go _ ng x y=>exact .go y ng (Fc f.toBase x).1
theorem Run.thr1(f:Flow es st g r)(hs:BQ r s)(h:Run r g s c n)(ng:n≠g):SQ r n=1:=by
 cases h with|nil=>exact z7 f hs|go _ _ x=>exact k6 f x ng
theorem Run.pred(h:Run r g s c n):∀x,x∈c∨x=n->x=s∨∃y∈c,M3 r y x:=by
 induction h with
 |nil=>intro x u;exact u.elim (λz=>(nomatch z)) .inl
 |@go c n m _ _ v w =>
  intro x u;rcases u with u|rfl;have:x∈c∨x=n:=(QW.mp u).imp_right QJ.mp;rcases w x this with z|⟨y,k,z⟩
  exact .inl z;exact .inr #[y,Qd _ k,z];exact .inr #[n,QR _ QD,v]
theorem Run.ng(h:Run r g s c n):∀x∈c,x≠g:=by
 induction h with
 |nil=>exact λx y=>(nomatch y)
 |go _ k _ u=>intro x y;rcases QW.mp y with z|z;exact u x z;rw[QJ.mp z];exact k
theorem Run.nd(f:Flow es st g r)(hs:BQ r s)(h:Run r g s c n):c.Nodup/\n∉c:=by
 induction h with
 |nil=>exact#[Qt,λz=>(nomatch z)]
 |@go c n m h k x u =>
  have nd:(c++[n]).Nodup:=qT.mpr #[u.1,Qa.mpr #[λz=>(nomatch z),Qt],λa w b hb z=>by rw[QJ.mp hb]at z;exact u.2 (z▸w)];refine#[nd,λz=>?_];rcases QW.mp z with z|z;rcases h.pred m (.inl z) with e|⟨y,v,e⟩
  ·rw[e]at x;exact YN f hs x
  rw[AT f (h.ng m z) e x]at v;exact u.2 v;exact x.1 (QJ.mp z).symm
theorem Run.apart(f:Flow es st g r){s':Str}(hs:BQ r s)(b:BQ r s'){l:LS}{p:Str}(h:Run r g s c n)(h':Run r g s' l p):∀x∈c,x∈l->s=s':=by
 induction h with
 |nil=>exact λx a=>(nomatch a)
 |@go c n m h k q i =>
  intro x a v;rcases QW.mp a with z|z;exact i x z v;have z:=QJ.mp z;subst z;rcases h.pred x (.inr rfl) with e|⟨y,j,e⟩<;>rcases h'.pred x (.inl v) with u|⟨o,w,u⟩
  exact e.symm.trans u;rw[e]at u;exact(YN f hs u).elim;rw[u]at e;exact(YN f b e).elim;rw[AT f k e u]at j;exact i o j w
end
end
section
variable{es:LB}{st:LS}{g:Str}
theorem X7{cut:LS}{c:LS}{n:Str}(h:Chn es st g c n)(hc:∀x∈c,x∉cut)(ng:n≠g)(y:n∉cut):Led es st g cut n:=by
 induction h with|st h _=>exact .st h (KB.mpr #[ng,y])|@go c n m _ k e z=>exact .ed (z (λx u=>hc x (Qd _ u)) k (hc n (QR _ QD))) e (KB.mpr #[ng,y])
theorem xQ{cut:LS}{c:LS}(h:Chn es st g c g)(hl:¬ ∃a,(a,g)∈es/\Led es st g cut a):∃x∈c,x∈cut:=by
 refine qK λz=>?_;have hc:∀x∈c,x∉cut:=λx y m=>z #[x,y,m];cases h with|st _ e=>exact e rfl|@go c n _ h k e=>exact hl #[n,e,X7 h (λx y=>hc x (Qd _ y)) k (hc n (QR _ QD))]
def xC:List (LS)->Prop
 |[]=>True|c::cs=>(∀d∈cs,∀x∈c,x∉d)/\xC cs
theorem t8{cut:LS}:∀{cs:List (LS)},xC cs->(∀c∈cs,∃x∈c,x∈cut)->∃u:LS,u.9=cs.9/\u.Nodup/\(∀p∈u,p∈cut)/\∀p∈u,∃c∈cs,p∈c
 |[],_,_=>#[[],rfl,Qt,λ_ z=>(nomatch z),λ_ z=>(nomatch z)]
 |c::cs,a,h=>by
  let#[u,f,e,b,k]:=t8 (cs:=cs) a.2 λd v=>h d (QC _ v);let#[x,w,hc]:=h c QD;refine#[x::u,by rw[QL,QL,f],Qa.mpr #[λz=>?_,e],λp y=>?_,λp y=>?_];let#[d,v,y]:=k x z;exact a.1 d v x w y;rcases QK.mp y with z|z
  ·rw[z];exact hc
  exact b p z;rcases QK.mp y with z|z
  ·exact#[c,QD,by rw[z];exact w]
  let#[d,v,y]:=k p z;exact#[d,QC _ v,y]
theorem tW{cut:LS}{cs:List (LS)}(a:xC cs)(h:∀c∈cs,Chn es st g c g)(hl:¬ ∃a,(a,g)∈es/\Led es st g cut a):cs.9<=cut.length:=by let#[u,z,y,x,_]:=t8 a λc hc=>xQ (h c hc) hl;rw[<- z];exact oG y x
end
section
variable{ks:List Pt}{vs:List D}{p:Pt}
noncomputable def KC(ks:List Pt)(vs:List D):List (D×D):=(ks.map pr).zip vs
theorem ce(ks:List Pt)(vs:List D):(RW ks vs).er=.dict (KC ks vs):=by show PyData.dict ((ks.map pr).zip (ersT (vs.map T.d)))=_;rw[bB];rfl
theorem yJ(h:vs.9=ks.9):(KC ks vs).map (·.1)=ks.map pr:=QAH (by rw[QG];omega)
theorem B7(h:vs.9=ks.9):(KC ks vs).map (·.2)=vs:=QAz (by rw[QG];omega)
theorem aH(h:vs.9=ks.9)(m:p∈ks):iC (KC ks vs)=Jp true:=by
 cases ks with
 |nil=>exact(nomatch m)
 |cons x ks=>cases vs with|nil=>cases h|cons y vs=>rfl
theorem MP{q:Pt}{u:List Pt}:∀{y:List Pt},q∉y->dA ((y++q::u).map pr) (pr q)=Jp y.9
 |[],_=>T8 rfl|x::y,h=>by show dA (pr x::(y++q::u).map pr) (pr q)=_;rw[V0 (λz=>h (by rw[HM z];exact QD)),MP λz=>h (QC _ z)];rfl
theorem Bf{h z:List Pt}{y x:List D}{q:Pt}{n m:Bool}{R:T->Prop}(u:y.9=h.9)(w:x.9=z.9)(v:q∉h)(k:R (.d (pr p))):FC (.d (.dict (KC (h++q::z) (y++pr p::x)))) n (.d (pr q)) m R:=by
 have hl:(y++pr p::x).9=(h++q::z).length:=by rw[QN,QN,QL,QL,u,w]
 refine Xf (aH hl (p:=q) (QR _ QD)) (zC q) (by rw[yJ hl];exact MP v) ?_ k;rw[B7 hl,<- u,Qx (QV _),QBP];rfl
theorem vS(a b:Pt):qP (pr a) (pr b)=decide (a=b):=by
 rw[qa,gz];have e:qP (pr a) (pr b)=(qP (.str a.1) (.str b.1)&&(qP (.str a.2) (.str b.2)&&Js)):=by simp[pr,qP,PyData.eqvAll]
 rw[e,KN,KN,QCw,Qf,gz,gz];exact#[λh=>QEA h.1 h.2,λh=>by rw[h];exact#[rfl,rfl]]
def CW(es:LB)(st:LS):Prop:=(∀s∈st,qy s=Js)/\∀e∈es,qy e.1=Js/\qy e.2=Js
theorem AD{a b:Str}(x:qy a=Js)(h:qy b=Js):zF (pr (a,b)):=by refine#[?_,?_];simp only[pr,QAr,wv,x,h,Bool.and_self];simp only[pr,QCK,Wv];decide
theorem YO:qy "to"=true:=by decide +kernel
theorem jT:qy "from"=true:=by decide +kernel
theorem xL:qy ""=Js/\qy "begin"=true:=by decide +kernel
theorem BZ{es:LB}{st:LS}{g:Str}(h:CW es st)(k:p∈ME es st g):zF (pr p):=by
 have k:Key (jA es st g) p:=SA.mpr k;rw[PD]at k;rcases SI.mp k with z|⟨⟨u,v,c⟩,m,z⟩
 rw[QJ.mp (SA.mp z)];exact AD xL.1 xL.2;have z:p=u∨p=v:=z;rcases FD.mp m with⟨n,w,_,e|e⟩| ⟨e,x,_,y|y|y⟩
 cases e;rcases z with z|z<;>subst z;exact AD (h.1 n w) YO;exact AD (h.1 n w) jT;cases e;rcases z with z|z<;>subst z;exact AD xL.1 xL.2;exact AD (h.1 n w) YO;cases y;rcases z with z|z<;>subst z;exact AD (h.2 e x).1 YO;exact AD (h.2 e x).1 jT;cases y;rcases z with z|z<;>subst z;exact AD (h.2 e x).2 YO;exact AD (h.2 e x).2 jT;cases y;rcases z with z|z<;>subst z;exact AD (h.2 e x).1 jT;exact AD (h.2 e x).2 YO
def cO(r:Rm)(x:List (D×D))(last:D)(h:Pt)(o4:Option Sl):kA:=[oW (UA r),bD (.dict x),bD last,bD (pr h),o4]
end
section
variable{Ψ:PEv}{Z:PEnds}{q:PT}{r:Rm}{h:List (D×D)}{last:D}{u v:Pt}
theorem Rk(hk:Key r u)(ha:ZG r u v)(hl:(lk r u).9<jx)(k:pF Ψ q Z (cO (put r u (put (lk r u) v (rm r u v - 1))) h last v (bD (pr u)))) :
  pF Ψ (.seq (.six (.idx (.kw 0) (.kw 4)) (.kw 3) (.bin .Sub (.idx (.idx (.kw 0) (.kw 4)) (.kw 3)) (.int 1))) q) Z (cO r h last v (bD (pr u))):=by
 let#[x,y]:=ha;have e:rm r u v=x:=by unfold rm;rw[y];rfl
 rw[e]at k;delta cO at k ⊢;simp![↓YG];refine gE hk ?_;simp![↓HU];refine bM y ?_;simp![↓zA];refine FG (jE hk) λf z=>iM hl ?_;rw[z];exact k
theorem Pk(hk:Key r v)(ha:ZG r v u)(hl:(lk r v).9<jx)(k:pF Ψ q Z (cO (put r v (put (lk r v) u (rm r v u+1))) h last v (bD (pr u)))) :
  pF Ψ (.seq (.six (.idx (.kw 0) (.kw 3)) (.kw 4) (.bin .Add (.idx (.idx (.kw 0) (.kw 3)) (.kw 4)) (.int 1))) q) Z (cO r h last v (bD (pr u))):=by
 let#[x,y]:=ha;have e:rm r v u=x:=by unfold rm;rw[y];rfl
 rw[e]at k;delta cO at k ⊢;simp![↓YG];refine gE hk ?_;simp![↓HU];refine bM y ?_;simp![↓zA];refine FG (jE hk) λf z=>iM hl ?_;rw[z];exact k
end
theorem Base.inn{es:LB}{st:LS}{g:Str}{r:Rm}(b:Base es st g r)(p:Pt):(lk r p).9<=(jA es st g).length:=by
 have:=HF (ns:=ME es st g) (b.ndi p) λq h=>by let#[e,x,z]:=QY.mp h;have a:ZG r p q:=xB.mpr #[e.2,by rw[<- z];exact x];exact vB (eB ((b.adj p q).mp a))
 unfold ME at this;rw[QG,QG]at this;exact this
section
variable{Ψ:PEv}{Z:PEnds}{es:LB}{st:LS}{g:Str}
theorem K6{m r:Rm}{ks:List Pt}{vs:List D}{x:Pt}{last:D}{o4:Option Sl}{z v:List Pt}{b u:List D}(hsz:(jA es st g).9<=1000)(Q:S7 m)(G:CF m z b)(S:ks=z++v)(R:vs=b++u)(h9:u.9=v.9)(E:x∈z)(hb:x≠sA)(i:LC es st g m r x z)
  (k:∀h y n l p r',CF m h y->ks=h++n->vs=y++l->l.9=n.9->h.9<z.9->p∈h->LC es st g m r' p h->Z.nx (cO r' (KC ks vs) last p (bD (pr p)))) :
  pF Ψ MD Z (cO r (KC ks vs) last x o4):=by
 let#[h,y,p,j,e,I,P,w,A,X,F]:=G.find E hb;have L:=G.len;have J:=I.len;have H:e.9=j.length:=by rw[X,F,QN,QN,QL,QL]at L;omega
 have s:ks=h++x::(j++v):=by rw[S,X,qd];rfl
 have o:vs=y++pr p::(e++u):=by rw[R,F,qd];rfl
 let#[W,K]:=C6 Q i E hb w A λq O=>by rw[X];exact Qd _ O
 have a:=i.adjw W;have B:=vO a;have N:Key r p:=by rw[SA,i.keys];exact vB a
 have M:Key r x:=by rw[SA,i.keys];exact vB (eB a)
 have C:=i.toBase.inn;have Y:pF Ψ %[.set 3 (.kw 4)|2] Z (cO (oV r p x) (KC ks vs) last x (bD (pr p))):=by have:=k h y (x::(j++v)) (pr p::(e++u)) p (oV r p x) I s o (by rw[QL,QL,QN,QN];omega) (by rw[X,QN,QL];omega) P K;unfold cO at this;delta cO;simp![↓zA];exact this
 have f:pF Ψ %[.six (.idx (.kw 0) (.kw 4)) (.kw 3) (.bin .Sub (.idx (.idx (.kw 0) (.kw 4)) (.kw 3)) (.int 1)),.six (.idx (.kw 0) (.kw 3)) (.kw 4) (.bin .Add (.idx (.idx (.kw 0) (.kw 3)) (.kw 4)) (.int 1)),.set 3 (.kw 4)|2] Z (cO r (KC ks vs) last x (bD (pr p))):=by have i1:=C p;have i2:=C x;refine Rk N ((i.adj _ _).mpr a) () (Pk ?_ ?_ ?_ Y);exact mH.mpr (.inr M);show ZG _ x p;have:=(i.adj x p).mpr (eB a);unfold ZG at this ⊢;rw[DD,Gq B];exact this;rw[DD,Gq B];omega
 unfold cO at f;delta cO;delta MD;simp![↓zA];rw[s,o]at f ⊢;refine Bf J (by rw[QN,QN];omega) A ?_;simp![↓zA];exact f
end
section
variable{Ψ:PEv}{W:LT->Prop}{n m:Bool}{E:XE}{ρ:kA}{R:T->Prop}{a g f:Str}{es:LB}{st c:LS}{r:Rm}{Z:PEnds}{ks:List Pt}{vs:List D}{L:Bool->Prop}{Q:T->Bool->Prop}{i:Nat}{cs:List (LS)}
def JM:PSp where
 md:=[.chg]
 run:=λy Q _=>∃(es:LB) (st:LS) (g:Str) (h:Rm) (ks:List Pt) (vs:List D),y=[UA h,.d (.dict (KC ks vs)),.d (pr (tO g))]/\((jA es st g).9<=1000/\CW es st/\Flow es st g h/\CF h ks vs/\tO g∈ks)/\∀x,Flow es st g x->out es st g x sA=out es st g h sA+1->Q (.d .none) [UA x]
theorem Uc(B:Ψ.va "BEGIN"=Jp (pr sA)):MU Ψ aF JM KI zH:=by
 rintro _ Q _ ⟨es,st,g,k,ks,vs,rfl,⟨N,M,fl,cf,I⟩,q⟩;refine jI [oW (UA k),bD (.dict (KC ks vs)),bD (pr (tO g)),Jr,Jr] ?_;delta aF;simp![↓zA];refine GI (λm ρ=>∃r h x v u y o4,m=h.9/\CF k h x/\ks=h++v/\vs=x++u/\u.9=v.9/\y∈h/\LC es st g k r y h/\ρ=cO r (KC ks vs) (pr (tO g)) y o4) ks.9 #[k,ks,vs,[],[],tO g,_,rfl,cf,by rw[wK],by rw[wK],rfl,I,YZ fl ks,rfl] ?_;rintro m ρ ⟨r,h,x,v,u,y,o4,em,C,H,S,J,K,Y,rfl⟩;have o:zF (pr y):=BZ M (by have:=SG fl.toBase.dom fl.toBase.bg (C.rch y K);rw[SA,fl.keys]at this;exact this);have s:zF (pr sA):=AD xL.1 xL.2;have z:∀L:Bool->Prop,L (!decide (y=sA))->HD .NotEq (.d (pr y)) (.d (pr sA)) L:=λL l=>by show zF (pr y)/\zF (pr sA)/\L (!PyData.eqv (pr y) (pr sA));rw[vS];exact#[o,s,l]
 by_cases e:y=sA;subst e;delta cO;simp![↓uG B];refine z _ ?_;rw[dT rfl];let#[P,O]:=Ec Y;exact q r P O;have A:=λ(Z:PEnds) G=>K6 (Ψ:=Ψ) (Z:=Z) (last:=pr (tO g)) (o4:=o4) N fl.ndi C H S J K e Y G;unfold cO at A;delta cO;simp![↓uG B];refine z _ ?_;rw[dF e];refine A _ λw j X b p F a1 a2 a3 a4 a5 a6 a7=>#[w.9,(),F,w,j,X,b,p,_,rfl,a1,a2,a3,a4,a6,a7,rfl]
theorem zX{l:Inn}:GK .val [(JC l,Jt)] W=W ((l.map λe=>pr e.1).map T.d):=VP _ _
theorem Ta{kvs:List (D×D)}(h:iC kvs=Jp Js):GK .val [(.d (.dict kvs),n)] W=W ((kvs.map (·.1)).map T.d):=by unfold GK HB;rw[fA];show ZB .val [iB kvs] W=_;unfold iB;rw[h];exact VP _ _
theorem i9{a b h:PX}{t:Str}{x:T}{R:Option T->Prop}:cK Ψ E [] [t] (.nm 0) (.and a b) h ρ x R=CT Ψ (.and a b) E (Jp (.ny x)::lockA ρ) λk z=>if k=Js then NB Ψ h E z λy n _=>NC y n (R (Jp y)) else R none:=rfl
theorem fO{p:Pt}:FC (.d (pr p)) n (.d (.int 0)) m R=R (.d (.str p.1)):=by delta pr;rw[T3,N7,BC]
theorem A7{p:Pt}:FC (.d (pr p)) n (.d (.int 1)) m R=R (.d (.str p.2)):=by delta pr;rw[T3,Hl,BC]
theorem m8:(T.d (.tuple [.str a,.str "from"]))=.d (pr (fR a)):=rfl
theorem dY:(T.d (.tuple [.str a,.str "to"]))=.d (pr (tO a)):=rfl
def KF:PSp where
 md:=[.ny]
 run:=λh Q _=>∃(es:LB) (st:LS) (g:Str) (r:Rm) (n:Str),h=[UA r,.d (.str n)]/\((jA es st g).9<=1000/\Flow es st g r/\SQ r n=1)/\∀m,M3 r n m->Q (.d (.str m)) []
theorem ZV:MU Ψ LD KF vG IE:=by
 rintro _ Q _ ⟨es,st,g,r,n,rfl,⟨M,fl,K⟩,q⟩;have J:=fl.toBase.inn (fR n);let#[b,k]:=Dc fl K;have l:ZG r (fR n) (tO b):=(fl.adj _ _).mpr (eB (fl.toBase.adjw k.2));have s:Key r (fR n):=by rw[SA,fl.keys];exact vB ((fl.adj _ _).mp l)
 refine OA [Jp (.ny (UA r)),bD (.str n),Jr] ?_;delta LD;simp![m8,↓YG];refine#[(),gE s ?_];simp![↓E2,↓zX];have F:((lk r (fR n)).map λe=>pr e.1).map T.d=((lk r (fR n)).map (·.1)).map λp=>T.d (pr p):=by rw[Qi,Qi];rfl
 rw[F];refine FA (λp=>T.d (pr p)) (λ(p:Pt)=>T.d (.str p.1)) (λp=>!decide (p.1=n)&&decide (0<rm r p (fR n))) ((lk r (fR n)).map (·.1)) [] _ (λx Y R u=>?_) (by show 0+((lk r (fR n)).map (·.1)).9<=_;rw[QG];omega) ?_;let#[e,A,C]:=QY.mp Y;have G:ZG r (fR n) x:=xB.mpr #[e.2,by rw[<- C];exact A];have w:ZG r x (fR n):=(fl.adj _ _).mpr (eB ((fl.adj _ _).mp G));have o:Key r x:=by rw[SA,fl.keys];exact vB ((fl.adj _ _).mp w)
 let#[v,hv]:=w;have B:rm r x (fR n)=v:=by unfold rm;rw[hv];rfl
 rw[B]at u;simp![↓i9,↓fO,↓YG];by_cases c:x.1=n;rw[dT c]at u ⊢;exact u;rw[dF c]at u ⊢;simp only[QBT,↓reduceIte];refine gE o ?_;simp![↓HU];refine bM hv ?_;simp![↓fO];by_cases d:0<v;rw[dT d]at u ⊢;exact u;rw[dF d]at u ⊢;exact u;have hm:tO b∈((lk r (fR n)).map (·.1)).filter λp=>!decide (p.1=n)&&decide (0<rm r p (fR n)):=by let#[v,hv]:=l;refine QZ.mpr #[QY.mpr #[_,LF hv,rfl],?_];rw[dF (show ¬ (tO b).1=n from λz=>k.1 z.symm),dT k.2];rfl
 cases j:((lk r (fR n)).map (·.1)).filter λp=>!decide (p.1=n)&&decide (0<rm r p (fR n)) with
 |nil=>rw[j]at hm;exact(nomatch hm)
 |cons y I =>
  have X:y∈((lk r (fR n)).map (·.1)).filter λp=>!decide (p.1=n)&&decide (0<rm r p (fR n)):=by rw[j];exact QD
  have h:=(QZ.mp X).2;rw[Qf,Qp,decide_eq_false_iff_not,gz]at h;let#[m,rfl]:=U8 fl.toBase ((fl.adj _ _).mpr (fl.toBase.adjw h.2));rw[qD,sB (λp:Pt=>Jx p.1)];simp![↓zA];rw[QT,N7];simp![↓zA];exact q m #[λz=>h.1 z.symm,h.2]
def LG:PSp where
 md:=[.ny]
 run:=λh Q _=>∃(es:LB) (st:LS) (g:Str) (r:Rm) (f:Str),h=[UA r,.d (.str f),.d (.str g)]/\((jA es st g).9<=1000/\Flow es st g r/\BQ r f)/\∀c,Run r g f c g->Q (.lst ((c.map Jx).map T.d)) []
theorem Vb(fl:Flow es st g r)(w:BQ r f){n:Str}(h:Run r g f c n):(∀x∈c,tO x∈ME es st g)/\tO n∈ME es st g:=by
 induction h with
 |nil=>exact#[λx y=>(nomatch y),(xH fl.toBase w).1]
 |go _ _ v u=>refine#[λx y=>?_,(xH fl.toBase v.2).1];rcases QW.mp y with z|z;exact u.1 x z;rw[QJ.mp z];exact u.2
theorem gT(fl:Flow es st g r)(y:BQ r f){n:Str}(h:Run r g f c n):c.9<=(jA es st g).length:=by
 have nd:=(h.nd fl y).1;have:=HF (ks:=c.map tO) (ns:=ME es st g) (QAp tO (λa b u z=>u (cB z)) nd) λp w=>by let#[x,v,e]:=QY.mp w;rw[<- e];exact(Vb fl y h).1 x v
 unfold ME at this;rw[QG,QG]at this;exact this
def ue(r:Rm)(f g:Str)(c:LS)(n:Str):kA:=[Jp (.ny (UA r)),bD (.str f),bD (.str g),oW (.lst ((c.map Jx).map T.d)),bD (.str n)]
theorem U7(x:Ψ.sp "name_behind"=KF){n:Str}(hs:(jA es st g).9<=1000)(fl:Flow es st g r)(h:SQ r n=1)(hl:c.9<=1000)(k:∀m,M3 r n m->Z.nx (ue r f g (c++[n]) m)) :
  pF Ψ gD Z (ue r f g c n):=by
 delta ue at k ⊢;delta gD;simp![↓xO,↓nA (md:=[.ny]) x rfl rfl];refine#[by rw[QG,QG];omega,#[_,_,_,_,_,rfl,#[hs,fl,h],λm nx=>?_]];have:=k m nx;rw[Qk,Qk]at this;simp![↓zA];exact this
theorem PY(b:Ψ.sp "name_behind"=KF):MU Ψ UE LG UH yG:=by
 rintro _ Q _ ⟨es,st,g,r,f,rfl,⟨hs,fl,z⟩,q⟩;have u:jx=16777216:=qR;refine OA [Jp (.ny (UA r)),bD (.str f),bD (.str g),Jr,Jr] ?_;delta UE
 simp![↓zA];refine#[Q3 _,GI (λm ρ=>∃c n,m+c.9=1001/\Run r g f c n/\ρ=ue r f g c n) 1001 #[[],f,rfl,.nil,rfl] ?_];rintro m ρ ⟨c,n,j,x,rfl⟩;have hl:=gT fl z x;by_cases e:n=g;subst e;delta ue;simp![↓zA];exact q c x;have v:=λ(Z:PEnds) u=>U7 (Ψ:=Ψ) (Z:=Z) (f:=f) (g:=g) (c:=c) b hs fl (x.thr1 fl z e) () u;unfold ue at v;delta ue;simp![↓zA];rw[dF e];refine v _ λk w=>?_;have h:=x.go e w;have y:=gT fl z h;rw[QN,qE]at y;exact#[m - 1,(),c++[n],k,by rw[QN,qE];omega,h,rfl]
theorem se{q:Pt}(hv:vs.9=ks.9)(hb:sA∈ks):HD .NotIn (.d (pr q)) (.d (.dict (KC ks vs))) L=L (!decide (q∈ks)):=by show(∃b,iC (KC ks vs)=Jp b/\sE b (pr q)/\L (!(dA ((KC ks vs).map (·.1)) (pr q)).isSome))=_;rw[aH hv hb,yJ hv,II];exact gx #[λ#[_,_,_,h]=>h,λh=>#[Js,rfl,zC q,h]]
theorem u9{q:Pt}(hv:vs.9=ks.9)(hb:sA∈ks):HD .In (.d (pr q)) (.d (.dict (KC ks vs))) L=L (decide (q∈ks)):=by show(∃b,iC (KC ks vs)=Jp b/\sE b (pr q)/\L (dA ((KC ks vs).map (·.1)) (pr q)).isSome)=_;rw[aH hv hb,yJ hv,II];exact gx #[λ#[_,_,_,h]=>h,λh=>#[Js,rfl,zC q,h]]
theorem oh{ss:LS}(x:ss.9<64)(q:∀h:LS,h.Perm ss->zy h=Js->Q (.lst ((h.map Jx).map T.d)) Js):IK .sorted [(.lst ((ss.map Jx).map T.d),n)] Q:=by unfold IK HB;rw[cC];exact .inl #[_,ss,rfl,oA _,x,q]
theorem ph{ls:List (LS)}(x:ls.9<64)(q:∀h:List (LS),h.Perm ls->Q (.lst ((h.map IF).map T.d)) Js):IK .sorted [(.d (.list (ls.map IF)),n)] Q:=by unfold IK HB;rw[fA];exact .inr #[_,ls,rfl,oA _,x,q]
def bK(ks:List Pt):LS:=(ks.filter (AF ks)).map λp=>p.1
def YM:PSp where
 run:=λh Q _=>∃(ks:List Pt) (vs:List D),h=[.d (.dict (KC ks vs))]/\(vs.9=ks.9/\sA∈ks/\ks.9<=1000/\(ks.filter (AF ks)).9<64)/\∀cut:LS,cut.Perm (bK ks)->zy cut=Js->Q (.lst ((cut.map Jx).map T.d)) []
theorem A5:MU Ψ VE YM XH jG:=by rintro _ Q _ ⟨ks,vs,rfl,⟨hv,hb,k,v⟩,q⟩;refine OA [bD (.dict (KC ks vs))] ?_;delta VE;simp![↓Ta (aH hv hb),yJ hv];rw[<- sB];refine FA (λp=>T.d (pr p)) (λ(p:Pt)=>T.d (.str p.1)) (AF ks) ks [] _ (λx w R h=>?_) (by show 0+ks.9<=_;omega) ?_;have h:R (if(decide (x.2="to")&&!decide (fR x.1∈ks))=Js then Jp (T.d (.str x.1)) else Jr):=h;simp![↓i9,↓fO,↓A7,m8,↓se hv hb];by_cases c:x.2="to";rw[dT c]at h ⊢;refine#[(),?_];by_cases d:fR x.1∈ks;rw[dT d]at h ⊢;exact h;rw[dF d]at h ⊢;exact h;rw[dF c]at h ⊢;exact h;rw[qD,sB (λp:Pt=>Jx p.1),show((ks.filter (AF ks)).map λp=>Jx p.1)=(bK ks).map Jx by unfold bK;rw[Qi];rfl];refine oh (by unfold bK;rw[QG];exact v) λy u z=>?_;simp![↓zA];exact q y u z
theorem gW(f:Flow es st g r):(((lk r sA).map (·.1)).filter λy=>decide (0<rm r y sA)).9<=st.length:=by
 have u:∀y∈((lk r sA).map (·.1)).filter (λy=>decide (0<rm r y sA)),y=tO y.1/\BQ r y.1:=λy x=>by have h:=gy (QZ.mp x).2;let#[n,rfl]:=fZ f.toBase ((f.adj _ _).mpr (f.toBase.adjw h));exact#[rfl,h]
 have nd:(((lk r sA).map (·.1)).filter λy=>decide (0<rm r y sA)).Nodup:=(f.ndi sA).sublist qf;have:=oG (ks:=(((lk r sA).map (·.1)).filter λy=>decide (0<rm r y sA)).map (·.1)) (ns:=st) (by
  refine QAp _ (λa b h=>h) (QAP (λ{a b} w hb v z=>?_) nd);exact v (by rw[(u a w).1,(u b hb).1,z])) λs hs=>by
  let#[y,x,e]:=QY.mp hs;rw[<- e];exact(TH f.toBase (u y x).2).1
 rw[QG]at this;exact this
theorem LL{α v:Type}{body:T->(Option T->Prop)->Prop}(P:α->v->Prop)(g:α->T)(f:v->T):∀(l:List α) (h:LT) (Q:LT->Prop),(∀x∈l,∀R:Option T->Prop,(∀y,P x y->R (Jp (f y)))->body (g x) R)->h.9+l.9<=jx->(∀u,Kx P l u->Q (h++u.map f))->GC body (l.map g) h Q
 |[],h,Q,_,hl,q=>by have:=q [] .nil;rw[wt,wK]at this;exact#[by rw[Qm]at hl;omega,this]|x::r,h,Q,hb,hl,q=>by
  rw[QL]at hl;refine hb x QD _ λy k=>#[(),?_]
  refine LL P g f r _ Q (λz w=>hb z (QC _ w)) (by rw[QN,qE];omega) λu b=>?_;have:=q (y::u) (.cons k b);rw[QT]at this;rw[qd];exact this
theorem ca{r:PT}:UM Ψ E r Z i (RW ks vs) Js ρ=lB Ψ E r Z (ρ.set i (bD (.dict (KC ks vs)))):=by unfold UM;rw[ce];exact gx #[λh=>h.2,λh=>#[rfl,h]]
def yi(c:LS):T:=.lst ((c.map Jx).map T.d)
theorem ve(cs:List (LS)):ersT (cs.map yi)=cs.map IF:=by rw[ZN,Qi];congr 1;funext c;show PyData.list (ersT ((c.map Jx).map T.d))=_;rw[bB];rfl
theorem im{r:PT}:UM Ψ E r Z i (.lst (cs.map yi)) Js ρ=lB Ψ E r Z (ρ.set i (bD (.list (cs.map IF)))):=by
 have e:(T.lst (cs.map yi)).er=.list (cs.map IF):=by show PyData.list (ersT (cs.map yi))=_;rw[ve]
 unfold UM;rw[e];exact gx #[λh=>h.2,λh=>#[rfl,h]]
theorem Uh{a b:LT}:dH [.lst a,.lst b]=.tup [.lst a,.lst b]:=rfl
theorem uI:∀{cs:List (LS)},xC cs↔cs.Pairwise λc d=>∀x∈c,x∉d
 |[]=>#[λ_=>.nil,λ_=>trivial]|c::cs=>by rw[QBS,<- uI];exact QAb
theorem KS{ds:List (LS)}(h:ds.Perm cs)(a:xC cs):xC ds:=uI.mpr ((h.pairwise_iff (λ{a b} z x u y=>z x y u)).mpr (uI.mp a))
structure Good(es:LB)(st:LS)(g:Str)(cs:List (LS))(cut:LS):Prop where
 chn:∀c∈cs,Chn es st g c g/\c.Nodup/\∀x∈c,x≠g
 apart:xC cs
 len:cs.9=cut.9
 few:cut.9<=11
 nd:cut.Nodup
 srt:zy cut=Js
 ng:g∉cut
 led:¬ ∃a,(a,g)∈es/\Led es st g cut a
 okn:∀s∈cut,qy s=Js
end
section
variable{es:LB}{st:LS}{g:Str}{r:Rm}
theorem tJ(f:Flow es st g r):∀{fs:LS}{cs:List (LS)},fs.Nodup->(∀s∈fs,BQ r s)->Kx (λs c=>Run r g s c g) fs cs->xC cs/\(∀c∈cs,∃s∈fs,Run r g s c g)
 |_,_,_,_,.nil=>#[trivial,λ_ h=>(nomatch h)]
 |s::fs,c::cs,nd,hf,.cons h t=>by
  let#[b,a]:=Qa.mp nd;let#[j,k]:=tJ f a (λs hs=>hf s (QC _ hs)) t;refine#[#[λd w x i e=>?_,j],λd w=>?_];let#[u,y,v]:=k d w;have:=Run.apart f (hf s QD) (hf u (QC _ y)) h v x i e;exact b (this▸y);rcases QK.mp w with z|z
  ·rw[z];exact#[s,QD,h]
  let#[u,y,v]:=k d z;exact#[u,QC _ y,v]
def Kj(r:Rm):List Pt:=((lk r sA).map λe=>e.1).filter λy=>decide (0<rm r y sA)
def TR(r:Rm):LS:=(Kj r).map λp=>p.1
theorem d0(f:Flow es st g r):∀y∈Kj r,y=tO y.1/\BQ r y.1:=λy x=>by have h:=gy (QZ.mp x).2;let#[n,rfl]:=fZ f.toBase ((f.adj _ _).mpr (f.toBase.adjw h));exact#[rfl,h]
theorem Sh(f:Flow es st g r):(TR r).Nodup:=by have nd:(Kj r).Nodup:=(f.ndi sA).sublist qf;refine QAp _ (λa b h=>h) (QAP (λ{a b} y hb x z=>?_) nd);exact x (by rw[(d0 f a y).1,(d0 f b hb).1,z])
theorem SR(f:Flow es st g r):∀s∈TR r,BQ r s:=λs hs=>by let#[y,h,e]:=QY.mp hs;rw[<- e];exact(d0 f y h).2
theorem AH(f:Flow es st g r):out es st g r sA=(TR r).9/\(TR r).9<=st.length:=by have x:=k7 f;have h:=gW f;unfold TR;rw[QG];exact#[x,h]
theorem CJ{α x:Type}{P:α->x->Prop}{l:List α}{m:List x}(h:Kx P l m):l.9=m.length:=qq h
theorem E6(f:Flow es st g r)(B:CW es st)(E:st.9<=11){ks:List Pt}{vs:List D}(Z:CF r ks vs)(hk:∀p,p∈ks↔Rch r p)(o:tO g∉ks){cs ds:List (LS)}(X:Kx (λs c=>Run r g s c g) (TR r) cs)(j:ds.Perm cs){cut:LS}(w:cut.Perm (bK ks))(sc:zy cut=Js):Good es st g ds cut:=by
 let#[I,G]:=tJ f (Sh f) (SR f) X;let#[O,N]:=AH f;have M:=IP f Z.nd hk o;have L:(bK ks).9=(ks.filter (AF ks)).length:=by unfold bK;rw[QG]
 have J:=CJ X;have u:∀s,s∈bK ks↔tO s∈ks/\fR s∉ks:=λs=>by unfold bK;rw[QY];constructor;rintro⟨y,A,e⟩;let#[v,x]:=QZ.mp A;let#[n,q,k]:=iD.mp x;subst q;have e:n=s:=e;subst e;exact#[v,k];rintro⟨v,x⟩;exact#[tO s,QZ.mpr #[v,iD.mpr #[s,rfl,x]],rfl]
 have l:(bK ks).Nodup:=by unfold bK;refine QAp _ (λa b h=>h) (QAP (λ{a b} C hb K z=>?_) (Z.nd.sublist (qf (p:=AF ks))));let#[n,F,_]:=iD.mp (QZ.mp C).2;let#[m,q,_]:=iD.mp (QZ.mp hb).2;subst F q;have z:n=m:=z;exact K (by rw[z])
 have W:=w.length_eq;refine#[λc hc=>?_,KS j I,by rw[j.length_eq,W];omega,(),w.nodup_iff.mpr l,sc,λz=>o ((u g).mp (w.mem_iff.mp z)).1,?_,λs hs=>?_];let#[s,hs,i]:=G c (j.mem_iff.mp hc);have Y:=SR f s hs;exact#[i.chn f Y,(i.nd f Y).1,i.ng];exact i7 f hk o λn v x=>w.mem_iff.mpr ((u n).mpr #[v,x]);have v:=((u s).mp (w.mem_iff.mp hs)).1;have x:=SA.mp (SG f.toBase.dom f.toBase.bg ((hk _).mp v));rw[f.keys]at x;have k:=(BZ B x).1;simp only[pr,tO,QAr,wv,Qf]at k;exact k.1
end
def IN(es:LB)(st:LS)(g:Str)(r:Rm)(h:List (D×D))(o5 o6:Option Sl):kA:=[bD (.list (es.map pr)),bD (.list (st.map Jx)),bD (.str g),oW (UA r),bD (.dict h),o5,o6]
section
variable{Ψ:PEv}{Z:PEnds}{es:LB}{st:LS}{g:Str}{r:Rm}
section
variable{q:PT}{h:List (D×D)}{o6:Option Sl}
theorem Pl(u:Ψ.sp "rooms_of"=SE)(z:Ψ.sp "points_reached"=ND)(y:es.9<=126)(x:st.9<=11)(k:∀ks vs,CF (jA es st g) ks vs->(∀p,p∈ks↔Rch (jA es st g) p)->pF Ψ q Z (IN es st g (jA es st g) (KC ks vs) Jr Jr)) :
  pF Ψ (.seq (.own 3 (.call "rooms_of" %[.kw 0,.kw 1,.kw 2|1])) (.seq (.set 4 (.call "points_reached" %[.kw 3|1])) q)) Z [bD (.list (es.map pr)),bD (.list (st.map Jx)),bD (.str g),Jr,Jr,Jr,Jr]:=by
 have ok:=HJ (g:=g) y x;delta IN at k;simp![↓nA (md:=[]) u rfl rfl,↓nA (md:=[.ny]) z rfl rfl];refine#[_,_,_,rfl,#[y,x],?_];simp![↓xO,↓nA (md:=[.ny]) z rfl rfl];refine#[_,_,rfl,#[(.inl rfl),ok.dom,ok.bg,ok.sz.1],λks vs hc hk=>?_];simp![↓ca];exact k ks vs hc hk
theorem Ol(u:Ψ.sp "points_reached"=ND)(a:Ψ.sp "lay_chain"=JM){ks:List Pt}{vs:List D}(hs:(jA es st g).9<=1000)(v:CW es st)(f:Flow es st g r)(b:CF r ks vs)(w:tO g∈ks)
  (k:∀r' x y,Flow es st g r'->out es st g r' sA=out es st g r sA+1->CF r' x y->(∀p,p∈x↔Rch r' p)->Z.nx (IN es st g r' (KC x y) Jr Jr)) :
  pF Ψ nC Z (IN es st g r (KC ks vs) Jr Jr):=by
 delta IN at k ⊢;delta nC;simp![dY,↓RF (md:=[]) a rfl rfl,↓nA (md:=[.ny]) u rfl rfl];refine#[(),#[_,_,_,_,_,_,rfl,#[hs,v,f,b,w],λr' z e=>#[_,rfl,?_]]];simp![↓xO,↓nA (md:=[.ny]) u rfl rfl];refine#[_,_,rfl,#[(.inl rfl),z.toBase.dom,z.toBase.bg,(by rw[z.toBase.len];exact hs)],λx y hc hk=>?_];simp![↓ca];exact k r' x y z e hc hk
theorem Nl(w:Ψ.va "BEGIN"=Jp (pr sA)){o5:Option Sl}(hs:(jA es st g).9<=1000)(f:Flow es st g r)(k:pF Ψ q Z (IN es st g r h (bD (.list ((TR r).map Jx))) o6)) :
  pF Ψ (.seq (.set 5 (.comp [] ["point"] (.nm 0) .val %[.idx (.kw 3) (.glo "BEGIN")|1] (.cmp .Gt (.idx (.idx (.kw 4) (.kw 0)) (.glo "BEGIN")) (.int 0)) (.idx (.kw 0) (.int 0)))) q) Z (IN es st g r h o5 o6):=by
 have s:=f.toBase.inn sA;delta IN at k ⊢;simp![↓YG,↓uG w];refine gE f.toBase.bg ?_;simp![↓E2,↓zX];have n:((lk r sA).map λe=>pr e.1).map T.d=((lk r sA).map λe=>e.1).map λp=>T.d (pr p):=by rw[Qi,Qi];rfl
 rw[n];refine FA (λp=>T.d (pr p)) (λ(p:Pt)=>T.d (.str p.1)) (λy=>decide (0<rm r y sA)) ((lk r sA).map λe=>e.1) [] _ (λx b R z=>?_) (by show 0+((lk r sA).map λe=>e.1).9<=_;rw[QG];omega) ?_;let#[e,i,l]:=QY.mp b;have o:ZG r sA x:=xB.mpr #[e.2,by rw[<- l];exact i];have u:ZG r x sA:=(f.adj _ _).mpr (eB ((f.adj _ _).mp o));have a:Key r x:=by rw[SA,f.keys];exact vB ((f.adj _ _).mp u)
 let#[v,hv]:=u;have j:rm r x sA=v:=by unfold rm;rw[hv];rfl
 rw[j]at z;simp![↓YG,↓uG w];refine gE a ?_;simp![↓HU,↓uG w];refine bM hv ?_;simp![↓fO];by_cases d:0<v;rw[dT d]at z ⊢;exact z;rw[dF d]at z ⊢;exact z;rw[qD,sB (λp:Pt=>Jx p.1)];have m:((((lk r sA).map λe=>e.1).filter λy=>decide (0<rm r y sA)).map λp=>Jx p.1)=(TR r).map Jx:=by unfold TR Kj;rw[Qi];rfl
 rw[m];simp![↓zA];exact k
theorem Ml(w:Ψ.sp "chain_from"=LG)(hs:(jA es st g).9<=1000)(a:st.9<=11)(f:Flow es st g r)(k:∀cs,Kx (λs c=>Run r g s c g) (TR r) cs->pF Ψ q Z (IN es st g r h (bD (.list ((TR r).map Jx))) (bD (.list (cs.map IF))))) :
  pF Ψ (.seq (.set 6 (.comp [] ["first"] (.nm 0) .val %[.kw 5|1] .nop (.call "chain_from" %[.kw 4,.kw 0,.kw 3|1]))) q) Z (IN es st g r h (bD (.list ((TR r).map Jx))) o6):=by
 have hl:=(AH f).2;delta IN at k ⊢;simp![↓zA];rw[<- sB Jx (TR r)];refine LL (λs c=>Run r g s c g) (λs=>T.d (.str s)) yi (TR r) [] _ (λx z R v=>?_) (by show 0+(TR r).9<=_;omega) λcs u=>?_;simp![↓xO,↓nA (md:=[.ny]) w rfl rfl];refine#[_,_,_,_,_,rfl,#[hs,f,(SR f x z)],λc y=>?_];simp![↓zA];exact v c y;rw[qD];simp![↓im];exact k cs u
end
end
noncomputable def MG:PSp where
 run:=λy Q _=>∃(h:LB) (st:LS) (g:Str),y=[.d (.list (h.map pr)),.d (.list (st.map Jx)),.d (.str g)]/\(h.9<=126/\st.9<=11/\CW h st)/\∀x cut,Good h st g x cut->Q (.tup [.lst ((x.map IF).map T.d),.lst ((cut.map Jx).map T.d)]) []
theorem RY{Ψ:PEv}(L:Ψ.sp "rooms_of"=SE)(W:Ψ.sp "points_reached"=ND)(J:Ψ.sp "lay_chain"=JM)(I:Ψ.sp "chain_from"=LG)(Y:Ψ.sp "full_names"=YM)(G:Ψ.va "BEGIN"=Jp (pr sA))(ds Q E)(h:MG.run ds Q E):jn Ψ eF MG iF FE ds Q:=by
 let#[es,st,g,rfl,#[n,k,X],q]:=h;have o:jx=16777216:=qR;have hs:(jA es st g).9<=1000:=(HJ (g:=g) n k).sz.1;refine OA [bD (.list (es.map pr)),bD (.list (st.map Jx)),bD (.str g),Jr,Jr,Jr,Jr] ?_;refine Pl L W n k λb z M C=>?_;have b0:=AH (S8 (es:=es) (st:=st) (g:=g));delta IN;simp![↓zA];refine GI (λm l=>∃r y w,(m:Int)+out es st g r sA=12/\Flow es st g r/\CF r y w/\(∀p,p∈y↔Rch r p)/\l=IN es st g r (KC y w) Jr Jr) (12 - out es st g (jA es st g) sA).toNat #[jA es st g,b,z,(),S8,M,C,rfl] ?_;rintro m l ⟨r,y,w,R,f,x,hk,rfl⟩;have H:=AH f;by_cases v:tO g∈y;have u:=λ(Z:PEnds) o=>Ol (Ψ:=Ψ) (Z:=Z) W J hs X f x v o;unfold IN at u;delta IN;simp![dY,↓u9 x.len x.hb];refine#[(),?_];rw[dT v];refine u _ λK i a j e N F=>#[m - 1,?_,K,i,a,?_,j,N,F,rfl]
 have:=AH j;omega;have:=AH j;omega;have s:pF Ψ %[.set 5 (.comp [] ["point"] (.nm 0) .val %[.idx (.kw 3) (.glo "BEGIN")|1] (.cmp .Gt (.idx (.idx (.kw 4) (.kw 0)) (.glo "BEGIN")) (.int 0)) (.idx (.kw 0) (.int 0))),.set 6 (.comp [] ["first"] (.nm 0) .val %[.kw 5|1] .nop (.call "chain_from" %[.kw 4,.kw 0,.kw 3|1])),.ret (.tup %[.bi .sorted %[.kw 6|1],.call "full_names" %[.kw 4|1]|1])|2] (eZ Q) (IN es st g r (KC y w) Jr Jr):=by refine Nl G hs f (Ml I hs k f λS u=>?_);have O:=CJ u;have P:=IP f x.nd hk v;delta IN;simp![↓nA (md:=[]) Y rfl rfl];refine ph () λds A=>?_;simp![↓nA (md:=[]) Y rfl rfl];refine#[_,_,rfl,#[x.len,x.hb,(Qc (x.le f.toBase.dom f.toBase.bg) (by rw[f.toBase.len];exact hs)),()],λcut B sc=>?_];simp![Uh];exact#[(),q ds cut (E6 f X k x hk v u A B sc)]
 unfold IN at s;delta IN;simp![dY,↓u9 x.len x.hb];refine#[(),?_];rw[dF v];exact s
section
variable{Ψ:PEv}{E:XE}{ρ:kA}{K:TK}{a b c h:PX}{ds:List D}{n m:Bool}{L:Bool->Prop}
theorem Al{t u:Str}{x y:D}{R:Option T->Prop}{v:Vr}:cK Ψ E [] [t,u] (.tp [0,1]) (.cmp v a b) h ρ (.d (.tuple [x,y])) R=CT Ψ (.cmp v a b) E (bD x::bD y::lockA ρ) λk z=>if k=Js then NB Ψ h E z λy n _=>NC y n (R (Jp y)) else R none:=BC
theorem D2{t:T}{Q:T->Bool->Prop}:xE .Add (.d (.list ds)) n t m Q=xE .Add (.lst (ds.map T.d)) Jt t m Q:=by unfold xE;rw[fA];rfl
end
theorem IH{α:Type}{body:T->(Option T->Prop)->Prop}(g f:α->T):∀(l:List α) (h:LT) (Q:LT->Prop),(∀x∈l,∀R:Option T->Prop,R Jr->R (Jp (f x))->body (g x) R)->h.9+l.9<=jx->(∀y:List α,y.Sublist l->Q (h++y.map f))->GC body (l.map g) h Q
 |[],h,Q,_,hl,q=>by have:=q [] (QDR _);rw[wt,wK]at this;exact#[by rw[Qm]at hl;omega,this]|x::r,h,Q,hb,hl,q=>by rw[QL]at hl;refine hb x QD _ ?_ #[(),?_];exact IH g f r _ Q (λz u=>hb z (QC _ u)) () λy v=>q y (v.cons _);refine IH g f r _ Q (λz u=>hb z (QC _ u)) (by rw[QN,qE];omega) λy v=>?_;have:=q (x::y) (v.cons₂ _);rw[QT]at this;rw[qd];exact this
theorem J1{α:Type}(l:List α)(k:Nat):kE l (Jp (k:Int)) Jr=l.drop k:=by
 unfold kE;have x:HT.sIx l.9 l.9 Jr=l.length:=rfl;have h:HT.sIx l.9 0 (Jp (k:Int))=min k l.length:=by unfold HT.sIx;simp only;split<;>omega
 rw[x,h,List.take_of_length_le (by rw[QAF];omega)];by_cases c:k<=l.9;rw[Nat.min_eq_left c];rw[Nat.min_eq_right (),QDs,WA ()]
theorem b7(a b:List D):(T.tup [.lst (a.map T.d),.lst (b.map T.d)]).er=.tuple [.list a,.list b]:=by show PyData.tuple [.list (ersT (a.map T.d)),.list (ersT (b.map T.d))]=_;rw[bB,bB]
theorem Hj{a b:List D}{m:Bool}{t:T}{R:T->Prop}:FC (.tup [.lst (a.map T.d),.lst (b.map T.d)]) Js t m R=FC (.d (.tuple [.list a,.list b])) Jt t m R:=by
 have e:bA (.tup [.lst (a.map T.d),.lst (b.map T.d)]) Js=.d (.tuple [.list a,.list b]):=by show T.d (T.tup [.lst (a.map T.d),.lst (b.map T.d)]).er=_;rw[b7]
 unfold FC;rw[e];rfl
theorem OT{s:Str}(h:U3 s):qy s=true:=by unfold qy;rw[Array.all_eq_true_iff_forall_mem];intro c hc;have:=h.2 c (W6.mpr hc);exact dT ()
theorem lT:∀{l:LS}{p:Str},risingS p l=Js->(p::l).Pairwise λa b=>a.cps.toList<=b.cps.toList
 |[],p,_=>List.pairwise_singleton _ _|x::r,p,h=>by let#[z,w]:=yA h;have v:=lT w;rw[Qp,ltCps_eq,decide_eq_false_iff_not]at z;have z:=List.not_lt.mp z;refine QBS.mpr #[λy u=>?_,v];rcases QK.mp u with rfl|u;exact z;exact List.le_trans z ((QBS.mp v).1 y u)
theorem tX{l:LS}(h:zy l=Js):l.Pairwise λa b=>a.cps.toList<=b.cps.toList:=by
 cases l with|nil=>exact .nil|cons x r=>exact lT h
theorem zb{a b:Str}(h:a.cps.toList=b.cps.toList):a=b:=by let#[#[a]]:=a;let#[#[b]]:=b;cases h;rfl
theorem aX{a b:LS}(ha:zy a=Js)(hb:zy b=Js)(h:a.Perm b):a=b:=h.eq_of_pairwise (λx y _ _ u z=>zb (List.le_antisymm u z)) (tX ha) (tX hb)
theorem uU{k:Nat}:∀{l:List D},(∀x∈l,x.canLay0=Js/\x.depth<=k)->wv l=Js/\Wv l<=k
 |[],_=>by simp[wv,Wv]|x::l,h=>by let#[v,a]:=h x QD;let#[z,w]:=uU (l:=l) λy u=>h y (QC _ u);simp only[wv,Wv,v,z,Bool.and_self,true_and];omega
theorem Xc{k:Nat}{l:List D}(hk:k<60)(h:∀x∈l,x.canLay0=Js/\x.depth<=k):zF (.list l):=by let#[y,z]:=uU h;refine#[?_,?_];simp only[QAr];exact y;simp only[QCK];omega
section
variable{es:LB}{st:LS}{g:Str}
section
variable{c f:LS}{n:Str}{u:List (LS)}{i m:Nat}
inductive Ex(es:LB)(g:Str):LS->Str->LS->Prop
 |fin {c:LS}{n:Str}:(n,g)∈es->Ex es g c n (c++[n])
 |go {c f:LS}{n o:Str}:(n,o)∈es->o≠g->o∉c++[n]->Ex es g (c++[n]) o f->Ex es g c n f
theorem vN{l:LS}{x:Str}(h:l.Nodup)(y:x∉l):(l++[x]).Nodup :=
 qT.mpr #[h,Qa.mpr #[λz=>(nomatch z),Qt],λa v b hb e=>y (by rw[<- QJ.mp hb,<- e];exact v)]
theorem ze(h:Chn es st g c n):g∉c:=by
 induction h with
 |st _ _=>exact λz=>(nomatch z)
 |go _ k _ x=>exact λz=>(QW.mp z).elim x λz=>k (QJ.mp z).symm
theorem Gd(h:Ex es g c n f):n≠g->(c++[n]).Nodup->Chn es st g c n->Chn es st g f g/\f.Nodup:=by
 induction h with|fin e=>exact λk nd h=>#[.go h k e,nd]|go e k m _ y=>exact λx nd h=>y k (vN nd m) (.go h x e)
theorem ke(h:Chn es st g c n):n≠g->(c++[n]).Nodup->∀f,Ex es g c n f->∃s∈st,s≠g/\Ex es g [] s f:=by
 induction h with|st a b=>exact λ_ _ f x=>#[_,a,b,x]|@go c n m h k e v=>intro y nd f x;refine v k (qT.mp nd).1 f (.go e y (λz=>?_) x);exact(qT.mp nd).2.2 m z m QD rfl
theorem D1(h:Chn es st g f g)(nd:f.Nodup):∃s∈st,s≠g/\Ex es g [] s f:=by
 cases h with|st _ k=>exact gJ rfl k|@go c n _ h k e=>exact ke h k nd _ (.fin e)
theorem V7(h:Chn es st g c n):∀m∈c,∃d,Chn es st g d m/\∃l,c=d++m::l:=by
 induction h with
 |st _ _=>exact λm z=>(nomatch z)
 |@go c n k h _ _ x=>intro m hm;rcases QW.mp hm with z|z;let#[d,y,l,e]:=x m z;exact#[d,y,l++[n],by rw[e,qd];rfl];rw[QJ.mp z];exact#[c,h,[],rfl]
theorem oS(h:Chn es st g c n):∃d,Chn es st g d n/\(d++[n]).Nodup/\∀x∈d,x∈c:=by
 induction h with
 |st a b=>exact#[[],.st a b,Qa.mpr #[λz=>(nomatch z),Qt],λ_ z=>z]
 |@go c n m h k e p =>
  let#[d,j,nd,w]:=p;by_cases z:m∈d++[n];let#[v,r,l,o]:=V7 (Chn.go j k e) m z;refine#[v,r,?_,λx y=>?_];rw[o]at nd;have:(v++[m]).Sublist (v++m::l):=QEJ.append (QDR _) (QEJ.cons₂ _ (List.nil_sublist _));exact nd.sublist this;have:x∈d++[n]:=by rw[o];exact Qd _ y
  rcases QW.mp this with q|q;exact Qd _ (w x q);exact QR _ q;refine#[d++[n],.go j k e,vN nd z,λx y=>?_];rcases QW.mp y with q|q;exact Qd _ (w x q);exact QR _ q
theorem sI(h:Chn es st g c g):∃d,Chn es st g d g/\d.Nodup/\∀x∈d,x∈c:=by let#[d,a,b,e]:=oS h;exact#[d,a,(qT.mp b).1,e]
structure Rws(es:LB)(st:LS)(g:Str)(u:List (LS)):Prop where
 of:∀z∈u,∃f,Chn es st g f g/\z.Perm f
 to:∀f,Chn es st g f g->f.Nodup->∃z∈u,z.Perm f
def DW(u:List (LS))(n:Nat):Prop:=(∃l,(∀r∈l,r∈u)/\xC l/\l.9=n)/\∀l,(∀r∈l,r∈u)->xC l->l.9<=n
theorem uQ(h:Chn es st g f g):f≠[]:=by
 cases h with|st _ k=>exact gJ rfl k|go _ _ _=>exact λz=>by simp at z
theorem GX{u:List (LS)}(w:Rws es st g u):∀{cs:List (LS)},xC cs->(∀c∈cs,Chn es st g c g)->∃l,(∀r∈l,r∈u)/\xC l/\l.9=cs.9/\∀r∈l,∃c∈cs,∀x∈r,x∈c
 |[],_,_=>#[[],λ_ z=>(nomatch z),trivial,rfl,λ_ z=>(nomatch z)]
 |c::cs,a,h=>by
  let#[l,Z,Y,X,o]:=GX w a.2 λd K=>h d (QC _ K);let#[d,B,A,p]:=sI (h c QD);let#[z,s,j]:=w.to d B A;refine#[z::l,λr y=>?_,#[λr y x v W=>?_,Y],gV (·+1) X,λr y=>?_];rcases QK.mp y with rfl|q
  ·exact s
  exact Z r q;let#[e,b,k]:=o r y;exact a.1 e b x (p x (j.mem_iff.mp v)) (k x W);rcases QK.mp y with rfl|q
  ·exact#[c,QD,λx v=>p x (j.mem_iff.mp v)]
  let#[e,b,k]:=o r q;exact#[e,QC _ b,k]
theorem DO{u:List (LS)}(w:Rws es st g u):∀{l:List (LS)},xC l->(∀r∈l,r∈u)->∃cs,xC cs/\(∀c∈cs,Chn es st g c g)/\cs.9=l.9/\∀c∈cs,∃r∈l,∀x∈c,x∈r
 |[],_,_=>#[[],trivial,λ_ z=>(nomatch z),rfl,λ_ z=>(nomatch z)]
 |r::l,a,h=>by
  let#[cs,s,p,o,b]:=DO w a.2 λd Y=>h d (QC _ Y);let#[f,Z,j]:=w.of r (h r QD);refine#[f::cs,#[λc hc x y X=>?_,s],λc hc=>?_,gV (·+1) o,λc hc=>?_];let#[e,v,k]:=b c hc;exact a.1 e v x (j.mem_iff.mpr y) (k x X);rcases QK.mp hc with rfl|q
  ·exact Z
  exact p c q;rcases QK.mp hc with rfl|q
  ·exact#[r,QD,λx y=>j.mem_iff.mpr y]
  let#[e,v,k]:=b c q;exact#[e,QC _ v,k]
theorem lP{n:Nat}(w:Rws es st g u)(m:DW u n)(k:Int):k<=(n:Int)↔∃cs,xC cs/\(∀c∈cs,Chn es st g c g)/\k<=(cs.9:Int):=by constructor;intro h;let#[#[l,a,b,e],_]:=m;let#[cs,y,x,z,_]:=DO w b a;exact#[cs,y,x,by rw[z,e];exact h];rintro⟨cs,a,b,l⟩;let#[v,y,x,z,_]:=GX w a b;have:=m.2 v y x;omega
theorem yM:∀{a b:List (LS)}{r:LS},xC (a++r::b)->xC (a++b)/\∀d∈a++b,∀x∈d,x∉r
 |[],_,_,h=>#[h.2,λd y x v e=>h.1 d y x e v]|c::a,b,r,h=>by
  let#[k,w]:=yM (a:=a) h.2;refine#[#[λd y=>h.1 d ?_,k],λd y x v=>?_];rcases QW.mp y with z|z
  ·exact Qd _ z
  exact QR _ (QC _ z);rcases QK.mp y with rfl|z
  ·exact h.1 r (QR _ QD) x v
  exact w d z x v
def Sd(r o:LS):Bool:=!(o.any λx=>decide (x∈r))
theorem bS{r o:LS}:Sd r o=Js↔∀x∈o,x∉r:=by unfold Sd;rw[Qp,QBc];simp
def vj(u:List (LS))(i m:Nat):Prop:=(∃l,(∀r∈l,r∈u)/\xC l/\l.9=m)/\∀l,(∀r∈l,r∈u)->xC l->l.9<=m∨∀r∈l,r∈u.drop i
theorem Lk(u:List (LS)):vj u 0 0:=#[#[[],λ_ z=>(nomatch z),trivial,rfl],λ_ h _=>.inr h]
theorem Sc(h:vj u i m)(x:u.9<=i):DW u m:=by
 refine#[h.1,λl a b=>?_];rcases h.2 l a b with z|z;exact z;rw[WA x]at z;cases l with|nil=>exact Q3 _|cons r l=>exact nomatch z r QD
theorem Z6{n:Nat}{r:LS}(h:vj u i m)(X:u[i]?=Jp r)(A:r≠[])(k:DW ((u.drop (i+1)).filter (Sd r)) n):vj u (i+1) (max m (1+n)):=by
 have Y:u.drop i=r::u.drop (i+1):=by let#[lt,e]:=Qb.mp X;rw[WM lt,e]
 refine#[?_,λl a b=>?_];rcases Nat.le_total (1+n) m with c|c
 ·rw[Nat.max_eq_left c]
  exact h.1
 rw[Nat.max_eq_right c];let#[#[l,o,Z,B],_]:=k;refine#[r::l,λx v=>?_,#[λd y x v K=>?_,Z],by rw[QL];omega];rcases QK.mp v with rfl|z
 ·exact Qq X
 exact W8 (QZ.mp (o x z)).1;exact bS.mp (QZ.mp (o d y)).2 x K v;rcases h.2 l a b with z|z
 ·exact .inl (Qc z (Nat.le_max_left _ _))
 by_cases c:r∈l
 ·let#[p,q,rfl]:=List.append_of_mem c
  let#[W,s]:=yM b;have:=k.2 (p++q) (λd y=>QZ.mpr #[?_,bS.mpr (s d y)]) W;refine .inl (Qc ?_ (Nat.le_max_right _ _));rw[QN]at this ⊢;rw[QL];omega;have j:d∈p++r::q:=by rcases QW.mp y with w|w;exact Qd _ w;exact QR _ (QC _ w)
  have:=z d j;rw[Y]at this;rcases QK.mp this with e|w;subst e;cases d with|nil=>exact gJ rfl A|cons x d=>exact gJ QD (s _ y x QD)
  exact w
 refine .inr λd y=>?_;have:=z d y;rw[Y]at this;exact(QK.mp this).resolve_left λe=>c (e▸y)
noncomputable def oM:LS->List (LS)
 |[]=>[[]]|a::l=>oM l++(oM l).map (a::·)
theorem rO:∀l:LS,(oM l).9=2 ^ l.9
 |[]=>rfl|a::l=>by show(oM l++(oM l).map (a::·)).9=2 ^ (l.9+1);rw[QN,QG,rO l];omega
theorem TQ(p:Str->Bool):∀l:LS,l.filter p∈oM l
 |[]=>QD|a::l=>by show _∈oM l++(oM l).map (a::·);rw[Wl];split;exact QR _ (wE (TQ p l));exact Qd _ (TQ p l)
theorem xN{α:Type}[DecidableEq α]:∀{ks ns:List α},ks.Nodup->(∀s∈ks,s∈ns)->ks.9<=ns.9
 |[],_,_,_=>Q3 _|s::r,ns,h,hs=>by let#[v,z]:=Qa.mp h;have hm:=hs s QD;have:=xN (ks:=r) (ns:=ns.erase s) z λx y=>(W7 (λe:x=s=>v (e▸y))).mpr (hs x (QC _ y));rw[WV hm]at this;have:=WB hm;rw[QL];omega
theorem U0{ms:LS}(nd:u.Nodup)(hs:∀z∈u,zy z=Js/\z.Nodup/\∀x∈z,x∈ms):u.9<=2 ^ ms.length:=by
 rw[<- rO ms];have:=xN (ks:=u.map λz=>ms.filter λx=>decide (x∈z)) (ns:=oM ms) (QBj.mpr (nd.imp_of_mem λ{a b} w hb v e=>v ?_)) λs h=>by let#[z,_,rfl]:=QY.mp h;exact TQ _ ms
 let#[q,p,o]:=hs a w;let#[l,j,k]:=hs b hb;refine aX q l ((QBN p j).mpr λx=>#[λh=>?_,λh=>?_]);have:x∈ms.filter λy=>decide (y∈b):=by rw[<- e];exact QZ.mpr #[o x h,dT h]
 exact gy (QZ.mp this).2;have:x∈ms.filter λy=>decide (y∈a):=by rw[e];exact QZ.mpr #[k x h,dT h]
 exact gy (QZ.mp this).2
 ·rwa [QG]at this
end
end
theorem BU{c:LS}{n:Str}:BE ((c++[n]).map Jx) (-1)=Jp (.str n):=by
 have e:dO ((c++[n]).map Jx).9 (-1)=Jp c.length:=by unfold dO;rw[Gq (by decide),QG,QN,qE,Gw ()];congr 1;omega
 unfold BE;rw[e];show((c++[n]).map Jx)[c.9]?=_;rw[Qk,Qx (by rw[QG];exact QV _),QG,QBP];rfl
theorem Oe(l:LB)(p:Str×Str):((l.map pr).any λy=>qP y (pr p))=decide (p∈l):=by rw[qa,Wg,gz];constructor;rintro⟨y,x,e⟩;let#[q,z,rfl]:=QY.mp x;rw[vS,gz]at e;exact e▸z;exact λh=>#[pr p,wE h,by rw[vS];exact dT rfl]
theorem Vc{l:LB}(h:∀p∈l,qy p.1=Js/\qy p.2=Js):zF (.list (l.map pr)):=Xc (k:=2) (by decide) λx y=>by let#[p,z,rfl]:=QY.mp y;let#[v,u]:=h p z;simp[pr,QAr,wv,QCK,Wv,v,u]
theorem xi{a b:Str}{es:LB}{L:Bool->Prop}(z:zF (pr (a,b)))(x:zF (.list (es.map pr))):HD .In (.d (.tuple [.str a,.str b])) (.d (.list (es.map pr))) L=L (decide ((a,b)∈es)):=by show(((VB (pr (a,b))=Js/\(es.map pr).all VB=Js)∨(zF (pr (a,b))/\zF (.list (es.map pr))))/\L ((es.map pr).any λy=>qP y (pr (a,b))))=_;rw[Oe];exact gx #[λh=>h.2,λh=>#[.inr #[z,x],h]]
theorem rh{ss:LS}{n:Bool}{Q:T->Bool->Prop}(h:ss.9<64)(q:∀x:LS,x.Perm ss->zy x=Js->Q (.lst ((x.map Jx).map T.d)) Js):IK .sorted [(.d (.list (ss.map Jx)),n)] Q:=by unfold IK HB;rw[fA];exact .inl #[_,ss,rfl,oA _,h,q]
structure GrO(es:LB)(g:Str)(ns c:LS)(n:Str)(k:Nat):Prop where
 el:es.9<64
 ei:∀p∈es,p.1∈ns/\p.2∈ns
 ok:∀s∈ns,U3 s
 gi:g∈ns
 nd:(c++[n]).Nodup
 ng:g∉c++[n]
 ci:∀x∈c++[n],x∈ns
 sz:ns.9<=(c++[n]).9+1+k
 s5:ns.9<=5
 k3:k<=3
def Dj(es:LB)(g:Str)(c:LS)(n:Str)(fs:List (LS)):Prop:=(∀r∈fs,zy r=Js/\∃f,Ex es g c n f/\r.Perm f)/\∀f,Ex es g c n f->∃r∈fs,r.Perm f
def bG:Nat->Nat
 |0=>1|k+1=>1+(k+1) * bG k
theorem Y2:∀j,j<=3->bG j<=16:=by decide
noncomputable def jB(k:Nat):PSp where
 md:=[]
 run:=λu Q _=>∃(x:LB) (g:Str) (c:LS) (n:Str) (y:LS),u=[.d (.list (x.map pr)),.d (.str g),.d (.list ((c++[n]).map Jx))]/\GrO x g y c n k/\∀fs,Dj x g c n fs->fs.9<=bG k->Q (.lst ((fs.map tpS).map T.d)) []
 mono:=λh _ z=>by let#[x,g,c,n,y,e,l,q]:=z;exact#[x,g,c,n,y,e,l,λfs a b=>h _ _ (q fs a b)]
noncomputable def y0(es:LB)(g:Str)(ch:LS)(fs:List (LS))(o4:Option Sl):kA:=[bD (.list (es.map pr)),bD (.str g),bD (.list (ch.map Jx)),oW (.lst ((fs.map tpS).map T.d)),o4]
section
variable{Ψ:PEv}{Z:PEnds}{es:LB}{g n:Str}{ns c:LS}{fs:List (LS)}{k:Nat}
def xm(Ψ:PEv)(k:Nat):Prop:=k=0∨∃j,k=j+1/\Ψ.sp "_law_grown"=jB j
theorem GrO.len(w:GrO es g ns c n k){l:LS}(nd:l.Nodup)(h:∀x∈l,x∈ns/\x≠g/\x∉c++[n]):l.9<=k:=by
 have:=oG (ks:=l++g::(c++[n])) (ns:=ns) (qT.mpr #[nd,Qa.mpr #[w.ng,w.nd],λa y b hb e=>?_]) λx u=>?_;have v:=w.sz;rw[QN,QL]at this;omega;subst e;rcases QK.mp hb with z|z;exact(h a y).2.1 z;exact(h a y).2.2 z;rcases QW.mp u with z|z
 ·exact(h x z).1
 rcases QK.mp z with z|z
 ·rw[z];exact w.gi
 exact w.ci x z
theorem gl(hk:xm Ψ k)(w:GrO es g ns c n k){o:Str}(i:o∈ns)(X:(n,o)∈es)(hl:fs.9<=1000)
  (y:(o≠g->o∈c++[n])->Z.nx (y0 es g (c++[n]) fs (bD (.str o))))
  (p:o≠g->o∉c++[n]->∀j u,k=j+1->Dj es g (c++[n]) o u->u.9<=bG j->Z.nx (y0 es g (c++[n]) (fs++u) (bD (.str o)))) :
  pF Ψ VC Z (y0 es g (c++[n]) fs (bD (.str o))):=by
 by_cases a:o=g;have y:=y λz=>gJ a z;unfold y0 at y ⊢;delta VC;simp![DE,uD,VB,true_or];rw[dT a];simp![↓zA];exact y;by_cases b:o∈c++[n]
 ·have y:=y λ_=>b
  unfold y0 at y ⊢;delta VC;simp![DE,uD,VB,true_or];rw[dF a,dT b];simp![↓zA];exact y
 have e:=w.len (l:=[o]) (Qa.mpr #[λz=>(nomatch z),Qt]) λx v=>by rw[QJ.mp v];exact#[i,a,b]
 rcases hk with rfl|⟨j,rfl,h⟩
 exact gJ e (Nat.not_succ_le_zero 0);have f:GrO es g ns (c++[n]) o j:=#[w.el,w.ei,w.ok,w.gi,vN w.nd b,λz=>(QW.mp z).elim w.ng λz=>a (QJ.mp z).symm,λx v=>(QW.mp v).elim (w.ci x) λz=>by rw[QJ.mp z];exact i,by have:=w.sz;rw[QN (as:=c++[n]),qE];omega,w.s5,by have:=w.k3;omega]
 have r:=oG w.nd w.ci;have q:=w.s5;delta y0;delta VC;simp![DE,uD,VB,true_or,↓nA (md:=[]) h rfl rfl,↓D2];rw[dF a,dF b];simp![↓nA (md:=[]) h rfl rfl,↓D2];refine#[(),by rw[QG];omega,es,g,c++[n],o,ns,by rw[Qk (l₁:=c++[n])];rfl,f,λu e m=>#[rfl,?_]];have s:=Qc m (Y2 j f.k3);simp![↓zA];refine#[by rw[QG,QG];omega,?_];have:=p a b j u rfl e m;unfold y0 at this;rw[Qk (l₁:=fs)]at this;exact this
noncomputable def fW(g:Str)(ch:LS)(o:Str):Bool:=!decide (o=g)&&!decide (o∈ch)
theorem IJ{ch:LS}{o:Str}:fW g ch o=Js↔o≠g/\o∉ch:=by unfold fW;rw[Qf,Qp,Qp,decide_eq_false_iff_not,decide_eq_false_iff_not]
theorem Rh(hk:xm Ψ k)(w:GrO es g ns c n k){o4:Option Sl}{Q:T->LT->Prop}(hl:fs.9<=1)(h0:∀r∈fs,zy r=Js/\∃f,Ex es g c n f/\r.Perm f)(h1:(n,g)∈es->∃r∈fs,r.Perm (c++[n]))
  (q:∀fs,Dj es g c n fs->fs.9<=bG k->Q (.lst ((fs.map tpS).map T.d)) []):pF Ψ ZE (eZ Q) (y0 es g (c++[n]) fs o4):=by
 have el:=w.el;delta y0;delta ZE;simp![↓zA];rw[<- sB pr es];refine FA (λ(p:Str×Str)=>T.d (pr p)) (λp=>T.d (.str p.2)) (λp=>decide (p.1=n)) es _ _ (λx B R C=>?_) (by rw[Qm];omega) ?_;simp![↓fO,↓A7,BU];by_cases h:x.1=n;rw[dT h]at C ⊢;exact C;rw[dF h]at C ⊢;exact C;rw[qD,show(es.filter λp=>decide (p.1=n)).map (λp=>T.d (.str p.2))=((((es.filter λp=>decide (p.1=n)).map λp=>p.2).map Jx).map T.d) by rw[Qi,Qi];rfl];refine Se (by rw[QG];exact QAR (Wx _ _) el) λi nd m _=>?_;have m:∀o,o∈i↔(n,o)∈es:=λo=>by rw[m,QY];constructor;rintro⟨p,hp,rfl⟩;let#[a,b]:=QZ.mp hp;have:=gy b;rw[<- this];exact a;exact λh=>#[(n,o),QZ.mpr #[h,dT rfl],rfl]
 have bl:k≠0∨i.filter (fW g (c++[n]))=[]:=by
  rcases Nat.eq_zero_or_pos k with e|e;refine .inr (qt.mp ?_);have:=w.len (nd.filter (fW g (c++[n]))) λx B=>by let#[a,b]:=QZ.mp B;exact#[(w.ei _ ((m x).mp a)).2,IJ.mp b]
  omega;exact .inl ()
 have bk:=w.len (nd.filter (fW g (c++[n]))) λx B=>by let#[a,b]:=QZ.mp B;exact#[(w.ei _ ((m x).mp a)).2,IJ.mp b]
 have b16:=Y2 k w.k3;have k3:=w.k3;simp![↓zA];rw[<- sB Jx i];refine FB (λ(s:Str)=>T.d (.str s)) (λl G=>∃fs o4,(∀o∈l,o∈i)/\fs.9+(l.filter (fW g (c++[n]))).9 * bG (k - 1)<=1+(i.filter (fW g (c++[n]))).9 * bG (k - 1)/\(∀r∈fs,zy r=Js/\∃f,Ex es g c n f/\r.Perm f)/\(∀f,Ex es g c n f->(∃r∈fs,r.Perm f)∨∃o∈l,(n,o)∈es/\o≠g/\o∉c++[n]/\Ex es g (c++[n]) o f)/\G=y0 es g (c++[n]) fs o4) ?_ ?_ _ _ #[fs,_,λ_ z=>z,(),h0,λf Y=>?_,rfl];rintro G ⟨u,p4,_,v,F,E,rfl⟩;delta y0;simp![↓zA];refine q u #[F,λf Y=>(E f Y).resolve_right λ#[_,z,_]=>(nomatch z)] ?_;rw[List.filter_nil,Qm,Nat.zero_mul]at v;cases k with
 |zero =>
  have:(i.filter (fW g (c++[n]))).9=0:=()
  rw[this,Nat.zero_mul]at v;exact v
 |succ k=>have:=Nat.mul_le_mul_right (bG k) bk;show u.9<=1+(k+1) * bG k;have v:u.9+0<=1+(i.filter (fW g (c++[n]))).9 * bG k:=v;omega
 rintro o l G N S ⟨u,p4,P,v,F,E,rfl⟩;have oz:=P o QD;have M:=(m o).mp oz;have l0:u.9<=1000:=by have:=Nat.mul_le_mul bk (Y2 (k - 1) ());omega
 refine gl hk w (w.ei _ M).2 M l0 (λz=>S _ #[u,_,λo O=>P o (QC _ O),?_,F,λf Y=>?_,rfl]) λa b j H ej g1 g2=>S _ #[u++H,_,λo O=>P o (QC _ O),?_,λr hr=>?_,λf Y=>?_,rfl];rw[List.filter_cons_of_neg (λh=>(IJ.mp h).2 (z (IJ.mp h).1))]at v;exact v;rcases E f Y with x|⟨y,X,I,A,K,W⟩
 ·exact .inl x
 rcases QK.mp X with rfl|X
 ·exact gJ (z A) K
 exact .inr #[y,X,I,A,K,W];rw[List.filter_cons_of_pos (IJ.mpr #[a,b]),QL,QDW]at v;subst ej;rw[QN];have v:u.9+((l.filter (fW g (c++[n]))).9 * bG j+bG j)<=1+(i.filter (fW g (c++[n]))).9 * bG j:=v;show u.9+H.9+(l.filter (fW g (c++[n]))).9 * bG j<=1+(i.filter (fW g (c++[n]))).9 * bG j;omega;rcases QW.mp hr with x|x
 ·exact F r x
 let#[s1,f,f1,f2]:=g1.1 r x;exact#[s1,f,.go M a b f1,f2];rcases E f Y with⟨r,L,J⟩| ⟨y,X,I,A,K,W⟩
 ·exact .inl #[r,Qd _ L,J]
 rcases QK.mp X with rfl|X
 ·let#[r,L,J]:=g1.2 f W
  exact .inl #[r,QR _ L,J]
 exact .inr #[y,X,I,A,K,W];cases Y with|fin e=>exact .inl (h1 e)|go e a b x=>exact .inr #[_,(m _).mpr e,e,a,b,x]
theorem vP(hk:xm Ψ k)(ds Q E)(h:(jB k).run ds Q E):ds.9=jD.length/\pF Ψ OF (YC (jB k) jD.length Q) (LA cI (jB k).md ds):=by
 let#[es,g,c,n,ns,rfl,w,q]:=h;have j:=oG w.nd w.ci;have i:=w.s5;have ok:∀s∈ns,qy s=true:=λs hs=>OT (w.ok s hs);have f:zF (pr (n,g)):=AD (ok n (w.ci n (QR _ QD))) (ok g w.gi);have b:zF (.list (es.map pr)):=Vc λp v=>#[ok _ (w.ei p v).1,ok _ (w.ei p v).2]
 refine OA [bD (.list (es.map pr)),bD (.str g),bD (.list ((c++[n]).map Jx)),Jr,Jr] ?_;delta OF;simp![BU,↓xi f b];refine#[(),(),?_];by_cases e:(n,g)∈es;rw[dT e];simp![↓zA];refine rh () λy u a=>?_;simp![↓zA];refine#[(),?_];exact Rh (fs:=[y]) hk w (QV _) (λr x=>by rw[QJ.mp x];exact#[a,_,.fin e,u]) (λ_=>#[y,QD,u]) q;rw[dF e];simp![↓zA];exact Rh (fs:=[]) hk w (Q3 _) (λr x=>(nomatch x)) (λz=>gJ z e) q
end
section
variable{Ψ:PEv}{E:XE}{ρ:kA}{a h:PX}{z:T->kA->Prop}{L:Bool->kA->Prop}
theorem jf:XI Ψ E z (.sset a) ρ=NB Ψ (.sset a) E ρ λx n y=>NC x n (z x y):=rfl
theorem Hi{t:Str}{x:T}{R:Option T->Prop}:cK Ψ E [] [t] (.nm 0) (.not a) h ρ x R=CT Ψ (.not a) E (Jp (.ny x)::lockA ρ) λk u=>if k=Js then NB Ψ h E u λy n _=>NC y n (R (Jp y)) else R none:=rfl
theorem zm{f:Bi}:CT Ψ (.bi f a) E ρ L=NB Ψ (.bi f a) E ρ λt _ x=>Nj t λb=>L b x:=rfl
theorem um{d:D}{xs:List (T×Bool)}{C:LT->Prop}:rB [] ((.lst [.d d],Js)::xs) C=rB [] xs λts=>C (.d (.list [d])::ts):=bm (ds:=[d])
theorem Fo{r:PT}{Z:PEnds}{i:Nat}:UM Ψ E r Z i (.lst []) Js ρ=lB Ψ E r Z (ρ.set i (bD (.list []))):=Jm (ds:=[])
theorem ig{x:D}{n:Bool}{α:Type}{b:kA->(α->kA->Prop)->Prop}{K:α->kA->Prop}:sq (bA (.d x) n) ρ b K=b ρ K:=by rw[fA];rfl
theorem kc{i:Int}{Q:Option Int->Prop}:kH (T.d (.int i)).er Q=Q (Jp i):=rfl
end
theorem GU{x:List (LS)}{n:Bool}{Q:T->Bool->Prop}(h:x.9<306)(u:∀r∈x,r≠[])(q:∀y:List (LS),y.Nodup->(∀z,z∈y↔z∈x)->y.9<64/\Q (.lst ((y.map tpS).map T.d)) Js):vL (bA (.d (.list (x.map tpS))) n).vw Q:=by rw[fA];exact .inr #[_,x,rfl,oA _,#[h,u],q]
structure AlO(es:LB)(st:LS)(g:Str)(ns:LS):Prop where
 el:es.9<64
 ei:∀p∈es,p.1∈ns/\p.2∈ns
 ok:∀s∈ns,U3 s
 gi:g∈ns
 si:∀s∈st,s∈ns
 sl:st.9<=11
 s5:ns.9<=5
def Co(ns:LS)(g:Str)(h:List (LS)):Prop:=h.Nodup/\h.9<64/\∀z∈h,(z≠[]/\z.9<=9)/\∀x∈z,x∈ns.filter λy=>!decide (y=g)
noncomputable def ZM:PSp where
 run:=λz Q _=>∃(x:LB) (st:LS) (g:Str) (y:LS),z=[.d (.list (x.map pr)),.d (.list (st.map Jx)),.d (.str g)]/\AlO x st g y/\∀h,Rws x st g h->Co y g h->Q (.lst ((h.map tpS).map T.d)) []
noncomputable def n9(es:LB)(st:LS)(g:Str)(fs:List (LS))(o4:Option Sl):kA:=[bD (.list (es.map pr)),bD (.list (st.map Jx)),bD (.str g),bD (.list (fs.map tpS)),o4]
section
variable{Ψ:PEv}{Z:PEnds}{es:LB}{g:Str}{ns st:LS}{fs:List (LS)}{k:Nat}
theorem pS(w:∀p∈es,p.1∈ns/\p.2∈ns)(u:∀s∈st,s∈ns){c:LS}{n:Str}(h:Chn es st g c n):n∈ns/\∀x∈c,x∈ns:=by
 induction h with
 |st a _=>exact#[u _ a,λ_ z=>(nomatch z)]
 |go _ _ e y=>exact#[(w _ e).2,λx v=>(QW.mp v).elim (y.2 x) λz=>by rw[QJ.mp z];exact y.1]
theorem Tl(h:Ψ.sp "_law_grown"=jB 3)(w:AlO es st g ns){s:Str}(hs:s∈st)(hl:fs.9<=1000)(u:s=g->Z.nx (n9 es st g fs (bD (.str s))))
  (e:s≠g->∀y,Dj es g [] s y->y.9<=16->Z.nx (n9 es st g (fs++y) (bD (.str s)))) :
  pF Ψ PF Z (n9 es st g fs (bD (.str s))):=by
 by_cases a:s=g;have u:=u a;unfold n9 at u ⊢;delta PF;simp![↓zA];rw[dT a];simp![↓zA];exact u;have b:GrO es g ns [] s 3:=#[w.el,w.ei,w.ok,w.gi,Qa.mpr #[λz=>(nomatch z),Qt],λz=>a (QJ.mp z).symm,λx f=>by rw[QJ.mp f];exact w.si s hs,w.s5,w.s5,QV _]
 delta n9;delta PF;simp![↓nA (md:=[]) h rfl rfl,↓D2];rw[dF a];simp![↓nA (md:=[]) h rfl rfl,↓D2,↓um];refine#[(),es,g,[],s,ns,rfl,b,λy i v=>#[rfl,?_]];have v:y.9<=16:=v;simp![↓D2];refine#[by rw[QG,QG];omega,?_];have:=e a y i v;unfold n9 at this;rw[Qk]at this;exact this
theorem Cc(h:Ψ.sp "_law_grown"=jB 3)(ds Q E)(h0:ZM.run ds Q E):jn Ψ RN ZM OU OO ds Q:=by
 let#[es,st,g,ns,rfl,w,q]:=h0;have i:jx=16777216:=qR;have sl:=w.sl;have s5:=w.s5;refine OA [bD (.list (es.map pr)),bD (.list (st.map Jx)),bD (.str g),Jr,Jr] ?_;delta RN;simp![↓Fo];refine#[(),?_];rw[<- sB Jx st];refine FB (λ(s:Str)=>T.d (.str s)) (λl G=>∃fs o4,(∀s∈l,s∈st)/\fs.9+l.9 * 16<=st.9 * 16/\(∀r∈fs,zy r=Js/\∃s∈st,s≠g/\∃f,Ex es g [] s f/\r.Perm f)/\(∀s∈st,s≠g->s∈l∨∀f,Ex es g [] s f->∃r∈fs,r.Perm f)/\G=n9 es st g fs o4) ?_ ?_ _ _ #[[],_,λ_ z=>z,by rw[Qm];omega,λ_ z=>(nomatch z),λs hs _=>.inl hs,rfl];rintro G ⟨fs,p4,_,O,F,C,rfl⟩;delta n9;simp![↓jf];have B:∀r∈fs,zy r=Js/\∃f,Chn es st g f g/\f.Nodup/\r.Perm f:=λr Y=>by let#[a,s,J,A,f,f1,f2]:=F r Y;let#[v,W]:=Gd f1 A (Qa.mpr #[λz=>(nomatch z),Qt]) (.st J A);exact#[a,f,v,W,f2]
 refine GU (by rw[Qm]at O;omega) (λr Y z=>?_) λR nd m=>?_;let#[_,f,v,_,u]:=B r Y;rw[z]at u;exact uQ v u.symm.eq_nil;have p:R.9<64:=by
  have:=U0 (ms:=ns) nd λz i=>by let#[a,f,v,W,u]:=B z ((m z).mp i);exact#[a,u.nodup_iff.mpr W,λx X=>(pS w.ei w.si v).2 x (u.mem_iff.mp X)]
  have:2 ^ ns.9<=2 ^ 5:=Nat.pow_le_pow_right (by decide) s5;omega
 refine#[p,?_];simp![↓zA];refine q R #[λz i=>?_,λf h1 h2=>?_] #[nd,p,λz i=>?_];let#[_,f,v,_,u]:=B z ((m z).mp i);exact#[f,v,u];let#[s,J,A,x]:=D1 h1 h2;let#[r,n,j]:=((C s J A).resolve_left λz=>(nomatch z)) f x;exact#[r,(m r).mpr n,j];let#[_,f,v,W,u]:=B z ((m z).mp i);refine#[#[λe=>?_,?_],λx X=>QZ.mpr #[(pS w.ei w.si v).2 x (u.mem_iff.mp X),?_]];rw[e]at u;exact uQ v u.symm.eq_nil;have:=oG W (pS w.ei w.si v).2;have:=u.length_eq;omega;rw[Qp,decide_eq_false_iff_not];intro e;rw[e]at X;exact ze v (u.mem_iff.mp X);rintro s l G N S ⟨fs,p4,P,O,F,C,rfl⟩;rw[QL]at O;have hs:=P s QD;refine Tl h w hs () (λz=>S _ #[fs,_,λo L=>P o (QC _ L),(),F,λt I K=>?_,rfl]) λz gs H g2=>S _ #[fs++gs,_,λo L=>P o (QC _ L),by rw[QN];omega,λr Y=>?_,λt I K=>?_,rfl];exact(C t I K).imp_left λy=>(QK.mp y).resolve_left λe=>K (e.trans z);rcases QW.mp Y with y|y
 ·exact F r y
 let#[a,f,b]:=H.1 r y;exact#[a,s,hs,z,f,b];rcases C t I K with y|y
 ·rcases QK.mp y with rfl|y
  ·exact .inr λf M=>by let#[r,n,j]:=H.2 f M;exact#[r,QR _ n,j]
  exact .inl y
 exact .inr λf M=>by let#[r,n,j]:=y f M;exact#[r,Qd _ n,j]
end
noncomputable def dB(k:Nat):PSp where
 md:=[]
 run:=λv Q _=>∃(y:List (LS)) (u:LS),v=[.d (.list (y.map tpS))]/\(y.9<64/\u.9<=k/\∀z∈y,(z≠[]/\z.9<=9)/\∀x∈z,x∈u)/\∀n:Nat,DW y n->Q (.d (.int (n:Int))) []
 mono:=λh _ z=>by let#[y,u,e,l,q]:=z;exact#[y,u,e,l,λn a=>h _ _ (q n a)]
noncomputable def Xh(h:List (LS))(m:Nat)(x o3 o4:Option Sl):kA:=[bD (.list (h.map tpS)),bD (.int (m:Int)),x,o3,o4]
def Sm(Ψ:PEv)(k:Nat):Prop:=k=0∨∃j,k=j+1/\Ψ.sp "_law_most"=dB j
theorem ye{α:Type}(l:List α)(i:Nat):kE l (Jp ((i:Int)+1)) Jr=l.drop (i+1):=by
 have e:((i:Int)+1)=((i+1:Nat):Int):=()
 rw[e];exact J1 l (i+1)
section
variable{Ψ:PEv}{Z:PEnds}{y:List (LS)}{ms:LS}{k m:Nat}
theorem Hk(hk:Sm Ψ k)(I:y.9<64)(G:ms.9<=k)(g:∀z∈y,(z≠[]/\z.9<=9)/\∀x∈z,x∈ms){i:Nat}{r:LS}(A:y[i]?=Jp r){o4:Option Sl}
  (q:∀n o4,DW ((y.drop (i+1)).filter (Sd r)) n->Z.nx (Xh y (max m (1+n)) (bD (.int (i:Int))) (bD (tpS r)) o4)) :
  pF Ψ iG Z (Xh y m (bD (.int (i:Int))) (bD (tpS r)) o4):=by
 have l:jx=16777216:=qR;let#[#[K,_],rm]:=g r (Qq A);have W:∃x,x∈r:=by
  cases r with|nil=>exact gJ rfl K|cons x r=>exact#[x,QD]
 let#[w,u]:=W;have E:=WB (rm w u);rcases hk with rfl|⟨j,rfl,h⟩
 omega;have F:(y.drop (i+1)).9<=y.length:=by rw[QAF];omega
 delta Xh;delta iG;simp![↓T7 (b:=.bin .Add (.kw 2) (.int 1)) rfl,↓ig,kc];rw[ye,<- List.map_drop,<- sB tpS];refine FA (λo=>T.d (tpS o)) (λo=>T.d (tpS o)) (Sd r) (y.drop (i+1)) _ _ (λo B R v=>?_) (by rw[Qm];omega) ?_;delta tpS;simp![↓Hi,↓zm];rw[<- sB Jx o];refine AC (λs=>T.d (.str s)) (λs=>T.d (.bool (decide (s∈r)))) o _ _ (λs hs R2 f=>?_) ?_ ?_;simp![QT,wt,DE,uD,VB,true_or];exact f;have:=(g o (W8 B)).1.2;rw[Qm];omega;rw[qD,show o.map (λs=>T.d (.bool (decide (s∈r))))=((o.map λs=>PyData.bool (decide (s∈r))).map T.d) by rw[Qi];rfl,F8];refine#[o.map λs=>decide (s∈r),by rw[Qi];rfl,?_];have e:(o.map λs=>decide (s∈r)).any id=o.any λx=>decide (x∈r):=by rw[List.any_map];rfl
 rw[e];show if Sd r o=Js then _ else _
 split;rename_i c;rw[Gw c]at v;exact v;rename_i c;rw[Gq c]at v;exact v;rw[qD,sB tpS];simp![↓nA (md:=[]) h rfl rfl];refine#[(y.drop (i+1)).filter (Sd r),ms.filter λx=>!decide (x∈r),rfl,#[QAR (Wx _ _) (),?_,λz l=>?_],λn C=>#[rfl,?_]];have:(ms.filter λx=>!decide (x∈r)).9<ms.length:=List.length_filter_lt_length_iff_exists.mpr #[w,rm w u,by rw[dT u];decide];omega;let#[Y,X]:=QZ.mp l;let#[a,b]:=g z (W8 Y);exact#[a,λx p=>QZ.mpr #[b x p,by rw[dF (bS.mp X x p)];rfl]];simp![↓zA];have e:(if(1:Int)+(n:Int) > (m:Int) then(1:Int)+(n:Int) else(m:Int))=((max m (1+n):Nat):Int):=by split<;>omega
 rw[e];exact q n _ C
theorem RT(hk:Sm Ψ k)(ds Q E)(h:(dB k).run ds Q E):ds.9=SD.length/\pF Ψ JH (YC (dB k) SD.length Q) (LA YK (dB k).md ds):=by
 let#[y,ms,rfl,#[K,W,b],q]:=h;refine OA [bD (.list (y.map tpS)),Jr,Jr,Jr,Jr] ?_;delta JH;simp![↓zA];refine FB (λ(p:D×Nat)=>T.d (.tuple [.int (p.2:Int),p.1])) (λl v=>∃i m s o o4,l=(y.map tpS).zipIdx.drop i/\vj y i m/\v=Xh y m s o o4) ?_ ?_ _ _ #[0,0,_,_,_,rfl,Lk y,rfl];rintro v ⟨i,m,g,f,a,e,w,rfl⟩;have e:=gV wm e;rw[QAF,QAe,QG,Qm]at e;delta Xh;simp![↓zA];exact q m (Sc w ());rintro⟨x,j⟩ l v N Y ⟨i,m,g,f,a,e,w,rfl⟩;have u:((y.map tpS).zipIdx.drop i)[0]?=Jp (x,j):=by rw[<- e];rfl
 rw[QBQ,Nat.add_zero,QCc,Qg,Ws]at u;cases z:y[i]? with
 |none=>rw[z]at u;cases u|some r =>
  rw[z]at u;cases u;refine CC.mk rfl ?_;have A:l=(y.map tpS).zipIdx.drop (j+1):=by have:=gV List.tail e;rw[List.tail_drop]at this;exact this
  exact Hk (m:=m) (i:=j) (r:=r) (o4:=a) hk K W b z λn o4 X=>Y _ #[j+1,_,_,_,_,A,Z6 w z (b r (Qq z)).1.1 X,rfl]
end
theorem MH{Ψ:PEv}{k:Nat}(h:Ψ.sp "_law_grown"=jB k)(ds Q E)(z:(jB (k+1)).run ds Q E):ds.9=jD.length/\pF Ψ OF (YC (jB (k+1)) jD.length Q) (LA cI (jB (k+1)).md ds):=vP (.inr #[k,rfl,h]) ds Q E z
theorem yF{Ψ:PEv}{k:Nat}(h:Ψ.sp "_law_most"=dB k)(ds Q E)(z:(dB (k+1)).run ds Q E):ds.9=SD.length/\pF Ψ JH (YC (dB (k+1)) SD.length Q) (LA YK (dB (k+1)).md ds):=RT (.inr #[k,rfl,h]) ds Q E z
theorem Chn.sub{es es':LB}{y x:LS}{g:Str}(v:∀e∈es,e∈es')(u:∀s∈y,s∈x){c:LS}{n:Str}(h:Chn es y g c n):Chn es' x g c n:=by
 induction h with|st a b=>exact .st (u _ a) b|go _ b c z=>exact .go z b (v _ c)
section
variable{es es':LB}{st:LS}{g:Str}{cs y:List (LS)}{v u:LS}{n:Nat}
theorem PV(hs:∀p,p∈es'↔p∈es)(w:Rws es' st g y)(m:DW y n)(h:Good es st g cs v):cs.9=n:=by have k:=(lP w m (cs.9:Int)).mpr #[cs,h.apart,λc hc=>Chn.sub (λe x=>(hs e).mpr x) (λ_ z=>z) (h.chn c hc).1,QCt _];let#[f,a,b,l]:=(lP w m (n:Int)).mp (QCt _);have:=tW a (λc hc=>Chn.sub (λe x=>(hs e).mp x) (λ_ z=>z) (b c hc)) h.led;have:=h.len;omega
theorem B6{a:Str}(h:Led es st g u a):a≠g/\∃c,Chn es st g c a/\∀x∈c++[a],x∉u:=by
 induction h with|st h k=>let#[w,e]:=KB.mp k;exact#[w,[],.st h w,λx f=>by rw[QJ.mp f];exact e]|@ed a b _ m k i=>let#[w,e]:=KB.mp k;let#[o,c,l,j]:=i;exact#[w,c++[a],.go l o m,λx f=>(QW.mp f).elim (j x) λz=>by rw[QJ.mp z];exact e]
theorem BR(hs:∀p,p∈es'↔p∈es)(w:Rws es' st g y):(¬ ∃a,(a,g)∈es/\Led es st g u a)↔∀z∈y,∃x∈u,x∈z:=by constructor;intro hl z q;let#[f,s,r]:=w.of z q;let#[x,i,b]:=xQ (Chn.sub (λe j=>(hs e).mp j) (λ_ z=>z) s) hl;exact#[x,b,r.mem_iff.mpr i];rintro h ⟨a,e,l⟩;let#[k,c,K,W]:=B6 l;let#[d,Z,Y,X]:=sI (Chn.go (Chn.sub (λe j=>(hs e).mpr j) (λ_ z=>z) K) k ((hs _).mpr e));let#[z,o,m]:=w.to d Z Y;let#[x,i,b]:=h z o;exact W x (X x (m.mem_iff.mp b)) i
theorem C2:((y.map λz=>(u.map λx=>decide (x∈z)).any id).all id=Js)↔∀z∈y,∃x∈u,x∈z:=by rw[qN];constructor;intro h z w;have:=h _ (wE w);let#[b,hb,e]:=Wg.mp this;let#[x,f,rfl]:=QY.mp hb;exact#[x,f,gy e];intro h b hb;let#[z,w,rfl]:=QY.mp hb;let#[x,a,k]:=h z w;exact Wg.mpr #[_,wE a,dT k]
end
theorem Sa{ns:LS}{es:LB}{st:LS}{g:Str}(w:J9 ns es st g):CW es st:=by let#[a,h,k,x,v,z,u]:=w;exact#[λs hs=>OT (h s (z s hs)),λe y=>#[OT (h _ (x e y).1),OT (h _ (x e y).2)]]
theorem Nc{bs:List Bool}{n:Bool}{Q:T->Bool->Prop}(q:Q (.d (.bool (bs.all id))) Jt):IK .all [(.lst ((bs.map PyData.bool).map T.d),n)] Q:=by unfold IK HB;rw[cC];exact#[_,bs,rfl,oA _,q]
noncomputable def sZ(sc:Sl)(ns:LS)(es:LB)(st:LS)(g:Str)(v:Int)(h:List (LS))(o7 o8 o9:Option Sl):kA:=[Jp sc,bD (.list (ns.map Jx)),bD (.list (es.map pr)),bD (.list (st.map Jx)),bD (.str g),bD (.int v),bD (.list (h.map tpS)),o7,o8,o9]
section
variable{Ψ:PEv}{Z:PEnds}{sc:Sl}{ns:LS}{es es':LB}{st:LS}{g:Str}{v:Int}{h:List (LS)}{o7 o8 o9:Option Sl}
theorem Ak(b:Ψ.sp "_law_mixed"=MB){q:PT}{t:Nat}(W:t<4)(K:ns.9<=5)(k:∀u:LS,u.Sublist ns->pF Ψ q Z (sZ sc ns es st g v h (bD (.int (t:Int))) (bD (.list (u.map Jx))) o9)) :
  pF Ψ (.seq (.set 8 (.comp [] ["_law_k","_law_name"] (.tp [0,1]) .enum %[.kw 1|1] (.cmp .Eq (.bin .Mod (.call "_law_mixed" %[.kw 7,.bin .Add (.bin .Add (.int 400) (.bin .Mult (.int 9) (.kw 9))) (.kw 0)|1]) (.int 3)) (.int 0)) (.kw 1))) q) Z (sZ sc ns es st g v h (bD (.int (t:Int))) o8 o9):=by
 delta sZ at k ⊢;simp![↓zA];refine IH (λ(p:D×Nat)=>T.d (.tuple [.int (p.2:Int),p.1])) (λp=>T.d p.1) (ns.map Jx).zipIdx [] _ (λx r R n m=>?_) (by show 0+(ns.map Jx).zipIdx.9<=_;rw[QAe,QG];omega) λu o=>?_;let#[y,i]:=x;let#[a,X]:=CQ r;rw[QG]at a;have a:i<ns.length:=a;simp![↓Al,↓nA (md:=[]) b rfl rfl];refine#[UK.ok (.inl #[by decide,by decide]),QEI OD #[#[(),()],λw Y=>?_]];simp![↓zA];split;exact m;exact n;have e:∃z:LS,z.Sublist ns/\u.map (λp=>p.1)=z.map Jx:=by have f:=o.map we;rw[List.zipIdx_map_fst]at f;let#[z,b,s]:=List.sublist_map_iff.mp f;exact#[z,b,s]
 let#[z,l,j]:=e;rw[qD,sB (λp:D×Nat=>p.1),j];simp![↓zA];exact k z l
theorem Tk{q:PT}{y:LS}(e:y.9<=5)(hl:h.9<64)(k:∀b:Bool,(b=Js↔∀z∈h,∃x∈y,x∈z)->pF Ψ q Z (sZ sc ns es st g v h o7 (bD (.list (y.map Jx))) (bD (.bool b)))) :
  pF Ψ (.seq (.set 9 (.bi .all %[.comp [] ["_law_row"] (.nm 0) .val %[.kw 6|1] .nop (.bi .any %[.comp [] ["_law_name"] (.nm 0) .val %[.kw 9|1] .nop (.cmp .In (.kw 0) (.kw 1))|1])|1])) q) Z (sZ sc ns es st g v h o7 (bD (.list (y.map Jx))) o9):=by
 delta sZ at k ⊢;simp![↓zA];rw[<- sB tpS h];refine AC (λz=>T.d (tpS z)) (λz=>T.d (.bool ((y.map λx=>decide (x∈z)).any id))) h [] _ (λz w R a=>?_) (by show 0+h.9<=_;omega) ?_;delta tpS;simp![↓zA];rw[<- sB Jx y];refine AC (λs=>T.d (.str s)) (λs=>T.d (.bool (decide (s∈z)))) y [] _ (λs hs R2 u=>?_) (by show 0+y.9<=_;omega) ?_;simp![QT,wt,DE,uD,VB,true_or];exact u;rw[qD,show y.map (λs=>T.d (.bool (decide (s∈z))))=((y.map λs=>PyData.bool (decide (s∈z))).map T.d) by rw[Qi];rfl,F8];refine#[y.map λs=>decide (s∈z),by rw[Qi];rfl,?_];simp![↓zA];exact a;rw[qD,show h.map (λz=>T.d (.bool ((y.map λx=>decide (x∈z)).any id)))=(((h.map λz=>(y.map λx=>decide (x∈z)).any id).map PyData.bool).map T.d) by rw[Qi,Qi];rfl];refine Nc ?_;simp![↓zA];exact k _ C2
theorem Sk(f:Ψ.sp "meets_all"=GG)(hs:∀p,p∈es'↔p∈es)(u:Rws es' st g h)(a:es.9<=126)(w:st.9<=11){y:LS}{b:Bool}(hb:b=Js↔∀z∈h,∃x∈y,x∈z)(k:Z.nx (sZ sc ns es st g v h o7 (bD (.list (y.map Jx))) (bD (.bool b)))) :
  pF Ψ %[.ife (.cmp .NotEq (.call "meets_all" %[.bi .list %[.kw 2|1],.bi .list %[.kw 3|1],.kw 4,.kw 8|1]) (.kw 9)) %[.ret (.bl Jt)|2] .nil|2] Z (sZ sc ns es st g v h o7 (bD (.list (y.map Jx))) (bD (.bool b))):=by
 delta sZ at k ⊢;simp![↓nA (md:=[]) f rfl rfl];refine#[_,_,_,_,rfl,#[a,w],λc hc=>?_];have e:c=b:=by rw[qa,hb,hc,BR hs u]
 subst e;simp![↓zA];exact k
end
theorem iT(ns:LS):∀ms:LS,(ms.flatMap λa=>ns.map λb=>(a,b)).9=ms.9 * ns.9
 |[]=>by simp|a::ms=>by rw[QAn,QN,iT ns ms,QG,QL,QDW,Nat.add_comm]
def jl(l:LS):Str×Str:=(l.headD #[#[]],l.tail.headD #[#[]])
def gf(p:Str×Str):LS:=[p.1,p.2]
theorem Oi{es:LB}{n:Bool}{Q:T->Bool->Prop}(h:es.9<306)(q:∀x:LB,x.Nodup->(∀z,z∈x↔z∈es)->x.9<64/\Q (.lst ((x.map pr).map T.d)) Js):vL (bA (.d (.list (es.map pr))) n).vw Q:=by
 have e:es.map pr=(es.map gf).map tpS:=by rw[Qi];rfl
 rw[e];refine GU (by rw[QG];exact h) (λr k=>?_) λx nd m=>?_;let#[p,_,rfl]:=QY.mp k;exact λz=>(nomatch z)
 have w:(x.map jl).map gf=x:=by rw[Qi];refine(qX λy v=>?_).trans (QAK _);let#[p,_,rfl]:=QY.mp ((m y).mp v);rfl
 have g:(x.map jl).map pr=x.map tpS:=by
  have:∀l:LB,l.map pr=(l.map gf).map tpS:=λl=>by rw[Qi];rfl
  rw[this,w]
 have:=q (x.map jl) (by rw[<- w]at nd;exact QA2 gf (λa b h e=>h (gV gf e)) nd) λz=>by constructor;intro u;let#[y,v,rfl]:=QY.mp u;let#[p,f,rfl]:=QY.mp ((m y).mp v);exact f;exact λu=>QY.mpr #[gf z,(m _).mpr (wE u),rfl]
 rw[QG,g]at this;exact this
theorem Bc{Ψ:PEv}(h0:Ψ.sp "_law_fold"=HG)(h1:Ψ.sp "meets_all"=GG)(h2:Ψ.sp "_law_mixed"=MB)(h4:Ψ.sp "_law_web"=AQ)(h5:Ψ.sp "apart_chains"=MG)(h6:Ψ.sp "_law_all"=ZM)(H:Ψ.sp "_law_most"=dB 5):MU Ψ u2 AO ua bY:=by
 rintro _ Q _ ⟨E,hl,hb,rfl,q⟩;have Z:jx=16777216:=qR;refine OA [Jp (.ny (.lst ((E.map Jy).map T.d))),Jr,Jr,Jr,Jr,Jr,Jr,Jr,Jr,Jr] ?_;delta u2;simp![↓nA (md:=[.kr]) h4 rfl rfl,↓nA (md:=[.kr]) h0 rfl rfl];refine#[_,rfl,λns es st g w=>#[rfl,_,rfl,?_]];let#[h,J,K,X,s,I,G]:=id w;simp![↓nA (md:=[.kr]) h0 rfl rfl];refine QEI FO λv=>?_;simp![↓nA (md:=[]) h6 rfl rfl];refine Oi () λf Y u=>?_;have k:f.9<64:=by have:=xN (ns:=ns.flatMap λa=>ns.map λb=>(a,b)) Y λp o=>qm.mpr #[p.1,(X p ((u p).mp o)).1,QY.mpr #[p.2,(X p ((u p).mp o)).2,rfl]];rw[iT]at this;have:=Nat.mul_le_mul h h;omega
 refine#[k,?_];simp![↓zA];refine#[f,st,g,ns,rfl,#[k,λp o=>X p ((u p).mp o),J,G,I,s,h],λW y m=>#[rfl,?_]];simp![↓nA (md:=[]) h5 rfl rfl];refine#[_,_,_,rfl,#[K,s,(Sa w)],λcs cut gd=>#[rfl,?_]];simp![↓Hj,↓N7,↓nA (md:=[]) H rfl rfl,QG];refine#[W,ns,rfl,#[m.2.1,h,λz Z=>#[(m.2.2 z Z).1,λx M=>(QZ.mp ((m.2.2 z Z).2 x M)).1]],λn O=>#[rfl,?_]];have e:=PV u y O gd;simp![↓zA];rw[dT (show(cs.9:Int)=(n:Int) by rw[e])];simp![↓zA];refine FB (λ(i:Nat)=>T.d (.int (i:Int))) (λl r=>∃C B A,(∀i∈l,i<4)/\r=sZ (.ny (.lst ((E.map Jy).map T.d))) ns es st g v W C B A) ?_ ?_ _ _ #[_,_,_,λi R=>Q7.mp R,rfl];rintro r ⟨C,B,A,_,rfl⟩;delta sZ;simp![↓zA];exact q;rintro i l r N S ⟨p7,p8,p9,F,rfl⟩;exact Ak (t:=i) h2 (F i QD) h λys L=>Tk (Qc L.length_le h) m.2.1 λb hb=>Sk h1 u y K s hb (S _ #[_,_,_,λj P=>F j (QC _ P),rfl])
end L2.L3.K13
namespace L2.L3
open PySem PySem.Spec PyProof.Rows
section
variable{K:QE}{x:Str}
noncomputable def Vj(as:List jy)(h:js):QE:=as.filterMap λa=>(h.get? a).map λo=>(a,o)
theorem IR{h:js}:∀(as:List jy),(Vj as h).In h
 |[],a,o,e=>nomatch e
 |b::as,a,o,e=>by
  unfold Vj at e;rw[wV]at e;cases c:h.get? b with
  |none=>rw[c]at e;exact IR as a o e|some y =>
   rw[c]at e;have e:Wu a ((b,y)::Vj as h)=Jp o:=e;rw[wB]at e;cases d:a==b with|true=>rw[d]at e;cases e;rw[beq_iff_eq.mp d];exact c|false=>rw[d]at e;exact IR as a o e
noncomputable abbrev Fj:=(Str×Str×Arguments×FuncBody×Kw)×(jy×List (Str×jy)×Ju×jy)×Bool
noncomputable def Zl(h:Kr)(b:Bool):Fj:=((h.name,h.qualname,h.params,h.body,h.scope),(h.globals,h.closure,h.defaults,h.builtins),b)
def jS(K:QE)(x:Str):Option Fj:=match WI K jp x with
 |some (Jp (.ref f))=>(match K.lookup f with
  |some #[_,_,.func fd,_]=>Jp (Zl fd (QBU K fd.code x&&Wm K (.ref f)))|_=>Jr)
 |_=>Jr
def Z0(x:Str)(st:Ku):Option Fj:=Jp (Zl (wr x x (OC st) (vC st) (CA st) .none .none .none .none Jr .none .none) Js)
theorem FX{st:Ku}(h:jS K x=Z0 x st):ZQ K x st:=by unfold jS at h;split at h;rename_i f hf;split at h;rename_i oc od fd osl hl;unfold Z0 at h;injection h with h;let#[p,o,n,m,l,j,i,g,e,b,a,k,w,v,u]:=fd;unfold Zl at h;injection h with h1 h2;injection h2 with h2 h3;injection h1 with b1 h1;injection h1 with b2 h1;injection h1 with b3 h1;injection h1 with b4 b5;injection h2 with c1 h2;injection h2 with c2 h2;injection h2 with c3 c4;let#[y,z]:=QA5.mp h3;simp only at b1 b2 b3 b4 b5 c1 c2 c3 c4 y;subst b1 b2 b3 b4 b5 c1 c2 c3 c4;exact#[f,_,hf,Fd hl y z];cases h;cases h
def lM(K:QE)(x:Str):Option (List (Option V)):=match WI K jp x with
 |some (Jp (.ref f))=>(match K.lookup f with
  |some #[.type t,_,.seq its _,_]=>if t="tuple" then Jp (its.toList.map FI) else Jr|_=>Jr)
 |_=>Jr
def fM(K:QE)(x:Str):Option V:=match WI K jp x with
 |some (Jp u)=>FI u|_=>Jr
noncomputable def eR(K:QE)(x:Str):Bool:=match WI K jp x with
 |some Jr=>Js|_=>Jt
theorem D4(h:eR K x=Js):WI K jp x=Jp none:=by unfold eR at h;split at h;assumption;cases h
theorem BX{i:Int}(h:fM K x=Jp (.int i)):eK K x (.int i):=by unfold fM at h;split at h;rename_i u hu;exact#[u,_,hu,h,λ_=>.int i];cases h
theorem uV{xs:LS}(h:lM K x=Jp (xs.map λy=>Jp (.str y)))(hz:xs.9<=jx):eK K x (.tuple (xs.map Jx)):=by unfold lM at h;split at h;rename_i f hf;split at h;rename_i t od its n osl hl;split at h;rename_i et;subst et;injection h with h;exact xX (its:=its.toList) hf (by simpa using hl) h hz;cases h;cases h;cases h
theorem walk_seen{l:PySem.W.OpenLaw}{k:Nat}{q:jv}{loose:LS}{XP:(Str->Option Ju)->js->Prop}{YP:jr->js->Prop}{d:DefRec}{Fs:QE->Prop}
  (S:l.most=Jp 63) (B:d.params.defaults=[]) (Q:Room k Xw) (hY:∀(w:jr) (h:js),YP w h->∃K:QE,K.In h/\Fs K)
  (F:∀(w:jr) (j:Str->Option Ju) (X:jy) (h:js) (K:QE),K.In h->Fs K->h.Ns jp j->j d.name=Jp (.ref X) ->
   ∃C:Kr,(∀(s:Jq) (u:Ju),Xu s C #[[u],[]] [(x,u)]) /\
    ∀y:js,K.In y->y.Ns jp j->FnOk l.prog w K j y AW k X C [x] (lift K AO)) :
  PySem.W.WalkO q loose XP YP l.row.toRowW d [] (λf vs=>PySem.call f vs):=by
 intro w J I j mb G Y X o pm cd doc dV kV ho hd hcd L A hg args E as m p P Z hlo;obtain rfl:dV=.none:=PySem.W.Dflts.none L B;obtain rfl:kV=.none:=PySem.W.Dflts.noKw L;let#[a,vs,O,rfl,rfl,n,i,v]:=Att.script_of S m Z;let#[K,M,fs]:=hY w _ Y;let#[C,hb,hF]:=F w j X _ K M fs G.T.g A;refine PySem.W.enter_call (QAL (KZ M G.T.g G.T.b G.T.builtins G.T.nolimit hg n i (Qc v (by decide)) Q hF hb (λH hO hS=>Ic _ H a O v (G7 p) hS) λH e N=>λz=>z) λr N R=>?_);let#[rfl,h2,h3,h4]:=R;exact#[.inl #[.bool Js,.bool Js,[],rfl,λ_=>rfl,.bool Js,Att.post_true l _,λ_=>#[QEB.nil,λ_ hm=>(nomatch hm)]],h2,h3,h4]
end
end L2.L3
namespace L2.L3.K13
open PySem PySem.Spec PyProof.Rows L2 L2.L3
def El:Nat->(LW->Prop)->Prop
 |0,p=>p []|n+1,p=>∀u,El n λh=>p (u::h)
theorem Lj:∀{n:Nat}{p:LW->Prop},El n p->∀us:LW,us.9=n->p us
 |0,_,h,us,e=>by rw[qt.mp e];exact h|_+1,_,_,[],e=>nomatch e
 |_+1,_,h,u::us,e=>Lj (h u) us (Nat.succ.inj e)
def xo(x q:Str)(st:Ku)(u:LS):Prop:=∀(kV h v:Ju) (k:Option jy) (y w:Ju),El u.9 λz=>vu (wr x q (OC st) (vC st) (CA st) .none kV h v k y w) #[z,[]]=Gu (u.zip z)
noncomputable def fT:List (Str×Nat):=([("_law_fold",17),("_law_mixed",15),("_law_names",16),("_law_web",18),("_law_grown",19),("_law_all",20),("add_way",7),("add_name",6),("rooms_of",5),("points_reached",8),("lay_chain",9),("name_behind",11),("chain_from",10),("full_names",12),("apart_chains",3),("_law_most",21),("meets_all",4),("law",22)]:List (String×Nat)).map λp=>(Qz p.1,p.2)
def tT:List (Str×LS):=[("BEGIN",["","begin"])]
def sT:List (Str×Int):=[("WIDE",2)]
noncomputable def nT:LS:=(["all","any","enumerate","len","list","max","range","set","sorted","tuple"]:List String).map Qz
noncomputable def qv:Program:={ qk with main:={ qk.main with body:=[1,2,3,4,5,6,7,8,9,10,11,12,14,15,16,17,18,19,20,21,22].map VI } }
noncomputable abbrev G2:=List (Option Fj)×List (Option (List (Option V)))×List (Option V)×List Bool
def seen(K:QE):G2:=(fT.map λp=>jS K p.1,tT.map λp=>lM K p.1,sT.map λp=>fM K p.1,nT.map (eR K))
def due:G2:=(fT.map λp=>Z0 p.1 (VI p.2),tT.map λp=>Jp (p.2.map λy=>Jp (.str y)),sT.map λp=>Jp (.int p.2),nT.map λ_=>Js)
noncomputable def df:List (Str×D):=tT.map (λp=>(p.1,.tuple (p.2.map Jx)))++sT.map λp=>(p.1,.int p.2)
structure Cx(K:QE)(h:js)(mg:Str->Option Ju):Prop where
 X:K.In h
 G:h.Ns jp mg
 V:∀p∈df,eK K p.1 p.2
 N:∀y∈nT,WI K jp y=Jp Jr
 D:∀p∈fT,ZQ K p.1 (VI p.2)
theorem yE{α:Type}{d:α}:∀{l:List α}{i:Nat},QD1 i l.9=Js->l.getD i d∈l
 |[],_,h=>nomatch h
 |_::_,0,_=>.head _|_::_,_+1,h=>.tail _ (yE (Nat.blt_eq.mpr (wU (Nat.blt_eq.mp h))))
theorem M8{α:Type}{l:List (Str×α)}{p:Str×α}(nd:(l.map we).Nodup)(h:p∈l):l.lookup p.1=Jp p.2:=by
 induction l with|nil=>cases h|cons a l y=>let#[x,s]:=a;rw[QT,Qa]at nd;rw[wB];rcases QK.mp h with rfl|h;rw[beq_self_eq_true];have hm:p.1∈l.map we:=wE h;have u:(p.1==x)=false:=beq_eq_false_iff_ne.mpr λz=>nd.1 (by rw[<- z];exact hm);rw[u];exact y nd.2 h
theorem iZ{α:Type}{a:α}{g:Str}:∀(l:LS) (r:List α) (i:Nat),g≠l.getD i ""->(l.zip (r.set i a)).lookup g=(l.zip r).lookup g
 |[],_,_,_=>rfl|_::_,[],_,_=>rfl|x::l,s::r,0,h=>by have h:g≠x:=h;show Wu g ((x,a)::l.zip r)=Wu g ((x,s)::l.zip r);rw[wB,wB,beq_eq_false_iff_ne.mpr h]|x::l,s::r,i+1,h=>by show Wu g ((x,s)::l.zip (r.set i a))=Wu g ((x,s)::l.zip r);rw[wB,wB,iZ l r i h]
def c6:LS:=fT.map we
def fx(i:Nat):Str×Nat:=fT.getD i ("",0)
def tbl(r:List PSp):PEv:=y8 (c6.zip r) df
theorem pO{r:List PSp}(i:Nat)(h:QD1 i df.length=true:=by rfl):(tbl r).va (df.getD i ("",.none)).1=Jp (df.getD i ("",.none)).2:=M8 (ED (by kernel_rfl)) (yE h)
theorem Yg{r:List PSp}(nd:NH ((c6.zip r).map we)=Js)(i:Nat)(h:QD1 i (c6.zip r).9=Js):(tbl r).sp ((c6.zip r).getD i ("",ZY)).1=((c6.zip r).getD i ("",ZY)).2:=by show(Wu _ _).getD ZY=_;rw[M8 (ED nd) (yE h)];rfl
noncomputable def nB(n:Need)(fs:LS):Bool:=n.fn.all (λx=>fs.contains x)&&((n.va.all λx=>(df.map we).contains x)&&n.no.all (λx=>nT.contains x))
section
variable{P:jv}{w:jr}{K:QE}{h base:js}{mg:Str->Option Ju}{r r':List PSp}{R:PSp}{fs:LS}{k:Nat}{b:PT}{n:Need}{N u:LS}
theorem hv(C:Cx K h mg)(A:∀g∈fs,UC P w K mg base (tbl r) k g)(i:Nat)(aB:ZC n b N u (VI (fx i).2)=Js)
  (body:∀ts Q E,R.run ts Q E->ts.9=u.9/\lB (tbl r) (λ_=>False) b (YC R u.9 Q) (LA N R.md ts)) (l:(tbl r').sp (fx i).1=R) (hc:OH (XB 0 R.md u.9) b=true:=by kernel_rfl)
  (hb:xo (fx i).1 (fx i).1 (VI (fx i).2) u:=by(repeat intro _);rfl)
  (x:nB n fs=true:=by kernel_rfl) (v:QD1 i fT.length=true:=by rfl):UC P w K mg base (tbl r') (k+1) (fx i).1:=by
 let#[p,x]:=yA x;let#[o,m]:=yA x;exact IZ C.X C.G (C.D _ (yE v)) aB hc (λa b c d e f=>Lj (hb a b c d e f)) (λg j=>A g (pM p g j)) (FS C.X C.G C.V o) (λy z=>C.N y (pM m y z)) body l
theorem hc(A:∀g∈fs,UC P w K mg base (tbl r) k g){x:Str}(Z:UC P w K mg base (tbl r) (k+1) x):∀g∈x::fs,UC P w K mg base (tbl r) (k+1) g:=by intro g y;rcases QK.mp y with rfl|y;exact Z;exact(A g y).mono (wn _)
theorem hm(A:∀g∈fs,UC P w K mg base (tbl r) k g):∀g∈fs,UC P w K mg base (tbl r) (k+1) g:=λg x=>(A g x).mono (wn _)
theorem h0(C:Cx K h mg)(i:Nat)(aB:ZC n b N u (VI (fx i).2)=Js)(hb:xo (fx i).1 (fx i).1 (VI (fx i).2) u:=by(repeat intro _);rfl)(x:QD1 i fT.length=true:=by rfl)(e:(tbl r).sp (fx i).1=ZY:=by kernel_rfl):UC P w K mg base (tbl r) (k+1) (fx i).1 :=
 dW C.X C.G (C.D _ (yE x)) aB (λa b c d e f=>Lj (hb a b c d e f)) (by rw[e];exact λ_ _ _ z=>z.elim)
theorem hs(A:∀g∈fs,UC P w K mg base (tbl r) k g){i:Nat}(Z:UC P w K mg base (tbl (r.set i R)) (k+1) (fx i).1)(y:fs.contains (fx i).1=false:=by kernel_rfl)(e:(fx i).1=c6.getD i "":=by rfl):∀g∈(fx i).1::fs,UC P w K mg base (tbl (r.set i R)) (k+1) g:=by intro g x;rcases QK.mp x with rfl|x;exact Z;refine((A g x).mono (wn _)).to ?_;show(Wu _ _).getD ZY=(Wu _ _).getD ZY;rw[iZ];rintro rfl;rw[e,Qr.mpr x]at y;cases y
theorem hl(C:Cx K h mg)(A:∀g∈fs,UC P w K mg base (tbl r) k g){x q:Str}{st:Ku}{f:jy}{v:Kr}(F:Fun K x q st f v)(aB:ZC n b N u st=Js)
  (body:∀ts Q E,R.run ts Q E->ts.9=u.9/\lB (tbl r) (λ_=>False) b (YC R u.9 Q) (LA N R.md ts)) (hc:OH (XB 0 R.md u.9) b=true:=by kernel_rfl) (z:nB n fs=true:=by kernel_rfl):FnOk P w K mg base AW (k+1) f v u (lift K R):=by
 let#[l,z]:=yA z;let#[j,i]:=yA z;exact Y0 F aB hc (λg e=>A g (pM l g e)) (FS C.X C.G C.V j) (λy a=>QDD C.X C.G (C.N y (pM i y a))) body
theorem cx_of(X:K.In h)(G:h.Ns jp mg)(e:seen K=due)(j:(tT.all λp=>decide (p.2.9<=1000))=Js):Cx K h mg:=by injection e with g e;injection e with f e;injection e with a v;have g:=QAq.mp g;have f:=QAq.mp f;have a:=QAq.mp a;have v:=QAq.mp v;refine#[X,G,λp x=>?_,λy i=>D4 (v y i),λp x=>FX (g p x)];rcases QW.mp x with x|x;let#[q,z,rfl]:=QY.mp x;have:=gy (qN.mp j q z);exact uV (f q z) ();let#[q,z,rfl]:=QY.mp x;exact BX (a q z)
end
def iO:List PSp:=[HG,MB,nJ,AQ,jB 3,ZM,VF,NG,SE,ND,JM,KF,LG,YM,MG,dB 5,GG,AO]
theorem eA(i:Nat)(h:QD1 i (c6.zip iO).9=true:=by rfl):(tbl iO).sp ((c6.zip iO).getD i ("",ZY)).1=((c6.zip iO).getD i ("",ZY)).2:=Yg (by kernel_rfl) i h
theorem all{P:jv}{w:jr}{K:QE}{h:js}{y:Str->Option Ju}{a:jy}(C:Cx K h y)(z:y "law"=Jp (.ref a)) :
  ∃v:Kr,(∀(s:Jq) (u:Ju),Xu s v #[[u],[]] [("_law_script",u)])/\∀x:js,K.In x->x.Ns jp y->FnOk P w K y x AW 28 a v ["_law_script"] (lift K AO):=by
 refine jd C.X C.G (C.D (fx 17) (yE rfl)) rfl z (eA 17) (λ_ _ _ _ _ _ b hl=>by let#[u,rfl]:=QCD.mp hl;rfl) λx i e f v F _=>?_;have A:∀g∈([]:LS),UC P w K y x (tbl iO) 0 g:=nofun;have A:=hc A (hv C A 0 aW E5 (eA 0));have A:=hc A (hv C A 1 tS NY (eA 1));have A:=hc A (hv C A 2 sS (MY (eA 1)) (eA 2));have A:=hc A (hv C A 3 G1 (Kc (eA 0) (eA 1) (eA 2)) (eA 3));have S:=hs A (h0 (r:=iO.set 4 ZY) C 4 cD);have A:=hm A;have Z:=hv (r':=iO.set 4 (jB 0)) C S 4 cD (vP (k:=0) (.inl rfl)) (by kernel_rfl);have S:=hs A Z;have A:=hm A;have Z:=hv (r':=iO.set 4 (jB 1)) C S 4 cD (MH (k:=0) (by kernel_rfl)) (by kernel_rfl);have S:=hs A Z;have A:=hm A;have Z:=hv (r':=iO.set 4 (jB 2)) C S 4 cD (MH (k:=1) (by kernel_rfl)) (by kernel_rfl);have S:=hs A Z;have A:=hm A;have Z:=hv (r':=iO) C S 4 cD (MH (k:=2) (by kernel_rfl)) (eA 4);have A:=hc A Z;have A:=hc A (hv C A 5 L1 (Cc (eA 4)) (eA 5));have A:=hc A (hv C A 6 aS j6 (eA 6));have A:=hc A (hv C A 7 fQ (y6 (eA 6)) (eA 7));have A:=hc A (hv C A 8 dQ (YV (eA 7) (eA 6) (pO 0) (pO 1)) (eA 8));have A:=hc A (hv C A 9 tH (LY (pO 0)) (eA 9));have A:=hc A (hv C A 10 GN (Uc (pO 0)) (eA 10));have A:=hc A (hv C A 11 lK ZV (eA 11));have A:=hc A (hv C A 12 SK (PY (eA 11)) (eA 12));have A:=hc A (hv C A 13 RK A5 (eA 13));have A:=hc A (hv C A 14 DI (RY (eA 8) (eA 9) (eA 10) (eA 12) (eA 13) (pO 0)) (eA 14));have S:=hs A (h0 (r:=iO.set 15 ZY) C 15 mC);have A:=hm A;have Z:=hv (r':=iO.set 15 (dB 0)) C S 15 mC (RT (k:=0) (.inl rfl)) (by kernel_rfl);have S:=hs A Z;have A:=hm A;have Z:=hv (r':=iO.set 15 (dB 1)) C S 15 mC (yF (k:=0) (by kernel_rfl)) (by kernel_rfl);have S:=hs A Z;have A:=hm A;have Z:=hv (r':=iO.set 15 (dB 2)) C S 15 mC (yF (k:=1) (by kernel_rfl)) (by kernel_rfl);have S:=hs A Z;have A:=hm A;have Z:=hv (r':=iO.set 15 (dB 3)) C S 15 mC (yF (k:=2) (by kernel_rfl)) (by kernel_rfl);have S:=hs A Z;have A:=hm A;have Z:=hv (r':=iO.set 15 (dB 4)) C S 15 mC (yF (k:=3) (by kernel_rfl)) (by kernel_rfl);have S:=hs A Z;have A:=hm A;have Z:=hv (r':=iO) C S 15 mC (yF (k:=4) (by kernel_rfl)) (eA 15);have A:=hc A Z;have A:=hc A (hv C A 16 FN (OY (eA 8) (eA 9)) (eA 16));exact hl C A F be (Bc (eA 0) (eA 16) (eA 1) (eA 3) (eA 14) (eA 5) (eA 15))
def hk:PySem.W.Hook:=#[G2,λs=>seen (Vj (Qj 400) s.1),λ_=>due,λ_ h=>∃K:QE,K.In h/\seen K=due,λ_ _ e=>#[_,IR _,e],λ_ _ _ #[K,X,e] k=>#[K,X.keeps k,e]]
end L2.L3.K13
open PySem PySem.W PyProof.Rows
set_option maxRecDepth 100000 in
set_option maxHeartbeats 0 in
theorem PySem.Challenge.cw_quoteweave_k13_small_webs_listed_holds : PySem.Challenge.rw_quoteweave_k13_small_webs_listed.Holds := by
 refine holds_law (by kernel_rfl) λy=>?_;refine holds_open (q:=L2.L3.K13.qv) (loose:=[]) (Xt:=λs=>xlAt L2.L3.K13.qv [] s&&recOk (RowW.records ql.row.toRowW) s) (XP:=XL L2.L3.K13.qv []) (Yf:=Hook.obs L2.L3.K13.hk) (Ya:=Hook.val L2.L3.K13.hk) (YP:=Hook.says L2.L3.K13.hk) (N:=1700) ?hl (Hook.of L2.L3.K13.hk) (Hook.keeps L2.L3.K13.hk) (λs e=>xl_of s (QA5.mp e).1) XL.keeps (by rfl) (by rfl) (by rfl) (λs e=>recFacts_of (QA5.mp e).2) (by rfl) (by first|assumption|decide +kernel) (by decide +kernel) ⟨rfl,rfl,rfl,rfl,rfl,by decide +kernel⟩ ?hw ?hc
 case hl=>intro w;kernel_rfl
 case hw=>w_witness2
 case hc=>exact L2.L3.walk_seen (l:=ql) (k:=28) (x:="_law_script") (Fs:=λK=>L2.L3.K13.seen K=L2.L3.K13.due) rfl rfl ⟨rfl,by decide,by decide⟩ (λw h Y=>Y) λw z u h K X e G m=>L2.L3.K13.all (L2.L3.K13.cx_of X G e (by kernel_rfl)) m
