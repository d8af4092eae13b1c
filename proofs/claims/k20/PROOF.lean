import PyProof.Rows.All
import Wide.All
import OpenK.AllK
import Wide.FinOn
import Lean
import PyProof.EqAt
import PyProof.EqKinds
import PyProof.TupleCall
import PySem.Challenge.RW_quoteweave_k20_small_holders_listed
noncomputable section
set_option Elab.async false
set_option linter.all false
set_option compiler.extract_closed false
set_option bootstrap.genMatcherCode false
set_option genInjectivity false
set_option genSizeOf false
set_option maxRecDepth 100000
set_option maxHeartbeats 4000000
open PySem.PyData renaming str->Jx,int->Jy
open PySem.Value renaming none->Jz,ref->Jv
open PySem renaming wpAny_bind->QA,wpAny_pure->QH,wpAny_newObj_type->Qx,wpAny_call_entry->Q6,wpAny_holding->qG,wpAny_callSpecial?_slot->qT,sizeLine_eq->qU,wpAny_loadPart'->qZ,wpAny_setState_of->qa,codeAny_builtin->qf,mem_of_lookup->ql,Spec->qr,wpAny_Call_Name_kw->wI,wpAny_setField->wX,wpAny_typeNameOfWhole_itemiter->wf,wpAny_typeNameOfWhole_keyiter->wn,wpAny_truthy_bool->wu,wpAny_dictEntries->ww,wpAny_mono->WD,wpAny_setField_rec->WG,plainId_quiet->WH,wpAny_field->WM,wpAny_passesOwn->WP,wpAny_pyIter_list->WU,wpAny_isInstance->Wi,wpAny_askSetting->Wk,tupleKind_room_in1->Wr,wpAny_typeOf->Wu,wpAny_dictEpoch->Wx,wpAny_seqItems->QAD,wpAny_fieldsOf->QAE,wpAny_of_eq->QAJ,codeAny_mono->QAL,wpAny_attempt->QAU,wpAny_isOneOf_itemiter->QAd,wpAny_pyIter_slot->QAg,wpAny_storeSet_of->QAj,wpAny_notOrdered_dict->QAr,wpAny_rule->QBB,wpAny_execs_nil->QBE,wpAny_specialOf->QBF,wpAny_setEntries_of->QBG,wpAny_updateSeq->QBI,wpAny_runValue->QBa,isSubtype_type->QBb,call_meets->QBh,wpAny_Call_method0_late->QBt,wpAny_handled->QBv,wpAny_newList->QBw,wpAny_forIn_list->QB4,wpAny_isOneOf_keyiter->QCK,wpAny_isSame_ref_self->QCN,codeAny_of_tree->QCO,weight_type_call_type->QCP,builtinLookup_eq_fast->QCR,codeAny_call_builtin->QCa,codeAny_extend_loopS->QCc,wpAny_newTuple->QCj,evalArgs_none->QCo,wpAny_setItem_pairs->QCp,wpAny_throw->QCr,wpAny_standAt->QC1,wpAny_pyIter_tuple->QC4,wpAny_assign_Name->QDF,slot_list_getitem->QDH,wpAny_pyIter_enum->QDM,concat_meets->QDT,seqIndex_neg->QDU,wpAny_pyHash_str->QDe,wpAny_execs_cons->QDf,noFill_tuple_add->QDh,check_set_init_1->QDq,seqIndex_of->QDv,storedH_new->QDy,wpAny_Name->QD6,wpAny_load->QD7,wpAny_call->QD8,typeIs_str->QD9,typeIs_int->QEA,Str->QEF,Fin->QEI
open List renaming mem_cons_of_mem->QC,mem_cons_self->QD,length_map->QF,mem_singleton->QI,mem_cons->QK,length_cons->QL,length_append->QM,mem_append_right->QS,size_toArray->QT,map_cons->QU,mem_map->QV,mem_append->QW,mem_filter->QZ,nodup_cons->Qa,map_append->Qb,getElem?_eq_some_iff->Qd,mem_append_left->Qg,map_map->Qh,getElem?_map->Qi,range->Qm,nodup_nil->Qo,mem_of_getElem?->Qq,length_nil->Qr,contains_iff_mem->Qs,length_singleton->Qw,nil_append->Qy,getElem?_append_right->Q0,isEmpty_iff->Q7,mem_range->Q8,replicate->Q9,getElem?_eq_getElem->qA,nodup_append->qH,getElem?_append_left->qK,getElem?_eq_none->qL,length_range->qM,all_eq_true->qN,map_congr_left->qV,filter_sublist->qY,append_assoc->qg,getElem?_set_ne->qi,getElem?_cons_succ->qq,length_eq_zero_iff->qw,getElem?_set_self->qy,lookup_cons->wA,length_replicate->wD,append_nil->wH,all_cons->wK,length_pos_of_mem->wP,filterMap_cons->wQ,length->wR,replicate_succ->wU,ext_getElem?->wV,length_set->wb,foldl_cons->wc,map_nil->we,getElem?_set->wx,find?_cons->wy,mem_map_of_mem->w8,drop_eq_nil_of_le->WA,nodup_iff_pairwise_ne->WB,length_take->WE,not_mem_nil->WF,mem_iff_getElem?->WI,length_filter_le->WK,drop_eq_getElem_cons->WO,flatten_cons->WT,length_erase_of_mem->WW,toArray->Wb,getElem?_replicate->Wd,length_drop->Wh,filter_cons->Wl,lookup->Wv,length_filter_lt_length_iff_exists->Wz,any_cons->W0,perm_ext_iff_of_nodup->W7,mem_erase_of_ne->W9,mem_of_mem_drop->QAA,set->QAI,map_id->QAK,getElem?_take_of_lt->QAM,getElem?_cons_zero->QAQ,mem_filterMap->QAR,forIn_cons->QAS,reverse_cons->QAe,pairwise_map->QAi,flatMap_cons->QAl,map_inj_left->QAn,map_fst_zip->QAv,map_snd_zip->QAw,any_eq_true->QAx,nodup_range->QAz,mem_flatMap->QA0,getElem?_modify->QA2,length_eraseIdx_of_lt->QBO,getElem?_drop->QBR,zip_cons_cons->QBS,length_zipIdx->QBT,pairwise_cons->QBU,any_eq_false->QBd,foldl_append->QBq,pairwise_filterMap->QBy,getElem_mem->QB2,pairwise_lt_range->QCC,length_eq_one_iff->QCD,modify_succ_cons->QCE,modify_zero_cons->QCF,of_mem_zip->QCH,getD->QCJ,take_append_drop->QCQ,getElem?_zipIdx->QCd,forIn_nil->QCi,getElem_of_mem->QCq,getElem?_range->QCs,set_cons_zero->QCv,set_cons_succ->QCw,filterMap_map->QC3,find?_eq_none->QC5,map_filterMap->QC7,map_drop->QDE,mapM_toArray->QDK,map_set->QDb,Sublist->QDc,cons_append->QDd,take_length->QDn,drop_length->QDt,foldl->QEB,Perm->QEJ
open PySem.W renaming Frag->QE,kia_one->qe,fnOf->wr,nsIn->WJ,keepIn->Wm,WData->QBA,codeIn->QBW,methodObj->QBc,kitx_list->QBe,mg_of->QB0,cellsFrom_some->QB6,instObj->QCG,lookIn->QCg,kitOne->QCh,kitx_tuple->QC2,mg_none_of->QDD,kitx_dict->QDG,plainGet->QDg
open Bool renaming false_ne_true->QG,and_eq_true->Qe,not_eq_true'->Q4,false_eq_true->qF,eq_iff_iff->qd,or_eq_true->wj,and_eq_true_iff->QA4,true_and->QA5,not_true->QA6,not_false->QBV,eq_false_iff->QBn,false_or->QBr,and_false->QCe,false_and->QCf,and_true->QCx,or_false->QCy,true_or->QDR,noConfusion->QDr
open PySem.Heap renaming get?_push_of_some->QJ,get?_push_size->QO,lt_size->QR,get?_update_self->Q3,get?_update_other->qB,SameBut->qS,size_push->wt,ExtBut->QBu,get?_push_cases->QCY,IsList->QDx
open Array renaming length_toList->QN,getElem?_toList->QY,getElem?_eq_getElem->Qp,getD_eq_getD_getElem?->wL,getElem?_eq_some_iff->WC,getElem?_setIfInBounds->Ws,toList_push->W5,mem_toList_iff->W8,forIn_toList->QAV,replicate->QAY,toList_inj->QAu,perm_iff_toList_perm->QBN,getElem?_replicate->QBl,getElem?_eq_none->QB9,toList_filterMap->QCA,size_replicate->QCZ,size_map->QCm,toList_append->QCu,foldl_toList->QC6,getD->QDJ,toList->QDS
open Nat renaming le_refl->QX,ne_of_lt->Qc,le_trans->Qf,lt_of_lt_of_le->Qt,zero_le->Q5,lt_succ_of_lt->qh,le_of_lt_succ->qu,lt_of_succ_lt_succ->wO,ne_of_gt->wa,not_lt_zero->wg,le_succ->wm,lt_irrefl->wq,lt_of_le_of_lt->Wp,zero_add->Wt,lt_succ_self->QAH,succ_pos->QAO,le_of_lt->QAo,le_of_eq->QAp,mod_lt->QBC,sub_self->QBQ,lt_succ_of_le->QBk,le_of_not_lt->QB1,le_add_right->QB5,lt_or_ge->QCI,lt_trichotomy->QDP,succ_mul->QDV,lt_trans->QDW,sub_zero->QDa,succ_le_succ->QDj,succ_lt_succ->QDm,blt->QD4
open False renaming elim->Qj
open Int renaming emod_lt_of_pos->Qk,emod_nonneg->Qn,toNat_natCast->WV,lt_irrefl->Wg,le_trans->QCW,le_refl->QD3
open PySem.Str renaming ofString->Ql,join->QDu
open Option.some renaming injEq->Qu,inj->Q1
open PySem.SetTable renaming below->Qz,bits->qD,grown->qX,runEnd->qm,insertAt->wW,Probe->wY,turns->wZ,sizeAbove->wk,advance->Wj,layClean->W6,leap->QAW,laid->QAX,toList_insertAt->QBm,slot->QBx,insertAt_perm->QCB,has->QCM,fill->QC8,orStandIn->QC9,tooFull->QDs,probe->QD5
open Ne renaming symm->qC
open PySem.PyData renaming eqv->qE,strOk->qb,canLayAll0->wv,depthAll->Ww,canLay0->QAC,depth->QBP
open PySem.Obj renaming data_mapFields->qI,mapSeq->qR,mapFields->wC,isFreed_of_fields->wF,cls_mapFields->W4,putSet->QBD,data_mapDictKeys->QCX
open PySem.SetTable.layClean renaming free->qJ
open Option renaming map_some->qO,map_eq_some_iff->w9,map_none->WY,isNone_iff_eq_none->QBZ,isSome_iff_exists->QBf,isSome_map->QBj,getD_none->QDi,getD_some->QDk
open PySem.Heap.SameBut renaming update->qP,refl->QBi
open PySem.Around renaming under_plainId->qQ,in1_units->QB3,under_plain->QDB
open Classical renaming byContradiction->qW
open PySem.Challenge renaming pw_quoteweave_k20_small_holders_listed->qj,rw_quoteweave_k20_small_holders_listed->qk
open PySem.F renaming called_set->qp,slot_dict_itemiterator_next->wB,slot_dict_keyiterator_next->wG,slot_tuple_iterator_next->wN,args_tuple_iterator_next_1->QAP,entry_tuple_iterator_next->QAT,plainAttrs_list->QAa,args_dict_itemiterator_next_1->QAf,plain_list_iadd->QAk,entry_dict_itemiterator_next->QAq,args_dict_keyiterator_next_1->QAt,entry_dict_keyiterator_next->QAy,slot_dict_getitem->QBX,args_tuple_add_2->QBg,entry_tuple_add->QBs,plainAttrs_dict->QBz,slot_tuple_add->QB7,slot_dict_items_iter->QB8,entry_proto_collect->QCS,plain_proto_collect->QCT,sub_list_frozenset->QCb,plain_extend_loop->QCt,slot_tuple_hash->QDN,entry_type_call->QDO,entry_list_iadd->QDQ,slot_dict_iter->QDl,typeCall_set_1->QDo,entry_set_init->QDp,slot_int_rmul->QDw,plain_set_new->QD1,slot_set_iter->QD2
open PySem.Paired renaming length->qt
open PySem.Builtin.SmallTypes renaming nextOf->qz
open LawfulBEq renaming eq_of_beq->wE
open PyProof.Rows renaming callWith_type1->wJ,slot_tuple_getitem->WR,callWith_builtin1->Wa,subscriptTail_builtinR->Wo,boot_sorted->QBp,entry_list_sort->QCL,boot_set->QCU,slot_list_sort->QCk,args_list_sort->QCl,plain_sorted->QDX,entry_sorted->QDY,args_sorted1->QDZ,kind_sorted->QD0,size_push'->QEC
open PyProof.Rows.F renaming plain_set_update_loop->wM,entry_set_update_loop->We
open PySem.SeqAt renaming EqAt->wT
open Prod renaming fst->wl,ext->QEE
open Lean.Parser.Tactic renaming tacticSeq->wo
open PySem.Builtin.List renaming listExtendWith->wz,listTooLong->QAN,listLengthHint->QBH,listSameRef->QBo
open PySem.Builtin.Slice renaming slicePlaces->WL,sliceAdjust->QAB,sliceApplied->QBL
open PySem.Builtin.Dict_items renaming addrOf->WN,ownsTuple->QA7
open PySem.Calls renaming spliced_nil->WQ,spliced_cons->Wq,call_function_entry->QAF,callWith_builtin->QAc,Name_function_global->QBK
open PySem.Builtin.Tuple renaming tupleExact->WS,tupleItemsOf->QBM,tupleHashOf->QBY
open PySem.SetTable.below renaming go->WX
open List.Pairwise renaming imp_of_mem->WZ,map->QAm,of_map->QA1
open PySem.Builtin.Str renaming occurrences->Wc
open PySem.W.WData renaming weightAll->Wf,weight->QA3
open List.Perm renaming refl->Wn
open PySem.SetTable.Slot renaming noConfusion->QAG
open Iff renaming rfl->QAZ
open List.cons renaming injEq->QAb
open PySem.SetTable.probe renaming go->QAh
open PySem.Builtin.Dict renaming showsAll->QAs
open PySem.Builtin.Frozenset renaming updateFrom->QA8
open PySem.Txt renaming join->QA9,slice->QEH
open PySem.Builtin.Int renaming intBits->QBJ
open PySem.StrLaws renaming glued_eq_join->QCV
open PySem.Value renaming isStrOf_shape->QCn
open PySem.SeqAt.EqAt renaming int_str->QCz,str_int->QC0
open PySem.Code renaming quiet_builtin->QDA
open PySem.Shared renaming TypeIs->QDC
open PySem.Walks renaming list->QDI
open PyProof.Rows.SortSt renaming mk'->QDL
open Array.Perm renaming refl->QDz
open Eq renaming mpr->QED
open PyProof.Rows.IsTup renaming new->QEG
theorem dF{p:Prop}[Decidable p](h:¬p):decide p=false:=_root_.decide_eq_false h
theorem dT{p:Prop}[Decidable p](h:p):decide p=true:=_root_.decide_eq_true h
abbrev MB:=List (PySem.Addr×PySem.Obj)
abbrev ZB:=PySem.Value -> PySem.Shared -> Prop
abbrev uB:=PySem.Addr -> Prop
abbrev gB:=List (QEF×QEF)
open Option renaming some->Jr,none->Js
open Bool renaming true->Jt,false->Ju
open PySem renaming Value->Jw,Shared->jx,wpAny->jy,sizeLine->jz,Addr->jv,model->js,Program->jt,mainGlobals->ju,World->jw,Heap->j0,SetTable->j1,Around->j2,compareOp->Kx,starEach->Ky,rawInt->Kz,Paired->Kv,strIterType->Kr,PyData->Ks,sysModules->Kt,bootBuiltins->Ku,FuncData->Kw,cLine->kx,firstArgMember->kv,Stmt->kf,binaryOp->kd,eval->kb,Scope->kl,foldedSetIterable->ku,assignEach->Vx,Operator->Vy,letOwnedTupleGo->Vz,entryOfKey->Vv,sliceBounds->Vr,pyNext->Vs,NameKind->Vt,ofAClassStatement->Vu,tupleKind->vx,attributeBase->vz,backTo->vv,typeNameOfWhole->vl,CmpOp->vt,pyIter->vu,setAddHashedIn->v1,swapsWith->v2,DictEntry->Xx,relayAll->Xy,codeAny->Xz,IsItemIter->Xv,setNext->Xr,atKey->Xs,assign->Xu,call->Xw,bindArgs->xx,ReadsAll->xy,spliced->xz,Keyword->xk,relabel->xn,valueAt->xu,behindInMarks->xw,IsPart->x0,newExc->x2,holding->Yx,IntMulOk->Yy,BindsTo->Yz,getItem->Yv,callerA->Yr,newTuple->Ys,raiseNew->Yt,searchCouldBeSeen->Yu,eqIsQuiet->Yw,updateSeq->yx,typeLookup_type->yy,ElemsOf->yz,collect->yt,builtinsNs->yu,bindL->yw,bindC->y1,PlainAttrs->y2,fitsIndex_both->y3,wpAny_notIn_of->y4,dictSetDefault->Zv,checkCount->Zs,setAdd->Zt,entryFor_alias->Zu,setsByText->Zw,assignInOrder->zx,intBits_le_64->zy,seq_tuple_add->zz,evalPart_none->zt,call_list_seq->zu,comprehension->zw,IsItemIterOut->Gx,setSearchFrom->Gy,Comprehension->Gz,PassesOwn->Gv,cellsFrom->Gr,pickOrder->Gs,Const->Gu,UnaryOp->Gw,typeOf->gJ,newList->gx,storedH->gy,field->gz,setField->gV,storeSet->gL,entryFor->gN
open PyProof.Rows renaming seqObj->gt,sortedS->gu,StrsAre->gA,AllBare->gw,envOfC->Hx,SortKind->Hy,pairsOf->Hz,slicePart_none->Hv,oneType'->Hr,keyKind'->Hs,sortedHeap_old->Ht,subscriptTail->Hu,listUpdate_at->Hw,sortedHeap_at->hZ,sortedAll_old->hB,IntsAre->hE
open Pure renaming pure->hT
theorem hI.{u}{c:Prop}{d:Decidable c}(h:¬c){α:Sort u}{t e:α}:ite c t e=e:=_root_.if_neg h
theorem hQ.{u}{c:Prop}{d:Decidable c}(h:c){α:Sort u}{t e:α}:ite c t e=t:=_root_.if_pos h
theorem h7{a b:Prop}(h:a)(k:¬a):b:=_root_.absurd h k
theorem h8{a b:Prop}(h:a<->b):a=b:=_root_.propext h
theorem Fx{p:Prop}[Decidable p](h:decide p=true):p:=_root_.of_decide_eq_true h
theorem Fy{p:Prop}[Decidable p]:decide p=true<->p:=_root_.decide_eq_true_iff
theorem Fz.{u,v}{α:Sort u}{β:Sort v}{a b:α}(f:α->β)(h:a=b):f a=f b:=_root_.congrArg f h
local macro_rules | `($x.$i:fieldIdx)=>if i.raw.isFieldIdx?==some 9 then `(($x).length) else Lean.Macro.throwUnsupported
set_option hygiene false in
local macro_rules
 | `(#[$xs,*])=>if xs.getElems.isEmpty then Lean.Macro.throwUnsupported else `(⟨$xs,*⟩)
 | `(())=>`(by omega)
open Lean Parser.Tactic in
def zzp:Nat->Syntax->MacroM (TSyntax `rcasesPat)
 | 0,_=>Macro.throwUnsupported
 | n+1,s=>match s with
  | `(#[$xs,*])=>do
   let a<-xs.getElems.mapM λx=>do let p<-zzp n x;`(rcasesPatLo| $p:rcasesPat)
   `(rcasesPat| ⟨$a,*⟩)
  | `(_)=>`(rcasesPat| _)
  | `($x:ident)=>`(rcasesPat| $x:ident)
  | _=>Macro.throwUnsupported
local macro_rules | `(tactic| let $p:term:=$e:term)=>do `(tactic| obtain $(<-zzp 9 p):rcasesPat:=$e)
set_option hygiene false in
local macro_rules | `(tactic| omega)=>do
 let f:=λ(s:String)=>(s.splitOn " ").toArray.map λx=>Lean.mkIdent x.toName
 let a<-(f "L2.szA L2.szB L2.szC L2.unA Nat.le_trans Nat.lt_of_le_of_lt").mapM λx=>`(wo| exact $x (by assumption) (by decide))
 let b<-(f "Nat.lt_of_lt_of_le Nat.lt_of_le_of_lt Nat.le_trans").mapM λx=>`(wo| exact $x (by assumption) (by assumption))
 let c<-(f "Nat.le_of_lt Nat.ne_of_lt Nat.ne_of_gt Nat.lt_succ_of_lt Nat.le_of_lt_succ L2.prA").mapM λx=>`(wo| exact $x (by assumption))
 let d<-(f "Nat.le_refl Nat.le_succ Nat.zero_le Nat.succ_pos").mapM λx=>`(wo| exact $x _)
 `(tactic| first|decide|assumption|exact L2.szL (by decide) $[| $a]* $[| $b]* $[| $c]* $[| $d]*|lia|omega (config:={})|(have:=PySem.sizeLine_eq;first|lia|omega (config:={})))
set_option hygiene false in
local macro_rules
 | `(%[ $xs,*|1 ])=>do
  let mut r<-`(PX.ny)
  for x in xs.getElems.reverse do r<-`(PX.nr $x $r)
  return r
 | `(%[ $xs,*|2 ])=>do
  let mut r<-`(PT.nil)
  for x in xs.getElems.reverse do r<-`(PT.seq $x $r)
  return r
def zza:="zA cb Jb P4 gb Yb Vb bb O4 db N4 Kb ub Mb jb Ab Ob yl Rb yc zb jc vb yb zl v5 Pb gR x5 Ib Eb dR z5 Sb Tb Nb u5 Ma D4 Zk Na zc i5 nR pR Xb T4 Db Cb Fk Bb Ub R4 Xq Dq Uq Cq Bq Tk Zq Vq Kq Mp Gp Lp oq mq nq fq lq zp Ip Gq Fq NU Zj Kj dq cq bq uq xq vq kq zq yq jq Pk Nk Mk Fb Rp Po Tp Gk Hb gq jp gl Ij Ea Pa Sa Ra Aa Ta Bk Ck fj cj Ca Ba Ja Mj Oj Tj Sj Xa J4 Va t4 eT Ka Xp R9 P9 Ai Ti S9 Zp Hg OX Mg Lg Yp Cp Mh lj gj Vp Kp zh jh xh b9 Ia ma OB reduceIte"
def zzb:="rG cE zF DO T.isD lockA aF lock kill JF Tg.ix zC DT GL yP isMut BS frzAt OS V8 AC.eq_1 AC.eq_2 pK.eq_1 pK.eq_2 pK.eq_3 pK.eq_4 N0 L0 KH.eq_1 List.modify_succ_cons List.modify_zero_cons Option.map_some List.length_cons List.length_nil List.getElem?_cons_zero List.getElem?_cons_succ List.cons_append List.nil_append List.set_cons_zero List.set_cons_succ Nat.reduceAdd Nat.reduceSub Nat.zero_add Bool.and_true Bool.true_and Bool.not_true Bool.not_false Bool.or_true Bool.true_or Bool.or_false Bool.false_or Bool.and_false Bool.false_and if_true if_false Bool.false_eq_true true_and and_true false_implies ne_eq reduceCtorEq not_false_eq_true not_true_eq_false implies_true forall_const Int.reduceLT Int.reduceLE Int.reducePow Int.reduceNeg Nat.reducePow and_self eq_self Option.some.injEq Sl.own.injEq Sl.kw.injEq and_assoc decide_true decide_false"
set_option hygiene false in
local macro_rules | `(tactic| simp! [$ls,*])=>do
 let a<-(zza.splitOn " ").toArray.mapM λx=>`(Lean.Parser.Tactic.simpLemma| ↓ $(Lean.mkIdent x.toName):ident)
 let b<-(zzb.splitOn " ").toArray.mapM λx=>`(Lean.Parser.Tactic.simpLemma| $(Lean.mkIdent x.toName):ident)
 `(tactic| simp only [$ls,*,$a,*,$b,*])
set_option hygiene false in
local macro_rules | `(tactic| simp? [$ls,*])=>do
 let a<-(zza.splitOn " ").toArray.mapM λx=>`(Lean.Parser.Tactic.simpLemma| ↓ $(Lean.mkIdent x.toName):ident)
 let b<-(zzb.splitOn " ").toArray.mapM λx=>`(Lean.Parser.Tactic.simpLemma| $(Lean.mkIdent x.toName):ident)
 `(tactic| simp -implicitDefEqProofs only [$ls,*,$a,*,$b,*])
abbrev LS:=List QEF
abbrev LN:=List Nat
abbrev LJ:=List Int
abbrev LW:=List PySem.Value
namespace L2
open PySem PySem.Spec PyProof.Rows
section
variable{n m:Nat}{H:Hp}{a b:jv}{o:HO}
theorem szL(h:n<=16777216):n<=sizeLine:=by rw[qU];exact h
theorem Rq(h:n<16777216):n<sizeLine:=by rw[qU];exact h
theorem Sq(h:n<=m)(k:m<=16777216):n<=sizeLine:=szL (Qf h k)
theorem gr(h:n<=m)(k:m<16777216):n<sizeLine:=Rq (Wp h k)
theorem cr(h:n<=m)(k:m<=16777216):0+n<=sizeLine:=by rw[Wt];exact Sq h k
theorem br{k c:Nat}(h:n+k<c)(l:m<=k):n+m<c:=Wp (Nat.add_le_add_left l n) h
noncomputable abbrev Key:=Sum Int Str
noncomputable def lM:Key->Jw->Bool
 | .inl k,v=>Value.isInt k v|.inr x,v=>Value.isStrOf x v
noncomputable def dn(w:jw):Key->Int
 | .inl k=>hashInt k|.inr x=>hashStr w x
theorem MA:∀{k:Key}{v:Jw},lM k v=Jt->(∃i t,k=Sum.inl i/\v=Value.int i t)∨(∃x t,k=Sum.inr x/\v=Value.str x t)
 | .inl i,v,h=>by let#[t,e]:=Value.isInt_shape (k:=i) (v:=v) h;exact .inl #[i,t,rfl,e]|.inr x,v,h=>by let#[t,e]:=QCn (x:=x) (v:=v) h;exact .inr #[x,t,rfl,e]
theorem TW(i:Int)(t:Tok):lM (.inl i) (.int i t)=true:=by simp[lM,Value.isInt]
theorem SW(x:Str)(t:Tok):lM (.inr x) (.str x t)=true:=by simp[lM,Value.isStrOf]
theorem Pe(a b:Int):decide ((Sum.inl a:Key)=Sum.inl b)=(a==b):=by by_cases e:a=b;subst e;simp;have h:¬ (Sum.inl a:Key)=Sum.inl b:=λq=>e (Sum.inl.inj q);rw[dF h];exact(beq_eq_false_iff_ne.mpr e).symm
theorem Le(a b:Str):decide ((Sum.inr a:Key)=Sum.inr b)=decide (a=b):=by by_cases e:a=b;subst e;simp;have h:¬ (Sum.inr a:Key)=Sum.inr b:=λq=>e (Sum.inr.inj q);rw[dF h,dF e]
theorem Oe(a:Int)(b:Str):decide ((Sum.inl a:Key)=Sum.inr b)=false:=dF (λq=>nomatch q)
theorem Me(a:Str)(b:Int):decide ((Sum.inr a:Key)=Sum.inl b)=false:=dF (λq=>nomatch q)
def vB(prog:jt)(w:jw):PySem.KeyKind prog w Key where
 is:=lM
 hash:=dn w
 inj:=λv a b f hb=>by
  rcases MA f with⟨i,t,rfl,rfl⟩| ⟨x,t,rfl,rfl⟩
  rcases MA hb with⟨j,u,rfl,e⟩| ⟨y,u,rfl,e⟩
  ·injection e with e1 _;rw[e1]
  exact nomatch e;rcases MA hb with⟨j,u,rfl,e⟩| ⟨y,u,rfl,e⟩
  ·exact nomatch e
  injection e with e1 _;rw[e1]
 byValue:=λk v h=>by rcases MA h with⟨i,t,rfl,rfl⟩| ⟨x,t,rfl,rfl⟩<;>rfl
 pyHash:=λhv h=>by
  rcases MA hv with⟨i,t,rfl,rfl⟩| ⟨x,t,rfl,rfl⟩
  exact wpAny_pyHash_int h;exact QDe h
 eqBool:=λz hv h=>by
  rcases MA z with⟨i,t,rfl,rfl⟩| ⟨x,t,rfl,rfl⟩
  rcases MA hv with⟨j,u,rfl,rfl⟩| ⟨y,u,rfl,rfl⟩
  ·rw[Pe]at h;exact wpAny_eqBool_int h
  rw[Oe]at h;exact QCz i t y u _ _ _ _ h;rcases MA hv with⟨j,u,rfl,rfl⟩| ⟨y,u,rfl,rfl⟩
  ·rw[Me]at h;exact QC0 x t j u _ _ _ _ h
  rw[Le]at h;exact wpAny_eqBool_str h
 «strs»:=λk x t v h=>by
  rcases MA h with⟨i,u,rfl,e⟩| ⟨y,u,rfl,e⟩
  exact nomatch e;injection e with e1 _;subst e1;cases v<;>rfl
theorem uQ(prog:jt)(w:jw)(i:Int)(t:Tok):(vB prog w).is (.inl i) (.int i t)=true:=TW i t
theorem xQ(prog:jt)(w:jw)(x:Str)(t:Tok):(vB prog w).is (.inr x) (.str x t)=true:=SW x t
set_option genInjectivity true in
inductive V where
 |non|bl (b:Bool)|int (i:Int)|str (x:Str)|byt (b:Array UInt8)|flt (b:UInt64)|ref (a:jv)|ty (n:String)
 deriving DecidableEq
abbrev LV:=List V
def nA:V->Jw->Prop
 | .non,u=>u=Jz|.bl b,u=>u=Value.bool b|.int i,u=>∃t,u=Value.int i t|.str x,u=>∃t,u=Value.str x t|.byt b,u=>∃t,u=Value.bytes b t|.flt b,u=>∃t,u=Value.float b t|.ref a,u=>u=Jv a|.ty n,u=>u=Value.type n
noncomputable abbrev bA:LV->LW->Prop:=Kv nA
theorem bA.length{xs:LV}{us:LW}(r:bA xs us):xs.9=us.length:=qt r
theorem bA.get:∀{xs:LV}{us:LW}{i:Nat}{x:V},bA xs us->xs[i]?=Jr x->∃u,us[i]?=Jr u/\nA x u
 |_,_,_,_,.nil,e=>by simp at e|_,_,0,_,.cons r _,e=>by simp at e;subst e;exact#[_,rfl,r]|_,_,i+1,x,.cons _ t,e=>by let#[u,y,h]:=bA.get (i:=i) (x:=x) t (by simpa using e);exact#[u,by simpa using y,h]
theorem bA.set{x:V}{u:Jw}(r:nA x u):∀{xs:LV}{us:LW}(i:Nat),bA xs us->bA (xs.set i x) (us.set i u)
 |_,_,_,.nil=>.nil|_,_,0,.cons _ t=>.cons r t|_,_,i+1,.cons q t=>.cons q (bA.set r i t)
theorem bA.append:∀{xs h:LV}{us ws:LW},bA xs us->bA h ws->bA (xs++h) (us++ws)
 |_,_,_,_,.nil,s=>s|_,_,_,_,.cons r t,s=>.cons r (bA.append t s)
theorem bA.take:∀{xs:LV}{us:LW}(n:Nat),bA xs us->bA (xs.take n) (us.take n)
 |_,_,0,_=>.nil|_,_,_+1,.nil=>.nil|_,_,n+1,.cons r t=>.cons r (bA.take n t)
theorem bA.drop:∀{xs:LV}{us:LW}(n:Nat),bA xs us->bA (xs.drop n) (us.drop n)
 |_,_,0,r=>r|_,_,_+1,.nil=>.nil|_,_,n+1,.cons _ t=>bA.drop n t
def uR:Option V->Option Jw->Prop
 |some v,Jr u=>nA v u|none,Js=>True|_,_=>False
def KV{κ:Type}:List (κ×V)->List (κ×Jw)->Prop:=Kv λ(p:κ×V) (q:κ×Jw)=>p.1=q.1/\nA p.2 q.2
def kV:Key->V
 | .inl i=>.int i|.inr x=>.str x
inductive HO where
 |lst (xs:LV)
 |tup (xs:LV)
 |dK (kvs:List (Key×V))|dT (ep:Nat) (kvs:List (List Key×jv×V))
 |set (S:Int->Bool) (n:Nat)
 |ins (C dx:jv) (fs:List (Str×V))
 |own (x:jv)
 |xd (fs:List (Str×V))
 |met (f x:jv)
 |rng (lo hi:Int)
 |frz (o:Obj) (u:HO)
 |tbl (ps:Array Jw)
 |ext (φ:j0->Prop)
noncomputable abbrev Hp:=jv->Option HO
noncomputable def XA(H:Hp)(a:jv)(o:HO):Hp:=λb=>if b=a then Jr o else H b
theorem ZA:XA H a o a=Jr o:=by unfold XA;rw[hQ rfl]
theorem xA(h:b≠a):XA H a o b=H b:=by unfold XA;rw[hI h]
theorem M5{u:HO}:XA (XA H a o) a u=XA H a u:=by funext b;unfold XA;split<;>rfl
theorem aA(h:H a=Jr o)(h':H b=Js):a≠b:=by intro e;subst e;rw[h]at h';cases h'
end
section
variable(P:jt)(w:jw)
def VA(H:Hp)(h:j0)(a:jv):HO->Prop
 | .lst k=>k.9<=jz/\∃(z:LW) (n:Nat),bA k z/\h.get? a=Jr { cls:=.type "list",data:=.seq z.toArray n }|.tup k=>k.9<=jz/\∃z:LW,bA k z/\IsTup h a z.toArray|.dK y=>y.9<=jz/\(a==Kt)=Ju/\∃i,KV y i/\h.DictOf (vB P w) a i|.dT Y y=>y.9<=jz/\(a==Kt)=Ju/\∃k:List (List Key×jv×Jw),
   Kv (λ(p:List Key×jv×V) (q:List Key×jv×Jw)=>p.1=q.1/\p.2.1=q.2.1/\nA p.2.2 q.2.2) y k /\
   ∃o m,h.get? a=Jr o/\o.ExactDict/\o.data=.dict m Y/\m.toList=k.map (Vv (vx (vB P w)))/\(k.map (·.1)).Nodup
 | .set S n=>h.SetOf (intKind P w) a S n|.ins C e fs=>H e=Jr (.own a)/\fs.9<=1000/\e≠a/\h.get? a=Jr (QCG C e) /\
   ∃b,h.Ns1 e b/\(∀f,uR (fs.lookup f) (b f))/\PySem.Within b (fs.map (·.1))
 | .own _=>∃o,h.get? a=Jr o|.xd fs=>∃b,h.Ns1 a b/\∀f,uR (fs.lookup f) (b f)|.rng s X=>∃t u v,h.get? a=Jr { cls:=.type "range",data:=.fields (Wb [.int s t,.int X u,.int 1 v]) }|.frz o u=>h.get? a=Jr o/\VA H h a u|.tbl r=>h.get? a=Jr { cls:=.none,data:=.fields r }|.met f x=>h.get? a=Jr (QBc (.ref f) (.ref x))|.ext g=>g h/\(∃o,h.get? a=Jr o)/\∀l j:j0,g l->(∀o,l.get? a=Jr o->j.get? a=Jr o)->g j
def iJ(H:Hp)(h:j0):Prop:=∀a o,H a=Jr o->VA P w H h a o
end
section
variable{P:jt}{w:jw}{H g:Hp}{h h':j0}{a:jv}{o:HO}
theorem VA.lt(x:VA P w H h a o):a<h.1.size:=by
 cases o with|lst v=>let#[_,_,_,_,e]:=x;exact QR e|tup v=>let#[_,_,_,p]:=x;exact p.lt|dK z=>let#[_,_,_,_,o,_,_,e,_]:=x;exact QR e|dT m z=>let#[_,_,_,_,o,_,e,_]:=x;exact QR e|set S n=>let#[o,_,_,_,e,_]:=x;exact QR e|ins C q fs=>let#[_,_,_,e,_]:=x;exact QR e|own y=>let#[_,e]:=x;exact QR e|xd fs=>let#[_,#[_,_,_,e,_],_]:=x;exact QR e|rng j l=>let#[_,_,_,e]:=x;exact QR e|frz i u=>let#[e,_]:=x;exact QR e|tbl b=>exact QR (show h.get? a=Jr _ from x)|met f y=>exact QR (show h.get? a=Jr _ from x)|ext k=>let#[_,#[_,e],_]:=x;exact QR e
theorem VA.stay(x:VA P w H h a o)(k:∀b u,(b=a∨H b=Jr (.own a))->h.get? b=Jr u->h'.get? b=Jr u)
  (B:∀b,H b=Jr (.own a)->g b=Jr (.own a)) (I:∀b xs,H b=Jr (.tup xs)->g b=Jr (.tup xs)):VA P w g h' a o:=by
 induction o with|lst xs=>let#[z,m,n,r,e]:=x;exact#[z,m,n,r,k _ _ (.inl rfl) e]|tup xs=>let#[z,m,r,i,e,c]:=x;exact#[z,m,r,i,k _ _ (.inl rfl) e,c]|dK Y=>let#[z,y,W,r,i,j,l,e,c]:=x;exact#[z,y,W,r,i,j,l,k _ _ (.inl rfl) e,c]|dT l Y=>let#[z,y,xs,r,i,j,e,c]:=x;exact#[z,y,xs,r,i,j,k _ _ (.inl rfl) e,c]|set S n=>let#[i,j,l,t,e,c]:=x;exact#[i,j,l,t,k _ _ (.inl rfl) e,c]|ins C L fs=>let#[d,z,K,e,X,#[s,j,l,E,c],r]:=x;exact#[B _ d,z,K,k _ _ (.inl rfl) e,X,#[s,j,l,k _ _ (.inr d) E,c],r]|own y=>let#[i,e]:=x;exact#[i,k _ _ (.inl rfl) e]|xd fs=>let#[X,#[s,j,l,e,c],r]:=x;exact#[X,#[s,j,l,k _ _ (.inl rfl) e,c],r]|rng G J=>let#[t,u,v,e]:=x;exact#[t,u,v,k _ _ (.inl rfl) e]|frz i u A=>let#[e,q]:=x;exact#[k _ _ (.inl rfl) e,A q]|tbl Z=>have e:h.get? a=Jr { cls:=.none,data:=.fields Z }:=x;show h'.get? a=Jr { cls:=.none,data:=.fields Z };exact k a _ (.inl rfl) e|met f y=>have e:h.get? a=Jr (QBc (.ref f) (.ref y)):=x;show h'.get? a=Jr (QBc (.ref f) (.ref y));exact k a _ (.inl rfl) e|ext F=>let#[p,#[o,e],st]:=x;exact#[st _ _ p λo q=>k _ _ (.inl rfl) q,#[o,k _ _ (.inl rfl) e],st]
theorem iJ.lt(x:iJ P w H h)(e:H a=Jr o):a<h.1.size:=(x a o e).lt
theorem iJ.fresh(x:iJ P w H h)(e:h.1.size<=a):H a=none:=by
 cases q:H a with|none=>rfl|some u=>exact h7 (Qt (x.lt q) e) (wq _)
theorem iJ.kept(x:iJ P w H h)(k:∀b u,h.get? b=Jr u->h'.get? b=Jr u):iJ P w H h':=λa o e =>
 (x a o e).stay (λb u _ q=>k b u q) (λ_ q=>q) λ_ _ q=>q
theorem iJ.laid(x:iJ P w H h)(k:∀b u,h.get? b=Jr u->h'.get? b=Jr u)(z:h.1.size<=a)(new:VA P w (XA H a o) h' a o):iJ P w (XA H a o) h':=λb u e=>by have y:=x.fresh z;by_cases hb:b=a;subst hb;rw[ZA]at e;cases e;exact new;rw[xA hb]at e;exact(x b u e).stay (λc v _ q=>k c v q) (λc q=>by rw[xA (aA q y)];exact q) λc f q=>by rw[xA (aA q y)];exact q
end
def Rd(H:Hp)(a:jv)(u:HO):Prop:=H a=Jr u∨∃o,H a=Jr (.frz o u)
theorem Rd.ok{P:jt}{w:jw}{H:Hp}{h:j0}{a:jv}{u:HO}(r:Rd H a u)(x:iJ P w H h):VA P w H h a u:=by
 rcases r with r|⟨o,r⟩
 exact x a u r;let#[_,q]:=x a _ r;exact q
def Dg:Option HO->Prop
 |some (.lst _)=>True|some (.dK _)=>True|some (.dT _ _)=>True|some (.set _ _)=>True|some (.ins _ _ _)=>True|some (.ext _)=>True|_=>False
section
variable{P:jt}{w:jw}{H:Hp}{h h':j0}{x e:jv}{a:HO}
theorem iJ.write(ok:iJ P w H h)(l:Dg (H x))(o:e=x∨H e=Jr (.own x))(k:∀b u,b≠e->h.get? b=Jr u->h'.get? b=Jr u)(m:∃u,h'.get? e=Jr u)
  (new:VA P w (XA H x a) h' x a):iJ P w (XA H x a) h':=λb u q=>by
 have g:∀c y,H c=Jr (.own y)->c≠x:=λc y r z=>by subst z;rw[r]at l;exact l
 have i:∀c j,H c=Jr (.tup j)->c≠x:=λc j r z=>by subst z;rw[r]at l;exact l
 by_cases hb:b=x;subst hb;rw[ZA]at q;cases q;exact new;rw[xA hb]at q;by_cases f:b=e;have n:H b=Jr (.own x):=by rcases o with z|z;exact h7 (f.trans z) hb;rw[f];exact z
 rw[q]at n;cases n;let#[v,hv]:=m;exact#[v,by rw[f];exact hv];refine(ok b u q).stay (λc v hc r=>k c v ?_ r) (λc r=>by rw[xA (g c b r)];exact r) λc j r=>by rw[xA (i c j r)];exact r
 rcases hc with rfl|hc;exact f;rintro rfl;rcases o with z|z;exact g c b hc z;rw[hc]at z;cases z;exact hb rfl
end
structure Un(fs ex:List jv)(H H':Hp)(h h':j0):Prop where
 keep:∀b o,h.get? b=Jr o->H b=Js->b∉fs->b∉ex->h'.get? b=Jr o
 slot:∀b o,h.get? b=Jr o->H b=Js->b∈fs->b∉ex->∃sl,h'.get? b=Jr { o with slots:=sl }
 free:∀b o,h.get? b=Jr o->H b=Js->b∉ex->H' b=Js
 there:∀b o,h.get? b=Jr o->b∉ex->∃o',h'.get? b=Jr o'
 tups:∀b xs,H b=Jr (.tup xs)->H' b=Jr (.tup xs)
 frzs:∀b o u,H b=Jr (.frz o u)->H' b=Jr (.frz o u)
 tbls:∀b ps,H b=Jr (.tbl ps)->∃more,H' b=Jr (.tbl (ps++more))
section
variable{fs v ex w:List jv}{H c f:Hp}{h y d h':j0}{a x e:jv}{o:HO}
theorem Un.any(u:Un fs ex H c h y){b:jv}{z:Obj}(q:h.get? b=Jr z)(n:H b=Js)(k:b∉ex):∃g,y.get? b=Jr { z with slots:=g }:=by by_cases hb:b∈fs;exact u.slot b z q n hb k;exact#[z.slots,u.keep b z q n hb k]
theorem Un.kept(k:∀b u,h.get? b=Jr u->h'.get? b=Jr u):Un fs ex H H h h' :=
 #[λb z q _ _ _=>k b z q,λb z q _ _ _=>#[z.slots,k b z q],λ_ _ _ n _=>n,λb z q _=>#[z,k b z q],λ_ _ q=>q,λ_ _ _ q=>q,λ_ g q=>#[#[],by rw[q];simp]]
theorem Un.refl:Un fs ex H H h h:=Un.kept λ_ _ q=>q
theorem Un.laid(k:∀b u,h.get? b=Jr u->h'.get? b=Jr u)(i:h.1.size<=a)(z:H a=Js):Un fs ex H (XA H a o) h h' where
 keep:=λb u q _ _ _=>k b u q
 slot:=λb u q _ _ _=>#[u.slots,k b u q]
 free:=λb u q n _=>by rw[xA (Qc (Qt (QR q) i))];exact n
 there:=λb u q _=>#[u,k b u q]
 tups:=λb g q=>by rw[xA (aA q z)];exact q
 frzs:=λb u g q=>by rw[xA (aA q z)];exact q
 tbls:=λb j q=>#[#[],by rw[xA (aA q z),q];simp]
theorem Un.write(i:Dg (H x))(p:e=x∨H e=Jr (.own x))(k:∀b u,b≠e->h.get? b=Jr u->h'.get? b=Jr u)(j:∃u,h'.get? e=Jr u):Un fs ex H (XA H x o) h h':=by
 have l:∀b,H b=Js->b≠x:=λb n z=>by subst z;rw[n]at i;exact i
 have hb:∀b,H b=Js->b≠e:=λb n z=>by subst z;rcases p with r|r;exact l b n r;rw[n]at r;cases r
 have hm:∀b u,H b=Jr u->¬ Dg (Jr u)->b≠x:=λb u q nm z=>by subst z;rw[q]at i;exact nm i
 refine#[λb u q n _ _=>k b u (hb b n) q,λb u q n _ _=>#[u.slots,k b u (hb b n) q],λb u q n _=>by rw[xA (l b n)];exact n,λb u q _=>?_,
  λb m q=>by rw[xA (hm b _ q λz=>z)];exact q,λb u m q=>by rw[xA (hm b _ q λz=>z)];exact q,λb s q=>#[#[],by rw[xA (hm b _ q λz=>z),q];simp]]
 by_cases g:b=e;subst g;exact j;exact#[u,k b u g q]
end
section
variable{h:j0}{b:jv}{o:Obj}
noncomputable def Yl(h:j0)(H:Hp):List Addr:=(Qm h.1.size).filter λa=>(H a).isSome
def yO(h:j0)(H:Hp):Heap:=PySem.W.hideAll h (Yl h H)
theorem jX(h:j0)(H:Hp):(yO h H).1.size=h.1.size:=PySem.W.hideAll_size _ _
theorem B2{H:Hp}(e:h.get? b=Jr o)(n:H b=Js):(yO h H).get? b=Jr o :=
 PySem.W.hideAll_get _ e λhm=>by have q:(H b).isSome=true:=(QZ.mp hm).2;rw[n]at q;simp at q
theorem i7{H:Hp}(e:(yO h H).get? b=Jr o):h.get? b=Jr o/\H b=none:=by
 have y:h.get? b=Jr o:=PySem.W.of_hideAll (Yl h H) e;refine#[y,?_];cases q:H b with|none=>rfl|some x=>have hm:b∈Yl h H:=QZ.mpr #[Q8.mpr (QR y),by simp[q]];have z:(yO h H).get? b=none:=PySem.W.hideAll_none (Yl h H) hm;rw[z]at e;cases e
structure Mod(K:QE)(mg:Str->Option Jw)(base:j0):Prop where
 kin:K.In base
 glob:base.Ns ju mg
 blt:∃mb,base.Ns yu mb/\∀x:Str,x≠"__name__"->mb x=Ku x
 nolimit:base.NoLimit
structure Cx where
 prog:jt
 w:jw
 K:QE
 mg:Str->Option Jw
 base:j0
 A:j2
 N:LS
 s₀:jx
 H₀:Hp
 env:Env
 outer:List Env
 stack:List Env
 ex:List jv
 fn:Str->Bool
 calm:Bool
 pn:MB
 xe:Jw->jx->Prop
def uX(l:List Env):List Addr:=l.filterMap (·.frame)
noncomputable abbrev Cx.fs(X:Cx):List Addr:=uX X.outer
def Xk(sc:kl)(x:Str):Prop:=sc.names.lookup x=Jr .local∨sc.names.lookup x=Jr .cell∨sc.names.lookup x=Jr .free
def Fg(sc:kl)(x:Str):Prop:=sc.names.lookup x=Jr .local∨sc.names.lookup x=Jr .cell
def Eo(env:Env)(h:j0)(m:Str->Option Jw)(x:Str)(u:Jw):Prop :=
 (env.kindOf x=Jr .local/\m x=Jr u)∨((env.kindOf x=Jr .cell∨env.kindOf x=Jr .free)/\∃c,env.cells.lookup x=Jr c/\h.IsCell c (Jr u))
structure Cx.Ok(X:Cx):Prop where
 mod:Mod X.K X.mg X.base
 kind:X.env.scope.kind=.function
 glob:X.env.globals=ju
 blt:X.env.builtins=yu
 above:X.s₀.1.1.size<=X.env.locals
 inj:∀x y c,X.env.cells.lookup x=Jr c->X.env.cells.lookup y=Jr c->x=y
 has:∀x,(X.env.kindOf x=Jr .cell∨X.env.kindOf x=Jr .free)->∃c,X.env.cells.lookup x=Jr c
 cab:∀x c,X.fn x=Jt->X.env.cells.lookup x=Jr c->X.s₀.1.1.size<=c
 hd:X.calm=Jt->X.A.handled=Js
 frames:X.A.frames=Jr X.stack
 stk:X.stack=X.outer∨(X.stack=X.env::X.outer/\X.env.frame=Jr X.env.locals)
 exf:∀b∈X.ex,b≠X.env.locals/\∀x c,X.env.cells.lookup x=Jr c->c≠b
 bs:∀b o,X.base.get? b=Jr o->X.s₀.1.get? b=Jr o/\X.H₀ b=Js
 bsz:X.base.1.size<=X.s₀.1.1.size
 noex:∀b o,X.base.get? b=Jr o->b∉X.ex
 exfs:∀b∈X.ex,b∉X.fs
 funs:X.s₀.1.FunFrames X.base X.outer
 frf:∀b∈X.fs,X.H₀ b=Js
structure Inv(X:Cx)(pins:MB)(σ:List (Option V))(H:Hp)(s:jx):Prop where
 ok:X.Ok
 os:s.os=X.s₀.os
 bare:gw s.gens
 base:Un X.fs X.ex X.H₀ H X.s₀.1 s.1
 loc:∃m,s.1.Ns X.env.locals m/\∀(i:Nat) (x:Str) (v:V),X.N[i]?=Jr x->σ[i]?=Jr (Jr v)->Xk X.env.scope x->∃u,nA v u/\Eo X.env s.1 m x u
 cell:∀x c,X.env.cells.lookup x=Jr c->∃v,s.1.IsCell c v
 free:H X.env.locals=Js
 freeC:∀x c,X.env.cells.lookup x=Jr c->H c=Js
 pin:∀p∈X.pn++pins,s.1.get? p.1=Jr p.2/\H p.1=Js/\p.1≠X.env.locals/\p.1∉X.fs/\∀v,p.2.data≠.cell v
 hok:iJ X.prog X.w H s.1
 len:σ.9=X.N.9
end
section
variable{X:Cx}{f:MB}{σ:List (Option V)}{H g:Hp}{s:jx}{h':j0}
section
variable{a:jv}{g':Array GenState}{ch:List jv}{i:Nat}{x:Str}{M:Model}{A:j2}{E:ZB}{u:Jw}{Q:Unit->jx->Prop}
theorem Cx.Ok.nofr(ok:X.Ok){b:jv}{o:Obj}(e:X.base.get? b=Jr o):b∉X.fs:=λhb=>by have:=(ok.funs.mem hb).1;rw[e]at this;cases this
theorem Inv.bs(I:Inv X f σ H s):∀b o,X.base.get? b=Jr o->s.1.get? b=Jr o/\H b=none:=λb o e =>
 #[I.base.keep b o (I.ok.bs b o e).1 (I.ok.bs b o e).2 (I.ok.nofr e) (I.ok.noex b o e),I.base.free b o (I.ok.bs b o e).1 (I.ok.bs b o e).2 (I.ok.noex b o e)]
theorem Inv.bk(I:Inv X f σ H s):∀b o,X.base.get? b=Jr o->s.1.get? b=Jr o:=λb o e=>(I.bs b o e).1
theorem Inv.mod(I:Inv X f σ H s):Mod X.K X.mg X.base:=I.ok.mod
theorem Inv.kIn(I:Inv X f σ H s):X.K.In s.heap:=I.ok.mod.kin.keeps I.bk
theorem Inv.lt(I:Inv X f σ H s):X.env.locals<s.1.1.size:=let#[_,h,_]:=I.loc;h.lt
theorem Inv.sz(I:Inv X f σ H s):X.s₀.1.1.size<=s.1.1.size:=Qf I.ok.above (QAo I.lt)
theorem Inv.nofs(I:Inv X f σ H s)(h:s.1.1.size<=a):a∉X.fs:=λhb=>by let#[_,o,y,_]:=I.ok.funs.mem hb;exact h7 (Qt (QR y) (Qf I.sz h)) (wq _)
theorem Inv.cne(I:Inv X f σ H s):∀x c,X.env.cells.lookup x=Jr c->c≠X.env.locals:=λx c e z=>by let#[v,o,w,k]:=I.cell x c e;let#[m,#[b,j,l,h,y,_],_]:=I.loc;rw[z,h]at w;cases w;rw[y]at k;cases k
theorem Inv.funs(I:Inv X f σ H s):s.1.FunFrames X.base X.outer:=by
 have all:∀(l:List Env),(∀b∈uX l,b∈X.fs)->X.s₀.1.FunFrames X.base l->s.1.FunFrames X.base l:=by
  intro l;induction l with|nil=>intro _ _;trivial|cons n r v=>intro hs hl;let#[hk,#[L,o,h,j,k,m],w]:=hl;have y:L∈X.fs:=hs L (by unfold uX;rw[wQ,h];exact QD);let#[p,e]:=I.base.slot L o k (I.ok.frf L y) y λz=>I.ok.exfs L z y;exact#[hk,#[L,_,h,j,e,m],v (λb hb=>hs b (by unfold uX;rw[wQ,h];exact QC _ hb)) w]
 exact all X.outer (λ_ hb=>hb) I.ok.funs
theorem Inv.stack(I:Inv X f σ H s):s.1.FunFrames X.base X.stack:=by
 rcases I.ok.stk with e|⟨e,y⟩
 rw[e];exact I.funs;rw[e];let#[m,h,_]:=I.loc;refine .cons (by rw[I.ok.kind];decide) y h ?_ I.funs;exact Heap.get?_none_of_le (Qf I.ok.bsz I.ok.above)
theorem Inv.stkSub(I:Inv X f σ H s):∀b∈uX X.stack,b∈X.env.locals::X.fs:=λb hb=>by
 rcases I.ok.stk with e|⟨e,h⟩
 rw[e]at hb;exact QC _ hb;rw[e]at hb;unfold uX at hb;rw[wQ,h]at hb;exact hb
theorem Inv.stkFree(I:Inv X f σ H s):∀b∈uX X.stack,H b=none:=λb hb=>by rcases QK.mp (I.stkSub b hb) with e|hb;rw[e];exact I.free;let#[_,o,h,_]:=I.ok.funs.mem hb;exact I.base.free b o h (I.ok.frf b hb) λz=>I.ok.exfs b z hb
theorem Inv.step{t':Nat}{d':Drawn}(I:Inv X f σ H s)
  (j:∀b∈ch,(b∈X.ex∨X.s₀.1.1.size<=b)/\b≠X.env.locals/\(∀x c,X.env.cells.lookup x=Jr c->c≠b)/\∀p∈X.pn++f,p.1≠b)
  (keep:∀b o,b≠X.env.locals->b∉X.fs->b∉ch->s.1.get? b=Jr o->H b=Js->h'.get? b=Jr o)
  (K:∀b o,b≠X.env.locals->b∈X.fs->b∉ch->s.1.get? b=Jr o->H b=Js->∃S,h'.get? b=Jr { o with slots:=S }) (free:∀b o,b∉ch->s.1.get? b=Jr o->H b=Js->g b=Js)
  (B:∀b o,b∉ch->s.1.get? b=Jr o->∃J,h'.get? b=Jr J)
  (F:∀b xs,H b=Jr (.tup xs)->g b=Jr (.tup xs)) (N:∀b o u,H b=Jr (.frz o u)->g b=Jr (.frz o u)) (G:∀b P,H b=Jr (.tbl P)->∃more,g b=Jr (.tbl (P++more)))
  (ns:∀m,s.1.Ns X.env.locals m->h'.Ns X.env.locals m) (hok:iJ X.prog X.w g h') (hg:gw g') :
  Inv X f σ g { s with heap:=h',gens:=g',drawn:=d',toks:=t' }:=by
 have L:∀b o,X.s₀.1.get? b=Jr o->b≠X.env.locals:=λb o e=>Qc (Qt (QR e) I.ok.above);have Z:∀b o,X.s₀.1.get? b=Jr o->b∉X.ex->b∉ch:=λb o e h hb=>by rcases(j b hb).1 with z|z;exact h z;exact h7 (Qt (QR e) z) (wq _)
 have Y:∀x c,X.env.cells.lookup x=Jr c->∀v,s.1.IsCell c v->h'.IsCell c v:=λx c e v #[o,C,hd]=>by have y:c∉ch:=λz=>(j c z).2.2.1 x c e rfl;by_cases hc:c∈X.fs;let#[S,q]:=K c o (I.cne x c e) hc y C (I.freeC x c e);exact#[_,q,hd];exact#[o,keep c o (I.cne x c e) hc y C (I.freeC x c e),hd]
 refine#[I.ok,I.os,hg,#[λb o e n hb h=>?_,λb o e n hb h=>?_,λb o e n h=>?_,λb o e h=>?_,λb xs e=>F b xs (I.base.tups b xs e),λb o xs e=>N b o xs (I.base.frzs b o xs e),λb P e=>?_],?_,λx c e=>?_,?_,λx c e=>?_,λp hp=>?_,hok,I.len];exact keep b o (L b o e) hb (Z b o e h) (I.base.keep b o e n hb h) (I.base.free b o e n h);let#[S,W]:=I.base.slot b o e n hb h;let#[R,O]:=K b _ (L b o e) hb (Z b o e h) W (I.base.free b o e n h);exact#[R,O];let#[J,W]:=I.base.there b o e h;exact free b J (Z b o e h) W (I.base.free b o e n h);let#[J,W]:=I.base.there b o e h;exact B b J (Z b o e h) W;let#[m1,W]:=I.base.tbls b P e;let#[m2,O]:=G b _ W;exact#[m1++m2,by rw[O,Array.append_assoc]];let#[m,hn,hl]:=I.loc;refine#[m,ns m hn,λi x v W O e3=>?_];let#[u,r,l]:=hl i x v W O e3;refine#[u,r,?_];rcases l with l|⟨k,c,e,z⟩
 exact .inl l;exact .inr #[k,c,e,Y x c e _ z];let#[v,z]:=I.cell x c e;exact#[v,Y x c e v z];let#[m,#[o,_,_,C,_],_]:=I.loc;exact free _ o (λz=>(j _ z).2.1 rfl) C I.free;let#[v,o,C,hd]:=I.cell x c e;exact free c o (λz=>(j c z).2.2.1 x c e rfl) C (I.freeC x c e);let#[e,n,ne,nf,d]:=I.pin p hp;have y:p.1∉ch:=λz=>(j p.1 z).2.2.2 p hp rfl;exact#[keep p.1 p.2 ne nf y e n,free p.1 p.2 y e n,ne,nf,d]
theorem Inv.un{t':Nat}(I:Inv X f σ H s)(u:Un X.fs [] H g s.1 h')(y:iJ X.prog X.w g h'):Inv X f σ g { s with heap:=h',toks:=t' }:=by let#[m,#[o,W,K,j,r],_]:=id I.loc;let#[q,p]:=u.any j I.free (by simp);exact I.step (g':=s.gens) (d':=s.drawn) (ch:=[]) (λ_ z=>nomatch z) (λb o _ hb _ e n=>u.keep b o e n hb (by simp)) (λb o _ hb _ e n=>u.slot b o e n hb (by simp)) (λb o _ e n=>u.free b o e n (by simp)) (λb o _ e=>u.there b o e (by simp)) u.tups u.frzs u.tbls (λZ hm=>by let#[Y,v,k,h,l]:=hm;rw[j]at h;cases h;exact#[_,v,k,p,l]) y I.bare
theorem Inv.call{t':Nat}{d':Drawn}(I:Inv X f σ H s)(u:Un (uX X.stack) ch H g s.1 h')(v:iJ X.prog X.w g h')(Z:gw g')
  (y:∀b∈ch,(b∈X.ex∨X.s₀.1.1.size<=b)/\b≠X.env.locals/\(∀x c,X.env.cells.lookup x=Jr c->c≠b)/\∀p∈X.pn++f,p.1≠b) :
  Inv X f σ g { s with heap:=h',gens:=g',drawn:=d',toks:=t' }:=by
 let#[m,#[o,C,F,q,r],_]:=id I.loc;let#[W,k]:=u.any q I.free λz=>(y _ z).2.1 rfl;exact I.step (ch:=ch) y (λb o k hb hc e n=>u.keep b o e n (λz=>(QK.mp (I.stkSub b z)).elim k hb) hc) (λb o _ _ hc e n=>u.any e n hc) (λb o hc e n=>u.free b o e n hc) (λb o hc e=>u.there b o e hc) u.tups u.frzs u.tbls (λB hm=>by let#[K,j,l,h,Y]:=hm;rw[q]at h;cases h;exact#[_,j,l,k,Y]) v Z
theorem Inv.turned{t':Nat}{it:jv}(I:Inv X f σ H s)(k:∀b o,b≠it->s.1.get? b=Jr o->h'.get? b=Jr o)(j:H it=Js)(y:it≠X.env.locals)
  (Z:it∈X.ex∨X.s₀.1.1.size<=it) (Y:∀x c,X.env.cells.lookup x=Jr c->c≠it) (l:∀p∈X.pn++f,p.1≠it):Inv X f σ H { s with heap:=h',toks:=t' }:=by
 have h:∀b u,H b=Jr u->b≠it:=λb u e z=>by rw[z,j]at e;cases e
 refine I.step (g':=s.gens) (d':=s.drawn) (ch:=[it]) (λb hb=>?_) (λb o _ _ hc e _=>k b o (λz=>hc (by simp[z])) e) (λb o _ _ hc e _=>#[o.slots,k b o (λz=>hc (by simp[z])) e]) (λ_ _ _ _ n=>n)
  (λb o hc e=>#[o,k b o (λz=>hc (by simp[z])) e]) (λ_ _ e=>e) (λ_ _ _ e=>e) (λb B e=>#[#[],by rw[e];simp]) (λm hm=>?_) (λb u e=>?_) I.bare
 have e:b=it:=by simpa using hb
 subst e;exact#[Z,y,Y,l];let#[o,W,K,w,r]:=hm;exact#[o,W,K,k _ o (qC y) w,r];refine(I.hok b u e).stay (λc v hc q=>k c v ?_ q) (λ_ q=>q) λ_ _ q=>q;rcases hc with z|z;rw[z];exact h b u e;exact h c _ z
theorem Inv.tok(I:Inv X f σ H s)(t:Nat):Inv X f σ H { s with toks:=t }:=I.un (h':=s.1) (t':=t) Un.refl I.hok
theorem Inv.kept{t':Nat}(I:Inv X f σ H s)(k:∀b u,s.1.get? b=Jr u->h'.get? b=Jr u):Inv X f σ H { s with heap:=h',toks:=t' }:=I.un (Un.kept k) (I.hok.kept k)
theorem Inv.laid{o:HO}{t':Nat}(I:Inv X f σ H s)(k:∀b u,s.1.get? b=Jr u->h'.get? b=Jr u)(h:s.1.1.size<=a)(new:VA X.prog X.w (XA H a o) h' a o) :
  Inv X f σ (XA H a o) { s with heap:=h',toks:=t' }:=I.un (Un.laid k h (I.hok.fresh h)) (I.hok.laid k h new)
theorem Inv.write{x e:jv}{o:HO}{t':Nat}(I:Inv X f σ H s)(y:Dg (H x))(z:e=x∨H e=Jr (.own x))(k:∀b u,b≠e->s.1.get? b=Jr u->h'.get? b=Jr u)(h:∃u,h'.get? e=Jr u)
  (new:VA X.prog X.w (XA H x o) h' x o):Inv X f σ (XA H x o) { s with heap:=h',toks:=t' }:=I.un (Un.write y z k h) (I.hok.write y z k h new)
theorem Inv.pins_of{y:MB}(I:Inv X f σ H s)(h:∀p∈y,s.1.get? p.1=Jr p.2/\H p.1=Js/\p.1≠X.env.locals/\p.1∉X.fs/\∀v,p.2.data≠.cell v):Inv X y σ H s :=
 #[I.ok,I.os,I.bare,I.base,I.loc,I.cell,I.free,I.freeC,λp w=>(QW.mp w).elim (λz=>I.pin p (Qg _ z)) (h p),I.hok,I.len]
theorem yQ{N:LS}(h:N.Nodup){j:Nat}(a:N[i]?=Jr x)(b:N[j]?=Jr x):i=j:=by let#[w,z]:=Qd.mp a;let#[v,y]:=Qd.mp b;exact(List.getElem_inj h).mp (z.trans y.symm)
theorem LL{v:V}(I:Inv X f σ H s)(hN:X.N.Nodup)(L:X.N[i]?=Jr x)(Z:Fg X.env.scope x)(r:nA v u)
  (h:∀s',Inv X f (σ.set i (Jr v)) H s'->(∃a,qS a s.1 s'.1/\(a=X.env.locals∨X.env.cells.lookup x=Jr a))->Q Unit.unit s') (hf:X.fn x=Jt∨X.env.scope.names.lookup x=Jr .local):jy M A (storeName X.env x u) Q E s:=by
 let#[m,hn,hl]:=id I.loc;have O:(X.env.scope.kind==.class||(X.env.scope.kind==.module&&X.env.locals != X.env.globals))=false:=by rw[I.ok.kind];rfl
 have B:i<σ.length:=by rw[I.len];exact(Qd.mp L).1
 have cne:=I.cne;have l:∀{a:jv}{h':j0},(∃o,s.1.get? a=Jr o/\H a=Js)->qS a s.1 h'->iJ X.prog X.w H h':=λ{a h'} ha hs b ob e=>by let#[_,_,W]:=ha;refine(I.hok b ob e).stay (λc S hc q=>(hs.2 c ?_).trans q) (λ_ q=>q) λ_ _ q=>q;rintro rfl;rcases hc with rfl|hc;rw[W]at e;cases e;rw[W]at hc;cases hc
 rcases Z with hk|hk;refine wpAny_storeName_local hk hn (λh' hn' hs=>?_) O;let#[oL,_,_,hoL,_]:=id hn;refine h _ #[I.ok,I.os,I.bare,#[λb o e n hb Z=>?_,λb o e n hb Z=>?_,I.base.free,λb o e Z=>?_,I.base.tups,I.base.frzs,I.base.tbls],#[_,hn',λj y v' Y K e3=>?_],λy c e=>?_,I.free,I.freeC,λp hp=>?_,l #[oL,hoL,I.free] hs,by simpa using I.len] #[_,hs,.inl rfl];exact(hs.2 b (Qc (Qt (QR e) I.ok.above))).trans (I.base.keep b o e n hb Z);let#[sl,Y]:=I.base.slot b o e n hb Z;exact#[sl,(hs.2 b (Qc (Qt (QR e) I.ok.above))).trans Y];let#[o',Y]:=I.base.there b o e Z;exact#[o',(hs.2 b (Qc (Qt (QR e) I.ok.above))).trans Y];by_cases C:j=i
 ·subst C
  rw[L]at Y;cases Y;rw[qy B]at K;cases K;exact#[u,r,.inl #[hk,by simp]]
 rw[qi (qC C)]at K;let#[u',r',q]:=hl j y v' Y K e3;refine#[u',r',?_];rcases q with⟨k,e⟩| ⟨k,c,e,z⟩
 refine .inl #[k,?_];have:y≠x:=λe=>C (yQ hN Y (e▸L));simp[this,e];exact .inr #[k,c,e,z.sameBut hs (cne y c e)];let#[S,z]:=I.cell y c e;exact#[S,z.sameBut hs (cne y c e)];let#[e,n,ne,nf,d]:=I.pin p hp;exact#[(hs.2 p.1 ne).trans e,n,ne,nf,d];have F:X.fn x=true:=by rcases hf with z|z;exact z;rw[z]at hk;cases hk
 let#[c,hc]:=I.ok.has x (.inl hk);let#[S,z]:=I.cell x c hc;refine wpAny_storeName_cell I.ok.kind hk hc z (λh' R hs=>?_);let#[oc,J,G]:=id z;refine h { s with heap:=h' } #[I.ok,I.os,I.bare,#[λb o e n hb Z=>?_,λb o e n hb Z=>?_,I.base.free,λb o e Z=>?_,I.base.tups,I.base.frzs,I.base.tbls],#[m,hn.sameBut hs (qC (cne x c hc)),λj y v' Y K e3=>?_],λy c' e=>?_,I.free,I.freeC,λp hp=>?_,l #[oc,J,I.freeC x c hc] hs,by simpa using I.len] #[c,hs,.inr hc];exact(hs.2 b (Qc (Qt (QR e) (I.ok.cab x c F hc)))).trans (I.base.keep b o e n hb Z);let#[sl,Y]:=I.base.slot b o e n hb Z;exact#[sl,(hs.2 b (Qc (Qt (QR e) (I.ok.cab x c F hc)))).trans Y];let#[o',Y]:=I.base.there b o e Z;exact#[o',(hs.2 b (Qc (Qt (QR e) (I.ok.cab x c F hc)))).trans Y];by_cases C:j=i
 ·subst C
  rw[L]at Y;cases Y;rw[qy B]at K;cases K;exact#[u,r,.inr #[.inl hk,c,hc,R]]
 rw[qi (qC C)]at K;let#[u',r',q]:=hl j y v' Y K e3;refine#[u',r',?_];rcases q with q|⟨k,c',e,z'⟩
 exact .inl q;refine .inr #[k,c',e,z'.sameBut hs ?_];rintro rfl;exact C (yQ hN Y (I.ok.inj _ _ _ e hc▸L));by_cases P:c'=c
 ·subst P;exact#[_,R]
 let#[w2,z2]:=I.cell y c' e;exact#[w2,z2.sameBut hs P];let#[e,n,ne,nf,d]:=I.pin p hp;refine#[(hs.2 p.1 ?_).trans e,n,ne,nf,d];intro q;rw[q,J]at e;have q':oc=p.2:=Q1 e;exact d S (by rw[<- q'];exact G)
theorem bP{v:V}(I:Inv X f σ H s)(k:X.N.Nodup)(z:X.N[i]?=Jr x)(y:Fg X.env.scope x)(r:nA v u)
  (h:∀s',Inv X f (σ.set i (Jr v)) H s'->Q Unit.unit s') (w:X.fn x=Jt∨X.env.scope.names.lookup x=Jr .local):jy M A (storeName X.env x u) Q E s :=
 LL I k z y r (λs' b _=>h s' b) w
theorem Inv.call'{s':jx}(I:Inv X f σ H s)(v:s'.os=s.os)(u:Un (uX X.stack) ch H g s.1 s'.1)(h:iJ X.prog X.w g s'.1)(k:gw s'.gens)
  (y:∀b∈ch,(b∈X.ex∨X.s₀.1.1.size<=b)/\b≠X.env.locals/\(∀x c,X.env.cells.lookup x=Jr c->c≠b)/\∀p∈X.pn++f,p.1≠b):Inv X f σ g s':=by
 let#[h',g',d',t',z]:=s';have e:z=s.os:=v;subst e;exact I.call (g':=g') (t':=t') (d':=d') u h k y
end
end
noncomputable abbrev XK:=Jw->Option jv->Hp->Prop
noncomputable abbrev St:=List (Option V)
noncomputable abbrev VK:=V->Hp->Prop
noncomputable abbrev TE:=St->Hp->VK->Prop
noncomputable abbrev TT:=St->Hp->(Bool->Hp->Prop)->Prop
noncomputable abbrev TA:=St->Hp->(LV->Hp->Prop)->Prop
structure Ends where
 nx:St->Hp->Prop
 rt:VK
 bk:St->Hp->Prop:=λ_ _=>False
 ct:St->Hp->Prop:=λ_ _=>False
noncomputable abbrev TS:=Ends->St->Hp->Prop
def EP(X:Cx)(h:MB)(σ:St)(Q:VK)(u:Jw)(s':jx):Prop:=∃v x,Inv X h σ x s'/\nA v u/\Q v x
def TP(X:Cx)(h:MB)(σ:St)(Q:Bool->Hp->Prop)(b:Bool)(s':jx):Prop:=∃x,Inv X h σ x s'/\Q b x
def AP(X:Cx)(h:MB)(σ:St)(Q:LV->Hp->Prop)(us:LW)(s':jx):Prop:=∃x y,Inv X h σ y s'/\bA x us/\Q x y
def SP(X:Cx)(x:MB)(D:Ends)(f:Flow)(s':jx):Prop :=
 match f with
 | .next=>∃h y,Inv X x h y s'/\D.nx h y|.brk=>∃h y,Inv X x h y s'/\D.bk h y|.cont=>∃h y,Inv X x h y s'/\D.ct h y|.ret u=>∃v h y,Inv X x h y s'/\nA v u/\D.rt v y
def PE(X:Cx)(e:Expr)(t:TE):Prop :=
 ∀(h:MB) (s:jx) (x:St) (H:Hp) (Q:VK),Inv X h x H s->t x H Q->jy (js X.prog X.w) X.A (kb e X.env) (EP X h x Q) X.xe s
def PT(X:Cx)(e:Expr)(t:TT):Prop :=
 ∀(h:MB) (s:jx) (x:St) (H:Hp) (Q:Bool->Hp->Prop),Inv X h x H s->t x H Q->jy (js X.prog X.w) X.A (isTrue e X.env (kb e X.env)) (TP X h x Q) X.xe s
def PW(X:Cx)(e:Expr)(t:TT):Prop :=
 ∀(x:Sem Jw) (h:MB) (s:jx) (y:St) (H:Hp) (Q:Bool->Hp->Prop),Inv X h y H s->t y H Q->jy (js X.prog X.w) X.A (isTrue e X.env x) (TP X h y Q) X.xe s
theorem PW.pt{X:Cx}{e:Expr}{t:TT}(h:PW X e t):PT X e t:=h _
def PA(X:Cx)(es:List Expr)(t:TA):Prop :=
 ∀(y:Pos) (h:MB) (s:jx) (x:St) (H:Hp) (Q:LV->Hp->Prop),Inv X h x H s->t x H Q->jy (js X.prog X.w) X.A (xz (vv y (Ky es X.env))) (AP X h x Q) X.xe s
def PS(X:Cx)(st:kf)(t:TS):Prop :=
 ∀(h:MB) (s:jx) (x:St) (H:Hp) (D:Ends),Inv X h x H s->t D x H->jy (js X.prog X.w) X.A (exec st X.env) (SP X h D) X.xe s
def VT(X:Cx)(st:List kf)(t:TS):Prop :=
 ∀(h:MB) (s:jx) (x:St) (H:Hp) (D:Ends),Inv X h x H s->t D x H->jy (js X.prog X.w) X.A (execs st X.env) (SP X h D) X.xe s
theorem LB{α:Type}{t:Sem α}{Q y:α->jx->Prop}{M:Model}{A:j2}{E:ZB}{s:jx}(h:jy M A t Q E s)(z:∀a s,Q a s->y a s):jy M A t y E s:=WD h z λ_ _ x=>x
section
variable{X:Cx}
section
variable{z:MB}{s:jx}{σ:St}{H:Hp}{x:Str}{pos:Pos}{E Q:ZB}{u:Jw}
theorem bin{a b:Expr}{ta d:TE}(ha:PE X a ta)(hb:PE X b d){R:V->V->Hp->Prop}(I:Inv X z σ H s)(h:ta σ H λx j=>d σ j λy k=>R x y k)
  {α:Type}{Q:α->jx->Prop}{f:Jw->Jw->Sem α}
  (q:∀v u i x y k,Inv X z σ k i->nA x v->nA y u->R x y k->jy (js X.prog X.w) X.A (f v u) Q X.xe i) :
  jy (js X.prog X.w) X.A (kb a X.env) (λv g=>jy (js X.prog X.w) X.A (kb b X.env) (λu e=>jy (js X.prog X.w) X.A (f v u) Q X.xe e) X.xe g) X.xe s:=by
 refine LB (ha z s σ H _ I h) λv l #[x,j,Y,n,p]=>?_;refine LB (hb z l σ j _ Y p) λu i #[y,k,r,m,o]=>?_;exact q v u i x y k r n m o
def Il(i:Nat):TE:=λσ H Q=>∃v,σ[i]?=Jr (Jr v)/\Q v H
def tC(v:V):TE:=λ_ H Q=>Q v H
theorem Ud{i:Nat}(b:X.N[i]?=Jr x)(hv:Xk X.env.scope x)(w:(x==("__debug__":Str))=false:=by decide)(k:(x==("__classdict__":Str))=false:=by decide):PE X (.Name x pos) (Il i):=by
 intro z s σ H Q I h;let#[v,e,h]:=h;let#[m,a,hl]:=I.loc;let#[u,r,l]:=hl i x v b e hv;have fin:EP X z σ Q u s:=#[v,H,I,r,h]
 rcases l with⟨hk,hm⟩| ⟨hk,c,hc,y⟩
 exact QD6 (wpAny_loadName_local I.ok.kind hk a hm fin) w;rcases hk with hk|hk
 ·exact QD6 (wpAny_loadName_cell I.ok.kind hk hc y fin) w
 exact QD6 (wpAny_loadName_free I.ok.kind hk hc y fin k) w
theorem dZ{i j pos}:PE X (.Constant (.int i) j pos) (tC (.int i)):=λ_ _ _ H _ I h=>wpAny_Constant_int #[.int i,H,I.tok _,#[_,rfl],h]
theorem B9{b j pos}:PE X (.Constant (.bool b) j pos) (tC (.bl b)):=λ_ _ _ H _ I h=>Constant_bool #[.bl b,H,I,rfl,h]
theorem bZ{j pos}:PE X (.Constant .none j pos) (tC .non):=λ_ _ _ H _ I h=>Constant_none #[.non,H,I,rfl,h]
theorem Dd{x j pos}:PE X (.Constant (.str x) j pos) (tC (.str x)):=λ_ _ _ H _ I h=>Calls.Constant_str #[.str x,H,I.tok _,#[_,rfl],h]
def Gl(X:Cx)(x:Str):Prop:=X.env.kindOf x=Jr .globalImplicit
theorem ON(I:Inv X z σ H s)(y:Gl X x)(hm:X.mg x=Jr u)(h:Q u s)
  (v:(x==("__debug__":Str))=false:=by decide):jy (js X.prog X.w) X.A (kb (.Name x pos) X.env) Q E s :=
 QBK I.ok.kind y (Calls.loadGlobal_global (by rw[I.ok.glob];exact I.mod.glob.keeps I.bk) hm h) v
theorem VE(I:Inv X z σ H s)(v:Gl X x)(hm:X.mg x=Js)(hv:Ku x=Jr u)(h:Q u s)
  (y:x≠"__name__":=by decide) (k:(x==("__debug__":Str))=false:=by decide):jy (js X.prog X.w) X.A (kb (.Name x pos) X.env) Q E s:=by
 let#[e,b,a]:=I.mod.blt;exact QBK I.ok.kind v (Calls.loadGlobal_builtin (by rw[I.ok.glob];exact I.mod.glob.keeps I.bk) hm (by rw[I.ok.blt];exact b.keeps I.bk) ((a x y).trans hv) h) k
theorem C6{v:V}(y:Gl X x)(hm:X.mg x=Jr u)(r:nA v u)(w:(x==("__debug__":Str))=false:=by decide):PE X (.Name x pos) (tC v) :=
 λ_ _ _ H _ I h=>ON I y hm #[v,H,I,r,h] w
theorem N6{v:V}(w:Gl X x)(hm:X.mg x=Js)(hv:Ku x=Jr u)(r:nA v u)(y:x≠"__name__":=by decide)(k:(x==("__debug__":Str))=false:=by decide):PE X (.Name x pos) (tC v) :=
 λ_ _ _ H _ I h=>VE I w hm hv #[v,H,I,r,h] y k
end
variable{a b:Expr}{ta d:TE}{pos:Pos}
variable{g n:TT}{k:List Expr}
noncomputable def am(t u:TT):TT:=λh H Q=>t h H λc x=>if c=Jt then u h x Q else Q Ju x
noncomputable def Oq(t u:TT):TT:=λh H Q=>t h H λc x=>if c=Jt then Q Jt x else u h x Q
def xm(t:TT):TT:=λh H Q=>t h H λc x=>Q (!c) x
theorem n6(ha:PT X a g):PW X (.BoolOp .And [a] pos) g:=by
 intro z x s y H Q I h;refine isTrue_and (LB (ha x s y H Q I h) λc u e=>?_);cases c with|true=>exact isTrue_and_nil e|false=>exact e
theorem Ic(ha:PT X a g):PW X (.BoolOp .Or [a] pos) g:=by
 intro z x s y H Q I h;refine isTrue_or (LB (ha x s y H Q I h) λc u e=>?_);cases c with|false=>exact isTrue_or_nil e|true=>exact e
theorem OY(ha:PT X a g)(hb:PW X (.BoolOp .And (b::k) pos) n):PW X (.BoolOp .And (a::b::k) pos) (am g n):=by
 intro w x s y H Q I h;refine isTrue_and (LB (ha x s y H _ I h) λc e #[v,u,z]=>?_);cases c with|true=>exact hb w x e y v Q u z|false=>exact#[v,u,z]
theorem Y9(ha:PT X a g)(hb:PW X (.BoolOp .Or (b::k) pos) n):PW X (.BoolOp .Or (a::b::k) pos) (Oq g n):=by
 intro w x s y H Q I h;refine isTrue_or (LB (ha x s y H _ I h) λc e #[v,u,z]=>?_);cases c with|true=>exact#[v,u,z]|false=>exact hb w x e y v Q u z
theorem yd(ha:PT X a g):PT X (.UnaryOp .Not a pos) (xm g):=by intro x s y H Q I h;exact isTrue_not (ha x s y H (λc z=>Q (!c) z) I h)
noncomputable def eh(ta d:TE):TE:=λh H Q=>ta h H λx y=>∃c,x=.bl c/\if c=Jt then d h y Q else Q (.bl Ju) y
noncomputable def vm(ta d:TE):TE:=λh H Q=>ta h H λx y=>∃c,x=.bl c/\if c=Jt then Q (.bl Jt) y else d h y Q
theorem uZ{op}{t:TE}(h:PE X a t):PE X (.BoolOp op [a] pos) t:=λx s y H Q I z=>BoolOp_one (h x s y H Q I z)
theorem gZ(ha:PE X a ta)(hb:PE X (.BoolOp .And (b::k) pos) d):PE X (.BoolOp .And (a::b::k) pos) (eh ta d):=by
 intro y s u H Q I h;refine BoolOp_and (LB (ha y s u H _ I h) λv f #[x,e,w,i,z]=>?_);let#[c,rfl,z]:=z;cases i;refine wu ?_;cases c with|true=>exact hb y f u e Q w z|false=>exact#[.bl Ju,e,w,rfl,z]
theorem U9(ha:PE X a ta)(hb:PE X (.BoolOp .Or (b::k) pos) d):PE X (.BoolOp .Or (a::b::k) pos) (vm ta d):=by
 intro y s u H Q I h;refine BoolOp_or (LB (ha y s u H _ I h) λv f #[x,e,w,i,z]=>?_);let#[c,rfl,z]:=z;cases i;refine wu ?_;cases c with|false=>exact hb y f u e Q w z|true=>exact#[.bl Jt,e,w,rfl,z]
end
def gC(K:QE)(H:Hp)(a:jv)(xs:LV):Prop :=
 Rd H a (.lst xs) ∨
  ∃(o:Obj) (h:Array Jw) (n:Nat),K.lookup a=Jr o/\o.cls=.type "list"/\o.dict=Js/\o.data=.seq h n/\h.size<=jz/\bA xs h.toList
def TC(K:QE)(H:Hp)(a:jv)(xs:LV):Prop :=
 Rd H a (.tup xs) ∨
  ∃(o:Obj) (h:Array Jw) (n:Nat),K.lookup a=Jr o/\o.cls=.type "tuple"/\o.data=.seq h n/\h.size<=jz/\bA xs h.toList
noncomputable def cJ:Jw->Option V
 | .none=>Jr .non|.bool b=>Jr (.bl b)|.int i _=>Jr (.int i)|.str x _=>Jr (.str x)|.bytes b _=>Jr (.byt b)|.float b _=>Jr (.flt b)|.ref a=>Jr (.ref a)|.type n=>Jr (.ty n)|_=>Js
theorem nA.abs{x:V}{u:Jw}(r:nA x u):cJ u=Jr x:=by
 cases x with|non=>cases r;rfl|bl _=>cases r;rfl|int _=>let#[t,rfl]:=r;rfl|str _=>let#[t,rfl]:=r;rfl|byt _=>let#[t,rfl]:=r;rfl|flt _=>let#[t,rfl]:=r;rfl|ref _=>cases r;rfl|ty _=>cases r;rfl
theorem nA.inj{x y:V}{u:Jw}(r:nA x u)(q:nA y u):x=y:=Q1 (r.abs.symm.trans q.abs)
theorem bA.inj:∀{xs h:LV}{us:LW},bA xs us->bA h us->xs=h
 |_,_,_,.nil,.nil=>rfl|_,_,_,.cons r t,.cons r' t'=>by rw[r.inj r',bA.inj t t']
section
variable{X:Cx}{x:MB}{σ:St}{H:Hp}{s:jx}{a:jv}{xs y:LV}
theorem gC.of{K:QE}(h:H a=Jr (.lst xs)):gC K H a xs:=.inl (.inl h)
theorem TC.of{K:QE}(h:H a=Jr (.tup xs)):TC K H a xs:=.inl (.inl h)
theorem Inv.list(I:Inv X x σ H s)(h:gC X.K H a xs):∃its:LW,bA xs its/\PlainL s.1 a its.toArray/\xs.9<=sizeLine:=by
 rcases h with h|⟨o,its,n,hk,hc,u,hs,v,r⟩
 let#[z,its,n,r,e]:=h.ok I.hok;exact#[its,r,#[_,n,e,rfl,rfl,rfl],z];refine#[its.toList,r,#[o,n,I.kIn a o hk,hc,u,by simpa using hs],?_];have e:=r.9;simp only[QN]at e;omega
theorem Inv.tuple(I:Inv X x σ H s)(h:TC X.K H a xs):∃its:LW,bA xs its/\IsTup s.1 a its.toArray/\xs.9<=sizeLine:=by
 rcases h with h|⟨o,its,n,hk,hc,hs,u,r⟩
 let#[z,its,r,p]:=h.ok I.hok;exact#[its,r,p,z];refine#[its.toList,r,#[o,I.kIn a o hk,hc,n,by simpa using hs],?_];have e:=r.9;simp only[QN]at e;omega
theorem Inv.list_inj(I:Inv X x σ H s)(h:gC X.K H a xs)(h':gC X.K H a y):xs=y:=by
 let#[u,r,#[o,n,e,_,_,d],_]:=I.list h;let#[z,k,#[b,f,v,_,_,w],_]:=I.list h';rw[e]at v;cases v;rw[d]at w;injection w with d1 _;have:u=z:=by simpa using Fz QDS d1
 subst this;exact r.inj k
theorem Inv.tuple_inj(I:Inv X x σ H s)(h:TC X.K H a xs)(h':TC X.K H a y):xs=y:=by
 let#[u,r,#[o,e,_,n,d],_]:=I.tuple h;let#[z,k,#[b,v,_,f,w],_]:=I.tuple h';rw[e]at v;cases v;rw[d]at w;injection w with d1 _;have:u=z:=by simpa using Fz QDS d1
 subst this;exact r.inj k
end
noncomputable abbrev Cx.wish(X:Cx)(E:ZB):Cx:={ X with xe:=E }
noncomputable abbrev Cx.nox(X:Cx):Cx:=X.wish λ_ _=>False
theorem Cx.Ok.wish{X:Cx}(ok:X.Ok)(E:ZB):(X.wish E).Ok :=
 #[ok.mod,ok.kind,ok.glob,ok.blt,ok.above,ok.inj,ok.has,ok.cab,ok.hd,ok.frames,ok.stk,ok.exf,ok.bs,ok.bsz,ok.noex,ok.exfs,ok.funs,ok.frf]
theorem Cx.Ok.unwish{X:Cx}{E:ZB}(ok:(X.wish E).Ok):X.Ok :=
 #[ok.mod,ok.kind,ok.glob,ok.blt,ok.above,ok.inj,ok.has,ok.cab,ok.hd,ok.frames,ok.stk,ok.exf,ok.bs,ok.bsz,ok.noex,ok.exfs,ok.funs,ok.frf]
section
variable{X:Cx}{x:MB}{σ:St}{H:Hp}{s:jx}{E:ZB}
theorem Inv.wish(I:Inv X x σ H s)(E:ZB):Inv (X.wish E) x σ H s:=#[I.ok.wish E,I.os,I.bare,I.base,I.loc,I.cell,I.free,I.freeC,I.pin,I.hok,I.len]
theorem Inv.unwish(I:Inv (X.wish E) x σ H s):Inv X x σ H s:=#[I.ok.unwish,I.os,I.bare,I.base,I.loc,I.cell,I.free,I.freeC,I.pin,I.hok,I.len]
theorem SP.unwish{D:Ends}{f:Flow}{s':jx}(h:SP (X.wish E) x D f s'):SP X x D f s':=by
 cases f with|next=>let#[y,z,I,q]:=h;exact#[y,z,I.unwish,q]|brk=>let#[y,z,I,q]:=h;exact#[y,z,I.unwish,q]|cont=>let#[y,z,I,q]:=h;exact#[y,z,I.unwish,q]|ret u=>let#[v,y,z,I,r,q]:=h;exact#[v,y,z,I.unwish,r,q]
theorem VT.nox{st:List kf}{t:TS}(h:VT X.nox st t):VT X st t:=λx s σ H D I y =>
 WD (h x s σ H D (I.wish _) y) (λ_ _ q=>q.unwish) λ_ _ z=>Qj z
end
section
variable{X:Cx}{st:kf}{y:List kf}{t u:TS}{e:Expr}{te:TE}{pos:Pos}
def oh:TS:=λD h H=>D.nx h H
def zm(t u:TS):TS:=λD h H=>t { D with nx:=u D } h H
theorem e6:VT X [] oh:=λ_ _ x H _ I h=>QBE #[x,H,I,h]
theorem SY(b:PS X st t)(a:VT X y u):VT X (st::y) (zm t u):=by
 intro x s w H D I h;refine QDf (LB (b x s w H { D with nx:=u D } I h) λf k q=>?_);cases f with|next=>let#[z,i,g,q]:=q;exact a x k z i D g q|ret v=>exact q|brk=>exact q|cont=>exact q
theorem t6(w:PS X st t):VT X [st] t:=by
 intro x s z H D I h;refine QDf (LB (w x s z H D I h) λf k q=>?_);cases f with|next=>exact QBE q|ret v=>exact q|brk=>exact q|cont=>exact q
theorem Inv.quiet{h:MB}{σ:St}{H:Hp}{s:jx}(I:Inv X h σ H s):interactive X.env=false:=by simp[interactive,I.ok.kind]
def ph(te:TE):TS:=λD h H=>te h H λ_ x=>D.nx h x
theorem tU(a:PE X e te)(hs:v2 e Js pos.line X.env=hT false:=by rfl):PS X (.Expr e pos) (ph te):=by intro z s w H D I h;exact wpAny_Expr_any (LB (a z s w H _ I h) λv g #[x,f,b,i,k]=>#[w,f,b,k]) I.quiet hs
def km(te:TE):TS:=λD h H=>te h H D.rt
theorem vd(b:PE X e te):PS X (.Return (Jr e) pos) (km te):=by intro z s w H D I h;exact wpAny_Return_some (LB (b z s w H _ I h) λv i #[x,g,f,k,a]=>#[x,w,g,f,k,a])
noncomputable def bm(c:TT)(t u:TS):TS:=λD h H=>c h H λb x=>if b=Jt then t D h x else u D h x
theorem Yi{c:Expr}{a b:List kf}{tc:TT}(hc:PT X c tc)(ha:VT X a t)(hb:VT X b u):PS X (.If c a b pos) (bm tc t u):=by
 intro x s z H D I h;refine wpAny_If (LB (hc x s z H _ I h) λd v #[f,k,w]=>?_);cases d with|true=>exact ha x v z f D k w|false=>exact hb x v z f D k w
end
noncomputable abbrev TG:=V->St->Hp->(St->Hp->Prop)->Prop
noncomputable abbrev Ho:=LV->St->Hp->(St->Hp->Prop)->Prop
def PG(X:Cx)(h:Expr)(t:TG):Prop :=
 ∀(x:MB) (s:jx) (z:St) (H:Hp) (v:V) (u:Jw) (Q:St->Hp->Prop),Inv X x z H s->nA v u->t v z H Q ->
  jy (js X.prog X.w) X.A (Xu h X.env u) (λ_ a=>∃y k,Inv X x y k a/\Q y k) X.xe s
def Ap(X:Cx)(ts:List Expr)(t:Ho):Prop :=
 ∀(h:MB) (s:jx) (y:St) (H:Hp) (z:LV) (u:LW) (Q:St->Hp->Prop),Inv X h y H s->bA z u->t z y H Q ->
  jy (js X.prog X.w) X.A (zx ((Vx ts X.env).map (·.2)) u) (λ_ k=>∃x v,Inv X h x v k/\Q x v) X.xe s
noncomputable abbrev og:=V->V->V->Hp->(Hp->Prop)->Prop
def k9(X:Cx)(t:og):Prop :=
 ∀(h:MB) (s:jx) (x:St) (H:Hp) (o i v:V) (y z u:Jw) (Q:Hp->Prop),Inv X h x H s->nA o y->nA i z->nA v u->t o i v H Q ->
  jy (js X.prog X.w) X.A (setItem y z u) (λ_ a=>∃k,Inv X h x k a/\Q k) X.xe s
section
variable{X:Cx}{pos:Pos}
section
variable{i:Nat}{x:Str}{e:Expr}{te:TE}
def hV(i:Nat):TG:=λv h H Q=>Q (h.set i (Jr v)) H
theorem VU(a:X.N.Nodup)(w:X.N[i]?=Jr x)(z:Fg X.env.scope x)(k:X.fn x=Jt∨X.env.scope.names.lookup x=Jr .local):PG X (.Name x pos) (hV i):=by intro y s f H v u Q I r h;exact QDF (bP I a w z r (λg b=>#[_,H,b,h]) k)
noncomputable def Hn(K:QE)(n:Nat)(t:Ho):TG:=λv y H Q=>∃a h,v=.ref a/\TC K H a h/\h.9=n/\t h y H Q
theorem Vd{es:List Expr}{k:Nat}{t:Ho}{n:Nat}(hc:X.calm=Jt)(h:Ap X es t)
  (Y:(Vx es X.env).9=n:=by rfl) (w:(Vx es X.env).findIdx? (·.1)=none:=by rfl):PG X (.Tuple es k pos) (Hn X.K n t):=by
 intro y s f H v u Q I r z;let#[a,j,W,q,hl,z]:=z;subst W;cases r;let#[l,g,p,B]:=I.tuple q;refine assign_Tuple_tuple (I.ok.hd hc) p (by simp[Y,<- hl,g.9]) w λZ m=>?_;have A:Inv X y f H { s with heap:=Z }:=I.kept (t':=s.toks) λb o e=>m b o (Qc (QR e)) e;exact h y _ f H j _ Q A (by simpa using g) z
noncomputable def Ln(to y:TE)(t:og):TG:=λv h H Q=>to h H λo w=>y h w λi u=>t o i v u λz=>Q h z
theorem Xd{o i:Expr}{to b:TE}{t:og}(q:PE X o to)(Y:PE X i b)(hs:k9 X t)
  (ha:∀v,Xu (.Subscript o i pos) X.env v=(do
   let w <- Yx [v] (kb o X.env)
   let k <- Yx [v,w] (kb i X.env)
   standAt pos
   Yx [v,w,k] (setItem w k v)
   release [v,w,k] []):=by intro _;rfl):PG X (.Subscript o i pos) (Ln to b t):=by
 intro z s a H v u Q I r h;rw[ha];refine QA (qG (LB (q z s a H _ I h) λw g #[x,C,K,l,p]=>?_));refine QA (qG (LB (Y z g a C _ K p) λk f #[y,B,W,j,n]=>?_));refine QA (QC1 (QA (qG (LB (hs z f a B x y v w k u _ W l j r n) λ_ E #[A,Z,m]=>?_))));exact wpAny_release #[a,A,Z,m]
def Vc(te:TE)(g:TG):TS:=λD h H=>te h H λx y=>g x h y D.nx
theorem EY{z:Expr}{g:TG}(j:PE X e te)(f:PG X z g)(hs:swapsWithSole [z] e pos.line X.env=hT false:=by rfl)(b:swappedStores [z] e X.env=hT none:=by rfl)
  (l:(Vx [z] X.env).map (·.2)=[Xu z X.env]:=by rfl):PS X (.Assign [z] e pos) (Vc te g):=by
 intro y s u H D I h;refine wpAny_Assign_stores (LB (j y s u H _ I h) λv w #[x,n,m,k,a]=>?_) hs b;rw[l];exact LB (f y w u n x v _ m k a) λ_ o q=>q
theorem zd{pos':Pos}(j:X.N.Nodup)(b:X.N[i]?=Jr x)(a:Fg X.env.scope x)(g:PE X e te)(hs:v2 e (Jr (.Name x pos')) pos.line X.env=hT false:=by rfl)(f:X.fn x=Jt∨X.env.scope.names.lookup x=Jr .local) :
  PS X (.Assign [.Name x pos'] e pos) (Vc te (hV i)):=by
 intro z s u H D I h;refine wpAny_Assign_Name (LB (g z s u H _ I h) λv p #[y,n,m,w,k]=>?_) hs;exact bP m j b a w (λo l=>#[_,n,l,k]) f
end
end
section
variable{X:Cx}{pos:Pos}
def bY(c:TT)(v:TS):TS:=λD h H=>∃W:Nat->St->Hp->Prop,(∃m,W m h H)/\∀m h H,W m h H ->
 c h H λb z=>if b=Jt then ∃N:St->Hp->Prop,(∀x u,N x u->∃y,y < m/\W y x u)/\v { D with nx:=N,ct:=N,bk:=D.nx } h z else D.nx h z
theorem TY{c:Expr}{body:List kf}{tc:TT}{o:TS}(p:Gv (js X.prog X.w) X.A X.env X.xe)(hc:PT X c tc)(hb:VT X body o):PS X (.While c body [] pos) (bY tc o):=by
 intro y s B H D I h;let#[W,#[L,E],k]:=h;refine wpAny_While (codeAny_whileLoop (λn J=>∃u K,Inv X y u K J/\W n u K) ?_ L #[B,H,I,E]);rintro n G ⟨z,Z,M,C⟩;refine WP p (LB (hc y G z Z _ M (k n z Z C)) λb F #[Y,r,g]=>?_);cases b with
 |true =>
  let#[N,q,g]:=g;rw[hQ rfl];refine WP p (LB (hb y F z Y _ r g) λf O e=>?_);cases f with|next=>let#[x,a,m,j]:=e;let#[l,hm,i]:=q x a j;exact#[l,hm,x,a,m,i]|cont=>let#[x,a,m,j]:=e;let#[l,hm,i]:=q x a j;exact#[l,hm,x,a,m,i]|brk=>exact e|ret v=>exact e
 |false=>rw[hI QG];exact QBE #[z,Y,r,g]
end
section
variable{s:jx}{y:Expr}{P:jt}{w:jw}{K:QE}
structure It where
 go:Nat->Hp->Prop
 yld:Nat->Hp->V->Hp->Prop
 stop:Nat->Hp->Prop
def jI(X:Cx)(h:MB)(H:Hp)(b:jv):Prop :=
 H b=Js/\b≠X.env.locals/\b∉X.fs/\(b∈X.ex∨X.s₀.1.1.size<=b)/\(∀x c,X.env.cells.lookup x=Jr c->c≠b)/\∀p∈X.pn++h,p.1≠b
theorem Inv.fpOk{X:Cx}{h:MB}{σ:St}{H u:Hp}{b:jv}(I:Inv X h σ H s)(hb:s.1.1.size<=b)(a:u b=Js):jI X h u b:=by refine#[a,wa (Qt I.lt hb),I.nofs hb,.inr (Qf I.sz hb),λx c e z=>?_,λp k z=>?_];let#[v,q]:=I.cell x c e;exact h7 (Qt q.lt (by rw[z];exact hb)) (wq _);exact h7 (Qt (QR (I.pin p k).1) (by rw[z];exact hb)) (wq _)
structure Turn0(P:jt)(w:jw)(K:QE)(y:Expr)(J:It)(fp:List jv)(it:jv)(tn:Nat->j0->Prop):Prop where
 mem:it∈fp
 obj:∀i h,tn i h->∀b∈fp,∃o,h.get? b=Jr o/\∀v,o.data≠.cell v
 keep:∀i h h',tn i h->(∀b∈fp,∀o,h.get? b=Jr o->h'.get? b=Jr o)->tn i h'
 item:∀(X:Cx),X.prog=P->X.w=w->X.K=K->X.calm=Jt->∀(i:Nat) (pins:MB) (s:jx) (σ:St) (H:Hp) (E:ZB),Inv X pins σ H s->(∀b∈fp,jI X pins H b)->tn i s.1->J.go i H ->
  jy (js P w) X.A (Vs (.ref it)) (λr s1=>∃u,r=Jr u /\
   jy (js P w) X.A (Vz y (.ref it) u) (λ_ s2=>∃x H',Inv X pins σ H' s2/\nA x u/\J.yld i H x H'/\tn (i+1) s2.1/\∀b∈fp,H' b=Js) E s1) E s
 done:∀(X:Cx),X.prog=P->X.w=w->X.K=K->X.calm=Jt->∀(i:Nat) (pins:MB) (s:jx) (σ:St) (H:Hp) (E:ZB),Inv X pins σ H s->(∀b∈fp,jI X pins H b)->tn i s.1->J.stop i H ->
  jy (js P w) X.A (Vs (.ref it)) (λr s1=>r=Js/\Inv X pins σ H s1) E s
structure Turn(P:jt)(w:jw)(K:QE)(y:Expr)(J:It)(fp:List jv)(it:jv)(tn:Nat->j0->Prop):Prop extends Turn0 P w K y J fp it tn where
 self:∀(A:j2) (i:Nat) (s:jx) (Q:ZB) (E:ZB),tn i s.1->Q (.ref it) s->jy (js P w) A (vu (.ref it)) Q E s
noncomputable abbrev TI:=St->Hp->(It->Hp->Prop)->Prop
def So(X:Cx)(h:MB)(σ:St)(y:Expr)(R:It->Hp->Prop)(x:Jw)(u:jx):Prop :=
 ∃(it:jv) (v:List jv) (tn:Nat->j0->Prop) (J:It) (z:Hp),x=.ref it/\Inv X h σ z u/\Turn X.prog X.w X.K y J v it tn/\tn 0 u.1/\(∀b∈v,jI X h z b)/\R J z
def PI(X:Cx)(y x:Expr)(u:TI):Prop :=
 ∀(h:MB) (s:jx) (z:St) (H:Hp) (R:It->Hp->Prop),Inv X h z H s->u z H R ->
  jy (js X.prog X.w) X.A (kb x X.env) (λv k=>jy (js X.prog X.w) X.A (vu v) (So X h z y R) X.xe k) X.xe s
def Ro(X:Cx)(h:MB)(σ:St)(y:Expr)(R:It->Hp->Prop)(x:Jw)(u:jx):Prop :=
 ∃(it:jv) (v:List jv) (tn:Nat->j0->Prop) (J:It) (z:Hp),x=.ref it/\Inv X h σ z u/\Turn0 X.prog X.w X.K y J v it tn/\tn 0 u.1/\(∀b∈v,jI X h z b)/\R J z
def Ll(X:Cx)(y x:Expr)(u:TI):Prop :=
 ∀(h:MB) (s:jx) (z:St) (H:Hp) (R:It->Hp->Prop),Inv X h z H s->u z H R ->
  jy (js X.prog X.w) X.A (kb x X.env) (λv k=>jy (js X.prog X.w) X.A (vu v) (Ro X h z y R) X.xe k) X.xe s
theorem PI.to0{X:Cx}{z:Expr}{k:TI}(h:PI X y z k):Ll X y z k:=λu s a H R I q =>
 WD (h u s a H R I q) (λv m f=>WD f (λb l #[it,g,tn,J,j,e,i,T,r]=>#[it,g,tn,J,j,e,i,T.toTurn0,r]) λ_ _ x=>x) λ_ _ x=>x
theorem YQ{M:Model}{A:j2}{E:ZB}{it:jv}{u:Jw}{o:Obj}{n:String}{vs:Array Jw}{Q:Unit->jx->Prop}(z:s.1.get? it=Jr o)(hc:o.cls=.type n)(k:o.data=.fields vs)
    (v:["enumerate","zip","dict_itemiterator","dict_reverseitemiterator","odict_iterator","itertools.zip_longest","itertools.pairwise"].contains n=Ju) (x:Q Unit.unit s):jy M A (Vz y (.ref it) u) Q E s:=by
  unfold Vz;cases y<;>first
    |exact QH x
    | (cases u<;>first
        |exact QH x
        | (refine QA (QD7 z ?_)
           rw[hc,k];show jy M A (if(["enumerate","zip","dict_itemiterator","dict_reverseitemiterator","odict_iterator","itertools.zip_longest","itertools.pairwise"].contains n&&vs[0]?==Jr (Kz _))=Jt then _ else _) Q E s;rw[hI (by intro h;rw[v,QCf]at h;cases h)];exact QH x))
noncomputable def iq(K:QE)(a:jv):It :=
 #[λi H=>∃h x,gC K H a h/\h[i]?=Jr x,λi H x z=>z=H/\∀h,gC K H a h->h[i]?=Jr x,λi H=>∃h,gC K H a h/\h.9<=i]
noncomputable def tq(K:QE)(a:jv):It :=
 #[λi H=>∃h x,TC K H a h/\h[i]?=Jr x,λi H x z=>z=H/\∀h,TC K H a h->h[i]?=Jr x,λi H=>∃h,TC K H a h/\h.9<=i]
noncomputable def xp(h:Int)(n:Nat):It:=#[λi _=>i<n,λi H x z=>z=H/\x=.int (h+i),λi _=>n<=i]
theorem PV(a it:jv):Turn P w K y (iq K a) [it] it (λi h=>h.IsListIter it a i) where
 mem:=by simp
 obj:=λi h st b hb=>by
  have e:b=it:=by simpa using hb
  subst e;let#[o,e,c,d]:=st;exact#[o,e,λv z=>by rw[d]at z;cases z]
 keep:=λi h m st k=>st.at λo e=>k it (by simp) o e
 item:=by intro X W Y A hc i f s L H E I l st Z;subst W Y A;let#[M,x,j,r]:=Z;let#[q,n,p,Q]:=I.list j;let#[u,S,O]:=n.get r;let#[J,G,f2,F,C,B]:=l it (by simp);refine wpAny_pyNext_list_item st p.isList (x:=u) (by simpa using S) λm g N=>?_;have I1:Inv X f L H { s with heap:=m }:=I.turned (t':=s.toks) (λb o hb e=>(N.2 b hb).trans e) J G F C B;let#[o,e,c,d]:=id g;exact#[u,rfl,YQ (s:={ s with heap:=m }) e c d (by decide) #[x,H,I1,O,#[rfl,λys R=>by rw[I.list_inj R j];exact r],g,λb hb=>(l b hb).1]]
 done:=by intro X W Y A hc i f s L H E I l st Z;subst W Y A;let#[M,j,r]:=Z;let#[q,n,p,Q]:=I.list j;let#[J,G,f2,F,C,B]:=l it (by simp);have hl:=n.9;exact wpAny_pyNext_list_end (I.ok.hd hc) st p.isList (by simp;omega) λm eb=>#[rfl,I.turned (t':=s.toks) (λb o hb e=>eb b o hb e) J G F C B]
 self:=λ_ _ _ _ _ st h=>wpAny_pyIter_listiter st h
theorem XR(a it:jv):Turn P w K y (tq K a) [it] it (λi h=>h.IsTupleIter it a i) where
 mem:=by simp
 obj:=λi h st b hb=>by
  have e:b=it:=by simpa using hb
  subst e;let#[o,e,c,d]:=st;exact#[o,e,λv z=>by rw[d]at z;cases z]
 keep:=λi h n st k=>st.at λo e=>k it (by simp) o e
 item:=by intro X W Y A hc i f s L H E I m st Z;subst W Y A;let#[M,x,l,r]:=Z;let#[g,q,p,Q]:=I.tuple l;let#[u,S,O]:=q.get r;let#[J,G,f2,F,C,B]:=m it (by simp);refine wpAny_pyNext_tuple_item st (show s.1.IsTuple a g.toArray from p) (x:=u) (by simpa using S) λn j N=>?_;have I1:Inv X f L H { s with heap:=n }:=I.turned (t':=s.toks) (λb o hb e=>(N.2 b hb).trans e) J G F C B;let#[o,e,c,d]:=id j;exact#[u,rfl,YQ (s:={ s with heap:=n }) e c d (by decide) #[x,H,I1,O,#[rfl,λys R=>by rw[I.tuple_inj R l];exact r],j,λb hb=>(m b hb).1]]
 done:=by intro X W Y A hc i f s L H E I m st Z;subst W Y A;let#[M,l,r]:=Z;let#[g,q,p,Q]:=I.tuple l;let#[J,G,f2,F,C,B]:=m it (by simp);have hl:=q.9;exact wpAny_pyNext_tuple_end (I.ok.hd hc) st (show s.1.IsTuple a g.toArray from p) (by simp;omega) λn eb=>#[rfl,I.turned (t':=s.toks) (λb o hb e=>eb b o hb e) J G F C B]
 self:=λ_ _ _ _ _ st h=>wpAny_pyIter_tupleiter st h
theorem UR(it:jv)(a:Int)(n:Nat):Turn P w K y (xp a n) [it] it (λi h=>IsRangeIter h it (a+(i:Nat) * 1) ((n:Int) - (i:Nat)) 1) where
 mem:=by simp
 obj:=λi h st b hb=>by
  have e:b=it:=by simpa using hb
  subst e;exact#[_,st,λv z=>by have F:Data.fields _=Data.cell v:=z;cases F]
 keep:=λi h g st k=>k it (by simp) _ st
 item:=by intro X m j p hc i x s B H E I f st l;subst m j p;let#[A,Z,J,Y,r,q]:=f it (by simp);have W:=Walks.range (prog:=X.prog) (w:=X.w) (I.ok.hd hc) it a 1 n;refine W.item i s _ _ l st λv g C hv u G=>?_;let#[t,rfl]:=hv;have M:Inv X x B H { s with heap:=g,toks:=C }:=I.turned (λb o hb e=>G b o (by simpa using hb) e) A Z Y r q;refine#[_,rfl,YQ (s:={ s with heap:=g,toks:=C }) (n:="range_iterator") u rfl rfl (by decide) #[.int (a+i),H,M,#[t,?_],#[rfl,rfl],u,λb hb=>(f b hb).1]];rw[Int.mul_one]
 done:=by intro X m j p hc i x s B H E I f st l;subst m j p;let#[A,Z,J,Y,r,q]:=f it (by simp);exact wpAny_pyNext_range_end (I.ok.hd hc) st (by have:n<=i:=l;omega) λg L=>#[rfl,I.turned (t':=s.toks) (λb o hb e=>L b o hb e) A Z Y r q]
 self:=λ_ _ _ _ _ st h=>wpAny_pyIter_rangeiter st h
end
section
variable{X:Cx}{a:Expr}
section
variable{y:MB}{σ:St}{H:Hp}{s:jx}{k:List jv}{h:j0}
theorem LY{R:It->Hp->Prop}{E:ZB}{x z:Int}{t u v:Tok}{f:Nat}(I:Inv X y σ H s)(m:-(2 ^ 62)<=x)(l:x<2 ^ 62)(j:-(2 ^ 62)<=z)(i:z<2 ^ 62)
  (q:R (xp x (z - x).toNat) H):jy (js X.prog X.w) X.A (vu (.ref s.1.1.size)) (So X y σ a R) E { s with heap:=s.1.push { cls:=.type "range",data:=.fields (Wb [.int x t,.int z u,.int 1 v]) },toks:=f }:=by
 refine wpAny_pyIter_range (IsRange.new ..) (small_one m l j i) ?_;have g:Inv X y σ H { s with heap:=s.1.push { cls:=.type "range",data:=.fields (Wb [.int x t,.int z u,.int 1 v]) },toks:=f }:=I.kept λb o e=>QJ _ e;refine#[(s.1.push { cls:=.type "range",data:=.fields (Wb [.int x t,.int z u,.int 1 v]) }).1.size,[(s.1.push { cls:=.type "range",data:=.fields (Wb [.int x t,.int z u,.int 1 v]) }).1.size],_,_,H,rfl,
  g.kept (t':=f) λb o e=>QJ _ e,UR _ x (z - x).toNat,?_,λb hb=>?_,q]
 have p:x+((0:Nat):Int) * 1=x:=by simp
 have n:(((z - x).toNat:Nat):Int) - ((0:Nat):Int)=Builtin.Range.rangeSize x z 1:=by rw[rangeSize_one];split<;>omega
 show IsRangeIter _ _ (x+((0:Nat):Int) * 1) ((((z - x).toNat:Nat):Int) - ((0:Nat):Int)) 1;rw[p,n];exact QO _ rfl;have e:b=(s.1.push { cls:=.type "range",data:=.fields (Wb [.int x t,.int z u,.int 1 v]) }).1.size:=by simpa using hb
 subst e;exact g.fpOk (QX _) (g.hok.fresh (QX _))
def cm(b:TI)(g:TG)(e:TS):TS:=λD σ H=>b σ H λJ j=>∃W:Nat->Nat->St->Hp->Prop,(∃m,W 0 m σ j)/\∀i m σ H,W i m σ H ->
 (J.stop i H/\D.nx σ H)∨(J.go i H/\∃N:St->Hp->Prop,(∀z u,N z u->∃w,w < m/\W (i+1) w z u)/\∀x u,J.yld i H x u->g x σ u λv f=>e { D with nx:=N,ct:=N,bk:=D.nx } v f)
noncomputable def gK(k:List jv)(h:j0):MB:=k.filterMap λb=>(h.get? b).map λo=>(b,o)
theorem YE{b:jv}{o:Obj}(hb:b∈k)(e:h.get? b=Jr o):(b,o)∈gK k h:=QAR.mpr #[b,hb,by rw[e];rfl]
theorem aW{p:jv×Obj}(x:p∈gK k h):p.1∈k/\h.get? p.1=Jr p.2:=by
 let#[b,hb,e]:=QAR.mp x;cases q:h.get? b with|none=>rw[q]at e;cases e|some o=>rw[q]at e;have z:(b,o)=p:=Q1 e;subst z;exact#[hb,q]
theorem Inv.pinned(I:Inv X y σ H s)(f:∀b∈k,jI X y H b)(w:∀b∈k,∃o,s.1.get? b=Jr o/\∀v,o.data≠.cell v):Inv X (y++gK k s.1) σ H s :=
 I.pins_of λp u=>(QW.mp u).elim (λz=>I.pin p (QS _ z)) λz=>by let#[hb,e]:=aW z;let#[j,i,g,_]:=f p.1 hb;let#[o,x,d]:=w p.1 hb;rw[e]at x;cases x;exact#[e,j,i,g,d]
theorem Inv.unpinned{x:MB}(I:Inv X (y++x) σ H s):Inv X y σ H s:=I.pins_of λp z=>I.pin p (QS _ (Qg _ z))
theorem ud{q:Expr}{body:List kf}{wi:TI}{g:TG}{tb:TS}{pos:Pos}(O:Gv (js X.prog X.w) X.A X.env X.xe)(hc:X.calm=Jt)(hi:Ll X a q wi)(hg:PG X a g)(hb:VT X body tb)
  (hs:∀x,ku q X.env x=hT x:=by intro _;rfl):PS X (.For a q body [] pos) (cm wi g tb):=by
 intro y s σ H D I h;refine wpAny_For (LB (hi y s σ H _ I h) λv s1 h1=>LB h1 λitv s2 h2=>?_) hs;let#[it,k,tn,J,H2,e,I2,T,S,f2,W,#[m0,w0],F]:=h2;subst e;have p:∀{B:Hp},(∀b∈k,B b=Js)->∀b∈k,jI X y B b:=λhn b hb=>#[hn b hb,(f2 b hb).2]
 refine codeAny_forLoop_any (λn s'=>∃i l B,Inv X y l B s'/\tn i s'.1/\(∀b∈k,B b=Js)/\W i n l B) ?_ m0 #[0,σ,H2,I2,S,λb hb=>(f2 b hb).1,w0];rintro n s3 ⟨i,j,Q,I3,L,P,w3⟩;rcases F i n j Q w3 with⟨G,qn⟩| ⟨go,N,hN,step⟩
 refine WP O (LB (T.done X rfl rfl rfl hc i y s3 j Q X.xe I3 (p P) L G) λr s4 #[hr,I4]=>?_);subst hr;exact QBE #[j,Q,I4,qn];refine WP O (LB (T.item X rfl rfl rfl hc i y s3 j Q X.xe I3 (p P) L go) λr s4 #[u,hr,h4]=>?_);subst hr;refine WP O (LB h4 λ_ s5 #[x,H5,I5,r5,y5,E,fr5]=>?_);have I5':=I5.pinned (p fr5) (T.obj _ _ E);refine WP O (LB (hg _ s5 j H5 x u _ I5' r5 (step x H5 y5)) λ_ s6 #[R,H6,I6,q6]=>?_);refine WP O (LB (hb _ s6 R H6 _ I6 q6) λf s7 C=>?_);have Y:∀{z:St}{K:Hp},Inv X (y++gK k s5.1) z K s7->N z K->∃m,m<n/\∃i l B,Inv X y l B s7/\tn i s7.1/\(∀b∈k,B b=Js)/\W i m l B:=λ{z K} Z M=>by let#[m',hm,w7]:=hN z K M;refine#[m',hm,i+1,z,K,Z.unpinned,T.keep _ _ _ E λb hb o e=>(Z.pin (b,o) (QS _ (QS _ (YE hb e)))).1,λb hb=>?_,w7];let#[o,e,d]:=T.obj _ _ E b hb;exact(Z.pin (b,o) (QS _ (QS _ (YE hb e)))).2.1
 cases f with|next=>let#[z,K,Z,M]:=C;exact Y Z M|cont=>let#[z,K,Z,M]:=C;exact Y Z M|brk=>let#[z,K,Z,C]:=C;exact#[z,K,Z.unpinned,C]|ret v=>let#[x7,z,K,Z,r7,C]:=C;exact#[x7,z,K,Z.unpinned,r7,C]
end
end
noncomputable abbrev R2:=V->V->Hp->VK->Prop
def sE(X:Cx)(f:Jw->Jw->Sem Jw)(r:R2):Prop :=
 ∀(h:MB) (s:jx) (z:St) (H:Hp) (x y:V) (v u:Jw) (Q:VK),Inv X h z H s->nA x v->nA y u->r x y H Q ->
  jy (js X.prog X.w) X.A (f v u) (EP X h z Q) X.xe s
def Co(X:Cx)(f:Jw->Sem Jw)(r:V->Hp->VK->Prop):Prop :=
 ∀(h:MB) (s:jx) (y:St) (H:Hp) (x:V) (v:Jw) (Q:VK),Inv X h y H s->nA x v->r x H Q ->
  jy (js X.prog X.w) X.A (f v) (EP X h y Q) X.xe s
def dC(X:Cx)(f:Jw)(r:LV->Hp->VK->Prop):Prop :=
 ∀(h:MB) (s:jx) (x:St) (H:Hp) (y:LV) (z:LW) (Q:VK),Inv X h x H s->bA y z->r y H Q ->
  jy (js X.prog X.w) X.A (Xw f z) (EP X h x Q) X.xe s
def Do(X:Cx)(r:V->Hp->(Bool->Hp->Prop)->Prop):Prop :=
 ∀(h:MB) (s:jx) (y:St) (H:Hp) (x:V) (v:Jw) (Q:Bool->Hp->Prop),Inv X h y H s->nA x v->r x H Q ->
  jy (js X.prog X.w) X.A (truthy v) (TP X h y Q) X.xe s
noncomputable def mh(r:R2)(ta z:TE):TE:=λh H Q=>ta h H λx v=>z h v λy u=>r x y u Q
noncomputable def Mq(r:V->Hp->VK->Prop)(ta:TE):TE:=λh H Q=>ta h H λx y=>r x y Q
noncomputable def rI(C:Int->Int->Prop)(g:Int->Int->V):R2:=λx y H Q=>∃i j,x=.int i/\y=.int j/\C i j/\Q (g i j) H
noncomputable def g6(g:Int->Int->V):R2:=λx y H Q=>∃i j,x=.int i/\y=.int j/\Q (g i j) H
def rU(g:Int->V):V->Hp->VK->Prop:=λx H Q=>∃i,x=.int i/\Q (g i) H
section
variable{X:Cx}{a b c:Expr}{ta z tc:TE}{pos:Pos}
section
variable{f:Jw->Jw->Sem Jw}{g:Int->Int->Int}
theorem binT(ha:PE X a ta)(hb:PE X b z){k:MB}{s:jx}{σ:St}{H:Hp}{R:V->V->Hp->Prop}(I:Inv X k σ H s)
  (h:ta σ H λx m=>z σ m λy e=>R x y e) {Q:ZB}
  (Y:∀v u l x y e,Inv X k σ e l->nA x v->nA y u->R x y e->jy (js X.prog X.w) X.A (f v u) Q X.xe l) :
  jy (js X.prog X.w) X.A (kb a X.env) (λv j=>jy (js X.prog X.w) X.A (kb b X.env) (λu i=>jy (js X.prog X.w) X.A (f v u) Q X.xe i) X.xe j) X.xe s:=by
 refine LB (ha k s σ H _ I h) λv n #[x,m,W,p,r]=>?_;refine LB (hb k n σ m _ W r) λu l #[y,e,Z,o,q]=>?_;exact Y v u l x y e Z p o q
theorem Ki{k:Vy}{r:R2}(m:sE X (kd k) r)(ha:PE X a ta)(hb:PE X b z):PE X (.BinOp a k b pos) (mh r ta z):=by intro w s e H Q I h;exact wpAny_BinOp (binT ha hb I h λv u i x y o n l j q=>m w i e o x y v u Q n l j q)
theorem Zi{w:Gw}{r:V->Hp->VK->Prop}(j:Co X (unaryOp w) r)(ha:PE X a ta):PE X (.UnaryOp w a pos) (Mq r ta):=by intro y s u H Q I h;exact UnaryOp_ (LB (ha y s u H _ I h) λv k #[x,m,l,e,i]=>j y k u m x v Q l e i)
theorem Iq{C:Int->Int->Prop}
  (k:∀(i j:Int) (t u:Tok) (s:jx) (Q:ZB) (E:ZB),C i j->Q (.int (g i j) s.toks) { s with toks:=s.toks+1 }->jy (js X.prog X.w) X.A (f (.int i t) (.int j u)) Q E s) :
  sE X f (rI C λi j=>.int (g i j)):=by
 intro e s o H x y v u Q I n m h;let#[i,j,rfl,rfl,hc,q]:=h;let#[t,rfl]:=n;let#[l,rfl]:=m;exact k i j t l s _ _ hc #[.int (g i j),H,I.tok _,#[_,rfl],q]
theorem Fi
  (k:∀(i j:Int) (t u:Tok) (s:jx) (Q:ZB) (E:ZB),Q (.int (g i j) s.toks) { s with toks:=s.toks+1 }->jy (js X.prog X.w) X.A (f (.int i t) (.int j u)) Q E s) :
  sE X f (g6 λi j=>.int (g i j)):=by
 intro e s o H x y v u Q I n m h;let#[i,j,rfl,rfl,q]:=h;let#[t,rfl]:=n;let#[l,rfl]:=m;exact k i j t l s _ _ #[.int (g i j),H,I.tok _,#[_,rfl],q]
theorem E6{g:Int->Int->Bool}
  (k:∀(i j:Int) (t u:Tok) (s:jx) (Q:ZB) (E:ZB),Q (.bool (g i j)) s->jy (js X.prog X.w) X.A (f (.int i t) (.int j u)) Q E s) :
  sE X f (g6 λi j=>.bl (g i j)):=by
 intro e s o H x y v u Q I n m h;let#[i,j,rfl,rfl,q]:=h;let#[t,rfl]:=n;let#[l,rfl]:=m;exact k i j t l s _ _ #[.bl (g i j),H,I,rfl,q]
def DL(i j:Int):Prop:=(-(2 ^ 64)<i/\i<2 ^ 64)∨(-(2 ^ 64)<j/\j<2 ^ 64)
theorem DL.ok{i j:Int}(h:DL i j):Yy i j:=by
 rcases h with⟨y,x⟩| ⟨y,x⟩
 exact .of_left (zy y x);exact .of_right (zy y x)
theorem op_add:sE X (kd .Add) (g6 λi j=>.int (i+j)):=Fi λ_ _ _ _ _ _ _ q=>add_int q
theorem op_sub:sE X (kd .Sub) (g6 λi j=>.int (i - j)):=Fi λ_ _ _ _ _ _ _ q=>sub_int q
theorem op_mod:sE X (kd .Mod) (rI (λ_ j=>0<j) λi j=>.int (i % j)):=Iq λi j _ _ _ _ _ hc q=>by have h:(0:Int)<j:=hc;exact mod_int' () (by rw[Int.fmod_eq_emod_of_nonneg i ()];exact q)
theorem Lq{f:Jw->Sem Jw}{g:Int->Int}
  (y:∀(i:Int) (t:Tok) (s:jx) (Q:ZB) (E:ZB),Q (.int (g i) s.toks) { s with toks:=s.toks+1 }->jy (js X.prog X.w) X.A (f (.int i t)) Q E s) :
  Co X f (rU λi=>.int (g i)):=by
 intro u s e H x v Q I k h;let#[i,rfl,q]:=h;let#[t,rfl]:=k;exact y i t s _ _ #[.int (g i),H,I.tok _,#[_,rfl],q]
theorem Yc:Co X (unaryOp .USub) (rU λi=>.int (-i)):=Lq λ_ _ _ _ _ q=>neg_int q
end
end
noncomputable def x6:V->V->Bool
 | .non,.non=>Jt | .non,.int _=>Jt | .int _,.non=>Jt | .non,.bl _=>Jt | .bl _,.non=>Jt | .non,.str _=>Jt | .str _,.non=>Jt
 | .int _,.int _=>Jt | .bl _,.bl _=>Jt | .str _,.str _=>Jt | .byt _,.byt _=>Jt
 | .int _,.str _=>Jt | .str _,.int _=>Jt | .bl _,.str _=>Jt | .str _,.bl _=>Jt
 |_,_=>Ju
def rEq:R2:=λx y H Q=>x6 x y=Jt/\Q (.bl (decide (x=y))) H
def Tq:R2:=λx y H Q=>x6 x y=Jt/\Q (.bl (!decide (x=y))) H
theorem aV{i j:Int}:decide (V.int i=V.int j)=(i==j):=by rw[qd];simp
theorem C3{i j:Bool}:decide (V.bl i=V.bl j)=(i==j):=by rw[qd];simp
theorem tV{i j:Str}:decide (V.str i=V.str j)=(i==j):=by rw[qd];simp
theorem eV{i j:Array UInt8}:decide (V.byt i=V.byt j)=(i.toList==j.toList):=by rw[qd];cases i;cases j;simp
section
variable{X:Cx}{a b c:Expr}{ta g tc:TE}{pos:Pos}
section
variable{r:R2}{d:vt}{us:LW}
theorem pA{h:MB}{σ:St}{H:Hp}{s:jx}{Q:VK}{k x:Bool}(I:Inv X h σ H s)(q:Q (.bl k) H)(e:k=x):EP X h σ Q (.bool x) s:=by subst e;exact#[.bl k,H,I,rfl,q]
theorem op_eq:sE X (Kx .Eq) rEq:=by
 intro e s f H x y v u Q I k z h;let#[hs,q]:=h;cases x with
 |non =>
  cases k;cases y with|non=>cases z;exact PySem.EqNone.eq_none_none (pA I q (by simp))|bl j=>cases z;exact PySem.EqNone.eq_none_bool (pA I q (by simp))|int j=>let#[w,rfl]:=z;exact PySem.EqNone.eq_none_int (pA I q (by simp))|str j=>let#[w,rfl]:=z;exact PySem.EqNone.eq_none_str (pA I q (by simp))|_=>exact h7 (show Ju=Jt from hs) QG
 |bl i =>
  cases k;cases y with|non=>cases z;exact PySem.EqNone.eq_bool_none (pA I q (by simp))|bl j=>cases z;exact eq_bool (pA I q C3)|str j=>let#[w,rfl]:=z;exact PySem.EqMixed.eq_bool_str (pA I q (by simp))|_=>exact h7 (show Ju=Jt from hs) QG
 |int i =>
  let#[t,rfl]:=k;cases y with|non=>cases z;exact PySem.EqNone.eq_int_none (pA I q (by simp))|int j=>let#[w,rfl]:=z;exact eq_int (pA I q aV)|str j=>let#[w,rfl]:=z;exact PySem.EqMixed.eq_int_str (pA I q (by simp))|_=>exact h7 (show Ju=Jt from hs) QG
 |str i =>
  let#[t,rfl]:=k;cases y with|non=>cases z;exact PySem.EqNone.eq_str_none (pA I q (by simp))|bl j=>cases z;exact PySem.EqMixed.eq_str_bool (pA I q (by simp))|int j=>let#[w,rfl]:=z;exact PySem.EqMixed.eq_str_int (pA I q (by simp))|str j=>let#[w,rfl]:=z;exact eq_str (pA I q tV)|_=>exact h7 (show Ju=Jt from hs) QG
 |byt i =>
  let#[t,rfl]:=k;cases y with|byt j=>let#[w,rfl]:=z;exact PySem.W.eq_bytes (pA I q eV)|_=>exact h7 (show Ju=Jt from hs) QG
 |_=>cases y<;>exact h7 (show Ju=Jt from hs) QG
theorem op_ne:sE X (Kx .NotEq) Tq:=by
 intro e s f H x y v u Q I k z h;let#[hs,q]:=h;cases x with
 |non =>
  cases k;cases y with|non=>cases z;exact PySem.EqNone.ne_none_none (pA I q (by simp))|bl j=>cases z;exact PySem.EqNone.ne_none_bool (pA I q (by simp))|int j=>let#[w,rfl]:=z;exact PySem.EqNone.ne_none_int (pA I q (by simp))|str j=>let#[w,rfl]:=z;exact PySem.EqNone.ne_none_str (pA I q (by simp))|_=>exact h7 (show Ju=Jt from hs) QG
 |bl i =>
  cases k;cases y with|non=>cases z;exact PySem.EqNone.ne_bool_none (pA I q (by simp))|bl j=>cases z;exact ne_bool (pA I q (Fz not C3))|str j=>let#[w,rfl]:=z;exact PySem.EqMixed.ne_bool_str (pA I q (by simp))|_=>exact h7 (show Ju=Jt from hs) QG
 |int i =>
  let#[t,rfl]:=k;cases y with|non=>cases z;exact PySem.EqNone.ne_int_none (pA I q (by simp))|int j=>let#[w,rfl]:=z;exact ne_int (pA I q (Fz not aV))|str j=>let#[w,rfl]:=z;exact PySem.EqMixed.ne_int_str (pA I q (by simp))|_=>exact h7 (show Ju=Jt from hs) QG
 |str i =>
  let#[t,rfl]:=k;cases y with|non=>cases z;exact PySem.EqNone.ne_str_none (pA I q (by simp))|bl j=>cases z;exact PySem.EqMixed.ne_str_bool (pA I q (by simp))|int j=>let#[w,rfl]:=z;exact PySem.EqMixed.ne_str_int (pA I q (by simp))|str j=>let#[w,rfl]:=z;exact ne_str (pA I q (Fz not tV))|_=>exact h7 (show Ju=Jt from hs) QG
 |byt i =>
  let#[t,rfl]:=k;cases y with|byt j=>let#[w,rfl]:=z;exact PySem.W.ne_bytes (pA I q (Fz not eV))|_=>exact h7 (show Ju=Jt from hs) QG
 |_=>cases y<;>exact h7 (show Ju=Jt from hs) QG
theorem op_lt:sE X (Kx .Lt) (g6 λi j=>.bl (decide (i<j))):=E6 λ_ _ _ _ _ _ _ q=>lt_int q
theorem op_le:sE X (Kx .LtE) (g6 λi j=>.bl (decide (i<=j))):=E6 λ_ _ _ _ _ _ _ q=>le_int q
theorem op_gt:sE X (Kx .Gt) (g6 λi j=>.bl (decide (j<i))):=E6 λ_ _ _ _ _ _ _ q=>gt_int q
theorem op_ge:sE X (Kx .GtE) (g6 λi j=>.bl (decide (j<=i))):=E6 λ_ _ _ _ _ _ _ q=>ge_int q
theorem nW:sE X (Kx .In) (λx y H Q=>∃i j,x=.str i/\y=.str j/\Q (.bl (!(Wc j i 0 j.9 1).isEmpty)) H):=by intro z s e H x y v u Q I k w h;let#[i,j,rfl,rfl,q]:=h;let#[t,rfl]:=k;let#[f,rfl]:=w;exact in_str (pA I q rfl)
theorem iN:sE X (Kx .NotIn) (λx y H Q=>∃i j,x=.str i/\y=.str j/\Q (.bl (!(!(Wc j i 0 j.9 1).isEmpty))) H):=by intro z s e H x y v u Q I k w h;let#[i,j,rfl,rfl,q]:=h;let#[t,rfl]:=k;let#[f,rfl]:=w;exact notIn_str (pA I q rfl)
theorem sE.or{f:Jw->Jw->Sem Jw}{r':R2}(h:sE X f r)(h':sE X f r'):sE X f (λx y H Q=>r x y H Q∨r' x y H Q):=by intro z s w H x y v u Q I e k q;rcases q with q|q;exact h z s w H x y v u Q I e k q;exact h' z s w H x y v u Q I e k q
theorem L6(i:sE X (Kx d) r)(ha:PE X a ta)(hb:PE X b g)(hm:xw d b=Ju):PE X (.Compare a [d] [b] pos) (mh r ta g):=by intro z s w H Q I h;exact wpAny_Compare1 (binT ha hb I h λv u k x y l j f e q=>i z k w l x y v u Q j f e q) hm
def gh(t:TE):TT:=λh H Q=>t h H λx y=>∃k,x=.bl k/\Q k y
theorem r6(Y:sE X (Kx d) r)(ha:PE X a ta)(hb:PE X b g)(hm:xw d b=Ju):PT X (.Compare a [d] [b] pos) (gh (mh r ta g)):=by
 intro w s f H Q I h;refine wpAny_isTrue_Compare1 (LB (ha w s f H _ I h) λv j #[x,C,K,n,q]=>LB (hb w j f C _ K q) λu i #[y,B,W,m,p] =>
  LB (Y w i f B x y v u _ W n m p) λc E #[z,A,Z,l,k,e,o]=>?_) hm
 subst e;cases l;exact wu #[A,Z,o]
def lg(K:QE)(x:V)(H:Hp)(k:Bool):Prop :=
 match x with
 | .non=>k=Ju|.bl b=>k=b|.int i=>k=(i != 0)|.str y=>y.9<=jz/\k=((y.9:Int) != 0)|.byt y=>y.size<=jz/\k=((y.size:Int) != 0)|.ref p=>(∃h,gC K H p h/\k=!h.isEmpty)∨(∃h,TC K H p h/\k=!h.isEmpty)∨∃z,H p=Jr (.dK z)/\k=!z.isEmpty|_=>False
theorem CS{κ:Type}{kvs:List (κ×V)}{vs:List (κ×Jw)}(r:KV kvs vs):(!vs.isEmpty)=!kvs.isEmpty:=by cases r<;>rfl
theorem FK{xs:LV}{its:LW}(r:bA xs its):(!its.toArray.isEmpty)=!xs.isEmpty:=by cases r<;>simp
theorem GG:(jz:Nat)<2 ^ 63:=by rw[qU];decide
theorem uY:Do X (λx H Q=>∃k,lg X.K x H k/\Q k H):=by
 intro A s F H x v Q I l h;let#[k,e,q]:=h;have hl:=GG;have hs:jz=16777216:=qU;cases x with
 |non=>cases l;have z:k=false:=e;subst z;exact truthy_none #[H,I,q]|bl b=>cases l;have z:k=b:=e;subst z;exact wu #[H,I,q]|int i=>let#[t,rfl]:=l;have z:k=(i != 0):=e;subst z;exact PySem.P.truthy_int #[H,I,q]|str y=>let#[t,rfl]:=l;obtain⟨C,z⟩:y.9<=jz/\k=((y.9:Int) != 0):=e;subst z;exact PySem.P.truthy_str () #[H,I.tok _,q]|byt y=>let#[t,rfl]:=l;obtain⟨C,z⟩:y.size<=jz/\k=((y.size:Int) != 0):=e;subst z;exact PySem.W.truthy_bytes () #[H,I.tok _,q]|ref p =>
  cases l;have z:(∃j,gC X.K H p j/\k=!j.isEmpty)∨(∃j,TC X.K H p j/\k=!j.isEmpty)∨∃u,H p=Jr (.dK u)/\k=!u.isEmpty:=e;rcases z with⟨j,n,z⟩| ⟨j,n,z⟩| ⟨u,n,z⟩
  subst z;let#[Z,r,Y,B]:=I.list n;have f:=r.9;exact wpAny_truthy_list Y.isList (by simp only[QT];omega) #[H,I.tok _,by rw[FK r];exact q];subst z;let#[Z,r,Y,B]:=I.tuple n;have f:=r.9;exact truthy_tuple Y (by simp only[QT];omega) #[H,I.tok _,by rw[FK r];exact q];subst z;obtain⟨B,E,o,r,m⟩:u.9<=jz/\(p==Kt)=Ju/\∃o,KV u o/\s.1.DictOf (vB X.prog X.w) p o:=I.hok p _ n;have f:u.9=o.length:=qt r;exact wpAny_truthy_dict E m () #[H,I.tok _,by rw[CS r];exact q]
 |_=>exact(show False from e).elim
theorem bS:sE X (kd .Add) (λx y H Q=>∃i j,x=.str i/\y=.str j/\i.9+j.9<=jz/\Q (.str (i++j)) H):=by intro z s l H x y v u Q I e k h;let#[i,j,rfl,rfl,f,q]:=h;let#[t,rfl]:=e;let#[w,rfl]:=k;exact add_str (λw m=>#[.str (i++j),H,I.tok _,#[_,rfl],q]) f
theorem zH{x:V}(r:bA [x] us):∃u,us=[u]/\nA x u:=by
 cases r with|cons y h=>cases h;exact#[_,rfl,y]
theorem jY{x y:V}(r:bA [x,y] us):∃u h,us=[u,h]/\nA x u/\nA y h:=by
 cases r with
 |cons k w =>
  cases w with|cons v z=>cases z;exact#[_,_,rfl,k,v]
theorem pX(hc:X.calm=Jt):dC X (.builtin "max") (λxs H Q=>∃i j,xs=[.int i,.int j]/\Q (.int (if j > i then j else i)) H):=by
 intro y s z H xs us Q I r h;let#[i,j,rfl,q]:=h;let#[u,v,rfl,#[t,rfl],#[e,rfl]]:=jY r;refine max_two_ints (I.ok.hd hc) λf w k=>#[_,H,I.kept k,?_,q]
 by_cases x:j > i;rw[hQ x,hQ x];exact#[_,rfl];rw[hI x,hI x];exact#[_,rfl]
end
end
section
variable{h:j0}{u:jv}{v:Str->Option Jw}
structure ObjM(h:j0)(x u C:jv)(v:Str->Option Jw):Prop where
 obj:h.get? x=Jr (QCG C u)
 ns:h.Ns1 u v
 ne:u≠x
theorem HW(n:h.Ns1 u v):∃w,h.get? u=Jr w/\∀name,QCg name w=Jr (v name):=by
 let#[o,k,j,f,g,hk,_,hm]:=n;refine#[o,f,λname=>?_];have e:=hm name;unfold nsFind findBy at e;rw[<- Array.find?_toList]at e;unfold QCg;rw[g];dsimp only;split;rename_i y q;rw[q]at e;exact Fz Jr e;rename_i q;rw[q]at e;have a:k.toList.any (·.refKey)=false:=by rw[QBd];intro y b;let#[z,t,x]:=hk y (W8.mp b);simp[DictEntry.refKey,x]
 have i:¬ k.toList.any (·.refKey)=true:=by rw[a];exact QG
 rw[hI i];exact Fz Jr e
theorem ObjM.look{x C:jv}(I:ObjM h x u C v):∃y,PySem.W.InstAt h x (QCG C u) C (Jr y)/\∀name,QCg name y=Jr (v name) :=
 let#[y,z,hl]:=HW I.ns
 #[y,#[I.obj,rfl,rfl,z],hl]
end
section
variable{P:jt}{w:jw}{H u:Hp}{h h':j0}{a C x:jv}{fs y:List (Str×V)}
theorem d8(k:iJ P w H h)(e:H a=Jr (.ins C x fs)):∃v,ObjM h a x C v/\(∀f,uR (fs.lookup f) (v f))/\PySem.Within v (fs.map (·.1))/\fs.9<=1000/\H x=Jr (.own a):=by
 let#[d,z,g,b,v,n,r,q]:=(show VA P w H h a (.ins C x fs) from k a _ e)
 exact#[v,#[b,n,g],r,q,z,d]
end
structure Cls(K:QE)(C:jv):Prop where
 pg:QDg K C Str.empty=Jt
 hd:PySem.W.hasDictIn K C=Jt
 po:PySem.W.plainOver K C=Jt
 sa:PySem.W.findIn K (.ref C) "__setattr__"=Jr (Jr (.builtin "object.__setattr__"))
theorem Cls.get{K:QE}{C:jv}(c:Cls K C)(f:Str):QDg K C f=true:=c.pg
section
variable{X:Cx}{v:MB}{σ:St}{H:Hp}{s:jx}{A:j2}{E:ZB}{Q:ZB}{c:Jw}{b:Bool}
inductive TyOf(K:QE)(H:Hp):V->Jw->Prop where
 |non:TyOf K H .non (.type "NoneType")
 |bl (x:Bool):TyOf K H (.bl x) (.type "bool")
 |int (i:Int):TyOf K H (.int i) (.type "int")
 |str (x:Str):TyOf K H (.str x) (.type "str")
 |flt (x:UInt64):TyOf K H (.flt x) (.type "float")
 |lst {a:jv}{xs:LV}(e:H a=Jr (.lst xs)):TyOf K H (.ref a) (.type "list")
 |frz {a:jv}{o:Obj}{xs:LV}(e:H a=Jr (.frz o (.lst xs))):TyOf K H (.ref a) (.type "list")
 |tup {a:jv}{xs:LV}(e:H a=Jr (.tup xs)):TyOf K H (.ref a) (.type "tuple")
 |dK {a:jv}{kvs:List (Key×V)}(e:H a=Jr (.dK kvs)):TyOf K H (.ref a) (.type "dict")
 |dT {a:jv}{ep:Nat}{kvs:List (List Key×jv×V)}(e:H a=Jr (.dT ep kvs)):TyOf K H (.ref a) (.type "dict")
 |ins {a C dx:jv}{fs:List (Str×V)}(e:H a=Jr (.ins C dx fs)) (cl:Cls K C) (ha:PySem.W.findIn K (.ref C) "__class__"=Jr (Jr (.builtin "object.__class__")))
   (hn:PySem.W.specialIn K (.builtin "object.__class__") "__get__"=Jr (Jr (.builtin "getset_descriptor.__get__"))) (htk:PySem.W.takesIn K (.builtin "object.__class__")=Jr Jt)
   (hm:PySem.W.mroIn K C (.type "object")=Jr Jt):TyOf K H (.ref a) (.ref C)
theorem EW{x:V}{u t:Jw}(I:Inv X v σ H s)(k:nA x u)(ty:TyOf X.K H x t)(e:QCh X.K t c=Jr b)(h:∀B,Q (.bool b) { s with toks:=B }) :
  jy (js X.prog X.w) A (Xw (.builtin "isinstance") [u,c]) Q E s:=by
 cases ty with
 |non=>cases(show u=Jz from k);exact qe PySem.W.kitx_none I.kIn True.intro e (λz=>nomatch z) h
 |bl y=>cases(show u=Value.bool y from k);exact qe PySem.W.kitx_bool I.kIn True.intro e (λz=>nomatch z) h
 |int i=>let#[t,q]:=(show ∃t,u=Value.int i t from k);cases q;exact qe PySem.W.kitx_int I.kIn True.intro e (λz=>nomatch z) h
 |str y=>let#[t,q]:=(show ∃t,u=Value.str y t from k);cases q;exact qe PySem.W.kitx_str I.kIn True.intro e (λz=>nomatch z) h
 |flt y=>let#[t,q]:=(show ∃t,u=Value.float y t from k);cases q;exact qe PySem.W.kitx_float I.kIn True.intro e (λz=>nomatch z) h
 |@lst a l f =>
  cases(show u=Jv a from k);let#[_,_,n,_,g]:=(show VA X.prog X.w H s.1 a (.lst l) from I.hok a _ f)
  exact qe QBe I.kIn #[_,g,rfl] e (λz=>nomatch z) h
 |@frz a F l f =>
  cases(show u=Jv a from k);let#[_,_,_,n,_,g]:=(show VA X.prog X.w H s.1 a (.frz F (.lst l)) from I.hok a _ f)
  exact qe QBe I.kIn #[_,g,rfl] e (λz=>nomatch z) h
 |@tup a l f =>
  cases(show u=Jv a from k);let#[_,_,_,p]:=(show VA X.prog X.w H s.1 a (.tup l) from I.hok a _ f)
  let#[o,g,m,_]:=p;exact qe QC2 I.kIn #[o,g,m] e (λz=>nomatch z) h
 |@dK a j f =>
  cases(show u=Jv a from k);let#[_,_,N,_,p]:=(show VA X.prog X.w H s.1 a (.dK j) from I.hok a _ f)
  let#[o,M,Y,g,m,_]:=p;exact qe QDG I.kIn #[o,g,m.1] e (λz=>nomatch z) h
 |@dT a Y j f =>
  cases(show u=Jv a from k);let#[_,_,l,_,o,M,g,m,_]:=(show VA X.prog X.w H s.1 a (.dT Y j) from I.hok a _ f)
  exact qe QDG I.kIn #[o,g,m.1] e (λz=>nomatch z) h
 |@ins a C S fs f Z L G r hm=>cases(show u=Jv a from k);let#[R,O,_]:=d8 I.hok f;let#[P,J,_]:=O.look;exact qe (PySem.W.kitx_own (Z.get _) Z.hd L G r hm) I.kIn J e (λz=>nomatch z) h
end
section
variable{k:Nat}{A:j2}
structure Room(k:Nat)(A:j2):Prop where
 hd:A.handled=Js
 dp:A.depth+3 * k+5<recursionLimit
 un:A.units+16 * k+200<kx
theorem Room.mono{j:Nat}(r:Room k A)(h:j<=k):Room j A:=#[r.hd,by have:=r.dp;omega,by have:=r.un;omega]
theorem Room.deeper(r:Room (k+1) A)(env:Env):Room k (A.deeper env) :=
 #[r.hd,by have:=r.dp;show A.depth+1+3 * k+5<_;omega,by have:=r.un;show A.units+3+16 * k+200<_;omega]
theorem Room.depth(r:Room k A):A.depth<recursionLimit:=by have:=r.dp;omega
def nh:TA:=λ_ H Q=>Q [] H
noncomputable def rh(ta:TE)(z:TA):TA:=λh H Q=>ta h H λx v=>z h v λy u=>Q (x::y) u
end
section
variable{X:Cx}{e:Expr}{es:List Expr}{te:TE}{t:TA}{pos:Pos}
theorem nZ:PA X [] nh:=λ_ _ _ _ H Q I h=>WQ #[[],H,I,.nil,h]
theorem tN(ha:PE X e te)(g:PA X es t)(hs:Ky (e::es) X.env=(Ju,kb e X.env)::Ky es X.env:=by rfl):PA X (e::es) (rh te t):=by intro pos y s z H Q I h;rw[hs];show jy _ _ (xz ((Ju,kb e X.env)::vv pos (Ky es X.env))) _ _ s;refine Wq (LB (ha y s z H _ I h) λu w #[x,m,j,a,f]=>?_);exact LB (g pos y w z m _ j f) λn o #[v,l,i,k,b]=>#[x::v,l,i,.cons a k,b]
def ym(t:TA):TE:=λy H Q=>t y H λh x=>h.9<=jz/\∀p,x p=Js->Q (.ref p) (XA x p (.tup h))
def um(t:TA):TE:=λy H Q=>t y H λh x=>h.9<=jz/\∀p,x p=Js->Q (.ref p) (XA x p (.lst h))
theorem Cd{x1}(h:PA X es t):PE X (.Tuple es x1 pos) (ym t):=by intro x s k H Q I g;refine wpAny_Tuple_spliced (LB (h pos x s k H _ I g) λf y #[a,w,v,r,z,q]=>#[by rw[<- r.9];exact z,?_]);have i:w y.1.1.size=none:=v.hok.fresh (QX _);refine#[.ref y.1.1.size,XA w y.1.1.size (.tup a),v.laid (t':=y.toks) (λb u e=>QJ _ e) (QX _) ?_,rfl,q _ i];exact#[z,f,r,#[_,QO _ rfl,rfl,_,rfl]]
theorem Fd(h:PA X es t):PE X (.List es pos) (um t):=by intro x s k H Q I g;refine wpAny_List_spliced (LB (h pos x s k H _ I g) λf y #[a,w,v,r,z,q]=>#[by rw[<- r.9];exact z,?_]);have i:w y.1.1.size=none:=v.hok.fresh (QX _);refine#[.ref y.1.1.size,XA w y.1.1.size (.lst a),v.laid (t':=y.toks) (λb u e=>QJ _ e) (QX _) ?_,rfl,q _ i];exact#[z,f,0,r,QO _ rfl]
end
noncomputable abbrev Sp:=LV->Hp->VK->XK->Prop
noncomputable abbrev m5:=List Env->Hp->jx->XK->Jw->jx->Prop
structure Env0(P:jt)(w:jw)(K:QE)(mg:Str->Option Jw)(base:j0)(A:j2)(outer:List Env)(s:jx)(H:Hp):Prop where
 frames:A.frames=Jr outer
 mod:Mod K mg base
 bs:∀b o,base.get? b=Jr o->s.1.get? b=Jr o/\H b=Js
 bsz:base.1.size<=s.1.1.size
 funs:s.1.FunFrames base outer
 frf:∀b∈uX outer,H b=Js
 hok:iJ P w H s.1
 bare:gw s.gens
def CE(outer:List Env)(P:jt)(w:jw)(H:Hp)(s:jx)(Q:VK)(u:Jw)(s':jx):Prop :=
 ∃v h,s'.os=s.os/\gw s'.gens/\Un (uX outer) [] H h s.1 s'.1/\iJ P w h s'.1/\nA v u/\Q v h
def CR(h:m5)(outer:List Env)(P:jt)(w:jw)(H:Hp)(s:jx)(Q:VK)(E:XK)(r:Result)(s':jx):Prop :=
 match r with
 | .ok (.ret u)=>CE outer P w H s Q u s'|.ok _=>False|.error e=>h outer H s E e s'
structure FnOk(P:jt)(w:jw)(K:QE)(mg:Str->Option Jw)(base:j0)(CX:m5)(k:Nat)(f:jv)(fd:Kw)(ps:LS)(sp:Sp):Prop where
 len:∀vs H Q E,sp vs H Q E->vs.9=ps.9
 run:∀(A:j2) (outer:List Env) (s:jx) (H:Hp) (args:Args) (us:LW) (vs:LV) (Q:VK) (E:XK),Room k A->Env0 P w K mg base A outer s H->Yz s fd args (ps.zip us)->bA vs us->sp vs H Q E ->
  Xz (js P w) A (.call (.ref f) args) (CR CX outer P w H s Q E) s
theorem FnOk.mono{P:jt}{w:jw}{K:QE}{v:Str->Option Jw}{x:j0}{b:m5}{j k:Nat}{f:jv}{a:Kw}{u:LS}{z:Sp}(F:FnOk P w K v x b j f a u z)(h:j<=k) :
  FnOk P w K v x b k f a u z:=#[F.len,λA y s H args g e Q E i=>F.run A y s H args g e Q E (i.mono h)]
section
variable{X:Cx}{x:MB}{σ:St}{H:Hp}{s s':jx}
theorem Inv.env0(I:Inv X x σ H s):Env0 X.prog X.w X.K X.mg X.base X.A X.stack s H :=
 #[I.ok.frames,I.ok.mod,I.bs,Qf I.ok.bsz I.sz,I.stack,I.stkFree,I.hok,I.bare]
theorem Inv.after{Q:VK}{u:Jw}(I:Inv X x σ H s)(h:CE X.stack X.prog X.w H s Q u s'):EP X x σ Q u s':=by let#[v,f,a,bare,un,k,r,q]:=h;let#[e,g,d,t,y]:=s';obtain rfl:y=s.os:=a;exact#[v,f,I.call (h':=e) (g':=g) (d':=d) (t':=t) (ch:=[]) un k bare (λb z=>h7 z (by simp)),r,q]
end
noncomputable def f9(z:Sp)(h:LV)(E:XK)(t:TA):TE:=λx H Q=>t x H λy u=>z (y++h) u Q E
def JG(K:QE)(y:Kw)(x:LS)(ds:LW):Prop :=
 ∀(s:jx) (h:LW),K.In s.1->(h++ds).9=x.9->Yz s y #[h,[]] (x.zip (h++ds))
theorem JG.all{K:QE}{y:Kw}{x:LS}(h:∀us:LW,us.9=x.9->xx y #[us,[]]=hT (x.zip us)):JG K y x []:=λs us _ hl=>by rw[wH]at hl ⊢;exact .of_eq (h us hl)
def mL(z:m5)(X:Cx)(E:XK):Prop:=∀(h:MB) (y:St) (H:Hp) (s:jx) (e:Jw) (x:jx),Inv X h y H s->z X.stack H s E e x->X.xe e x
section
variable{X:Cx}{b:m5}{k:Nat}{f C:jv}{a:Kw}{z:LS}{v:Sp}{y:LV}{ds:LW}{E:XK}{x m:Str}{p pos apos:Pos}{e o:Expr}{es:List Expr}{ta:TE}{t:TA}
theorem BY{g:MB}{σ:St}{H:Hp}{s:jx}{Q:VK}{us:LW}{vs:LV}(F:FnOk X.prog X.w X.K X.mg X.base b k f a z v)(q:Room k X.A)(hb:JG X.K a z ds)(Y:bA y ds)(n:mL b X E)
  (I:Inv X g σ H s) (r:bA vs us) (h:v (vs++y) H Q E):jy (js X.prog X.w) X.A (Xw (.ref f) us) (EP X g σ Q) X.xe s:=by
 have j:bA (vs++y) (us++ds):=r.append Y;have hl:(us++ds).9=z.length:=by rw[<- j.9];exact F.len _ _ _ _ h
 refine QD8 (QAL (F.run X.A X.stack s H #[us,[]] (us++ds) (vs++y) Q E q I.env0 (hb s us I.kIn hl) j h) λr l i=>?_);cases r with
 |error e=>exact n g σ H s e l I i|ok fl =>
  cases fl with|ret u=>exact I.after i|next=>exact Qj i|brk=>exact Qj i|cont=>exact Qj i
theorem M6(F:FnOk X.prog X.w X.K X.mg X.base b k f a z v)(Y:Room k X.A)(Z:Gl X x)(hm:X.mg x=Jr (.ref f))(hk:Wm X.K (.ref f)=Jt)(hb:JG X.K a z ds)(G:bA y ds)(n:mL b X E)
  (ha:PA X (e::es) t) (i:(x==("__debug__":Str))=false:=by decide) (B:Ky (e::es) X.env=(Ju,kb e X.env)::Ky es X.env:=by rfl) (g:(vv pos (Ky es X.env)).any (·.1)=false:=by rfl) :
  PE X (.Call (.Name x p) (e::es) [] pos) (f9 v y E t):=by
 intro u s l H Q I h;refine wI (ON I Z hm ?_ i);refine PySem.W.callWith_K (h₀:=X.base) I.ok.mod.kin hk (LB (ha pos u s l H _ I h) λL M #[J,N,j,r,q]=>#[j.kIn,?_]) B g;exact BY F Y hb G n j r q
theorem fZ(F:FnOk X.prog X.w X.K X.mg X.base b k f a z v)(j:Room k X.A)(l:Gl X x)(hm:X.mg x=Jr (.ref f))(hk:Wm X.K (.ref f)=Jt)(hb:JG X.K a z ds)(n:bA y ds)(i:mL b X E)
  (u:(x==("__debug__":Str))=false:=by decide):PE X (.Call (.Name x p) [] [] pos) (f9 v y E nh):=by
 intro g s q H Q I h;refine wI (ON I l hm ?_ u);exact PySem.W.callWith_K0 I.kIn hk (BY (us:=[]) F j hb n i I .nil h)
end
section
variable{X:Cx}{c:m5}{k:Nat}{f C:jv}{b:Kw}{v ks:LS}{u:Sp}{E:XK}{x m:Str}{p pos apos h:Pos}{e o:Expr}{es:List Expr}{y:List xk}{te ta:TE}{t z:TA}{w:Option Str}
variable{g:LW->LW->LW}{a:LV->LV->LV}
end
section
variable{l:m5}{P:jt}{w:jw}{mg:Str->Option Jw}{base:j0}{j:LS}{g:Str}{d:kl}{f:jv}
structure FnScope(N P:LS)(sc:kl):Prop where
 kind:sc.kind=.function
 co:sc.isCoroutine=Ju
 gen:sc.isGenerator=Ju
 nd:N.Nodup
 pre:N.take P.9=P
 par:∀x∈P,sc.names.lookup x=Jr .local∨sc.names.lookup x=Jr .cell
 nofree:∀y∈sc.names,y.2≠.free
theorem YM{y:Str->Option Vt}{x:Str}:∀{binds:List (Str×Jw)}{m:Str->Option Jw},(∀v,(x,v)∉binds)->yw y binds m x=m x
 |[],_,_=>rfl|(n,v)::r,m,h=>by
  unfold yw;rw[YM λw z=>h w (QC _ z)];split;have:x≠n:=by rintro rfl;exact h v QD
  simp[this];rfl
theorem KM{y:Str->Option Vt}{x:Str}:∀{binds:List (Str×Jw)}{m:Str->Option Jw},(∀v,(x,v)∉binds)->y1 y binds m x=m x
 |[],_,_=>rfl|(n,v)::r,m,h=>by
  unfold y1;rw[KM λw z=>h w (QC _ z)];split;rfl;have:x≠n:=by rintro rfl;exact h v QD
  simp[this]
theorem ZM{y:Str->Option Vt}{x:Str}{v:Jw}:∀{P:LS}{vs:LW}{i:Nat}{m:Str->Option Jw},P.Nodup->P[i]?=Jr x->vs[i]?=Jr v->y x=Jr .local ->
  yw y (P.zip vs) m x=Jr v
 |[],_,_,_,_,h,_,_=>by simp at h|_::_,[],_,_,_,_,h,_=>by simp at h|p::P,w::vs,0,m,nd,h1,h2,hk=>by simp at h1 h2;subst h1;subst h2;show yw y ((p,w)::P.zip vs) m p=_;unfold yw;rw[YM λv hv=>(Qa.mp nd).1 (QCH hv).1,hQ hk];simp|p::P,w::vs,i+1,m,nd,h1,h2,hk=>by show yw y ((p,w)::P.zip vs) m x=_;unfold yw;exact ZM (i:=i) (Qa.mp nd).2 (by simpa using h1) (by simpa using h2) hk
theorem VM{y:Str->Option Vt}{x:Str}{v:Jw}:∀{P:LS}{vs:LW}{i:Nat}{m:Str->Option Jw},P.Nodup->P[i]?=Jr x->vs[i]?=Jr v->y x≠Jr .local ->
  y1 y (P.zip vs) m x=Jr v
 |[],_,_,_,_,h,_,_=>by simp at h|_::_,[],_,_,_,_,h,_=>by simp at h|p::P,w::vs,0,m,nd,h1,h2,hk=>by simp at h1 h2;subst h1;subst h2;show y1 y ((p,w)::P.zip vs) m p=_;unfold y1;rw[KM λv hv=>(Qa.mp nd).1 (QCH hv).1,hI hk];simp|p::P,w::vs,i+1,m,nd,h1,h2,hk=>by show y1 y ((p,w)::P.zip vs) m x=_;unfold y1;exact VM (i:=i) (Qa.mp nd).2 (by simpa using h1) (by simpa using h2) hk
noncomputable def iD(N:LS)(vs:LV):St:=vs.map Jr++Q9 (N.9 - vs.9) Js
noncomputable def zT(l:m5)(P:jt)(w:jw)(K:QE)(mg:Str->Option Jw)(base:j0)(N:LS)(g:Str)(d:kl)(f:jv)(x:Jw)(A:j2)(outer:List Env)(s:jx)(H:Hp)(E:XK):Cx where
 prog:=P
 w:=w
 K:=K
 mg:=mg
 base:=base
 A:=A.deeper (Hx g d s.1.1.size f x)
 N:=N
 s₀:=s
 H₀:=H
 env:=Hx g d s.1.1.size f x
 outer:=outer
 stack:=Hx g d s.1.1.size f x::outer
 ex:=[]
 calm:=Jt
 fn:=λ_=>Jt
 pn:=[]
 xe:=λe y=>jy (js P w) (A.deeper (Hx g d s.1.1.size f x)) (leaving (Hx g d s.1.1.size f x) e) (λ_ h=>l outer H s E e h) (λz h=>l outer H s E z h) y
theorem PQ{sc:kl}{n:Nat}{x:Str}(h:sc.names.lookup x=Jr .cell):∃c,(Gr n sc.names []).lookup x=Jr c:=by have q:=QB6 sc.names n [] (.inl h);exact QBf.mp q
theorem IW{K:QE}{N:LS}{F:Jw}{A:j2}{outer:List Env}{s G:jx}{H:Hp}{E:XK}{us:LW}{vs:LV}
  (S:FnScope N j d) (M:A.handled=Js) (o:Env0 P w K mg base A outer s H) (hl:vs.9=j.9) (r:bA vs us)
  (x:InCallC s s.1.1.size (yw (Hx g d s.1.1.size f F).kindOf (j.zip us) λ_=>Js) (Gr (s.1.1.size+1) d.names []) (y1 (Hx g d s.1.1.size f F).kindOf (j.zip us) λ_=>Js) G) :
  Inv (zT l P w K mg base N g d f F A outer s H E) [] (iD N vs) H G:=by
 have L:j.9<=N.length:=by have:=Fz wR S.pre;rw[WE]at this;omega
 let#[C,Q,rfl,hk]:=x.done;have X:∀b:jv,b∉(zT l P w K mg base N g d f F A outer s H E).ex:=λb z=>h7 (show b∈([]:List jv) from z) (by simp);refine#[#[o.mod,S.kind,rfl,rfl,QX _,λy z c C m=>?_,λy Y=>?_,λy c _ h=>?_,λ_=>M,Around.frames_deeper o.frames,.inr #[rfl,rfl],λb z=>h7 z (X b),o.bs,o.bsz,λb _ _=>X b,λb z=>h7 z (X b),o.funs,o.frf],
  rfl,o.bare,Un.kept hk,#[_,x.toInCall.ns,λi y v C m R=>?_],λy c h=>#[_,x.cell y c h],o.hok.fresh (QX _),λy c h=>?_,λp W=>h7 (show p∈([]:MB) from W) (by simp),o.hok.kept hk,?_]
 exact name_of_addr x.apart (ql C) (ql m);have Y:d.names.lookup y=Jr .cell∨d.names.lookup y=Jr .free:=Y;rcases Y with Y|Y;exact PQ Y;exact h7 rfl (S.nofree _ (ql Y));exact QAo (x.above y c (ql h));have B:i<vs.length:=by unfold iD at m;by_cases B:i<vs.9;exact B;rw[Q0 (by simpa using B)]at m;rw[Wd]at m;split at m<;>cases m
 have O:vs[i]?=Jr v:=by
  unfold iD at m;rw[qK (by simpa using B),Qi]at m;cases e:vs[i]? with|none=>rw[e]at m;cases m|some a=>rw[e]at m;cases m;rfl
 let#[u,I,J]:=r.get O;have W:j[i]?=Jr y:=by rw[<- S.pre,QAM ()];exact C
 have Z:j.Nodup:=by rw[<- S.pre];exact S.nd.sublist (List.take_sublist _ _)
 refine#[u,J,?_];rcases S.par y (Qq W) with k|k;exact .inl #[k,ZM Z W I k];let#[c,e]:=PQ (n:=s.1.1.size+1) k;refine .inr #[.inl k,c,e,?_];have q:=x.cell y c e;rw[VM Z W I (by show d.names.lookup y≠_;rw[k];decide)]at q;exact q;exact o.hok.fresh (QAo (x.above y c (ql h)));unfold iD;show _=N.9;rw[QM,QF,wD];omega
theorem Uj{K:QE}{k:Nat}{name:Str}{z:Arguments}{body:List kf}{dV kV Z pm h ct oc:Jw}{an od:Option jv}
  {G:Array (Option Jw)}{N:LS}{B:Sp}(lk:K.lookup f=Jr #[oc,od,.func (wr name g z body d dV kV Z pm an h ct),G]) (O:QBW K h g=Jt) (S:FnScope N j d)
  (len:∀vs H Q E,B vs H Q E->vs.9=j.9)
  (p:∀(A:j2) (outer:List Env) (s:jx) (H:Hp) (vs:LV) (Q:VK) (E:XK),Room k (A.deeper (Hx g d s.1.1.size f h))->B vs H Q E ->
   ∃t,VT (zT l P w K mg base N g d f h A outer s H E) body t/\t { nx:=λ_ i=>Q .non i,rt:=Q } (iD N vs) H) :
  FnOk P w K mg base l (k+1) f (wr name g z body d dV kV Z pm an h ct) j B:=by
 refine#[len,λA outer s H args us vs Q E M Y hb r X=>?_];have hl:=len _ _ _ _ X;have KX:K.In s.heap:=Y.mod.kin.keeps λb o e=>(Y.bs b o e).1;have L:s.1.NoLimit:=Y.mod.nolimit.keeps λb o e=>(Y.bs b o e).1;have m:∀y∈j.zip us,d.names.lookup y.1=Jr .local∨(d.names.lookup y.1=Jr .cell/\((Gr (s.1.1.size+1) d.names []).lookup y.1).isSome=Jt):=λ#[n,v] hy=>by rcases S.par n (QCH hy).1 with q|q;exact .inl q;exact .inr #[q,QB6 _ _ _ (.inl q)]
 refine codeAny_call_function M.depth (KX _ _ lk) rfl S.co S.gen rfl (PySem.W.codeRec_of KX O) (hb _ _ _ _ ?_);refine wpAny_newFunctionEnv_cells S.kind m λenv he R x=>?_;subst he;refine#[L.keeps x.toInCall.keep,codeAny_func ?_];let#[t,ht,hq]:=p A outer s H vs Q E (M.deeper _) X;have I:Inv (zT l P w K mg base N g d f h A outer s H E) [] (iD N vs) H R:=IW S M.hd Y hl r x;refine WD (ht [] R (iD N vs) H _ I hq) (λfl C hs=>?_) λe C hs=>hs;have fin:∀{a:St}{i:Hp}{v:V}{u:Jw},Inv (zT l P w K mg base N g d f h A outer s H E) [] a i C->nA v u->Q v i->CE outer P w H s Q u C :=
  λ{a i v u} J F q=>#[v,i,J.os,J.bare,J.base,J.hok,F,q]
 cases fl with|ret u=>let#[v,a,i,J,F,q]:=hs;exact fin J F q|next=>let#[a,i,J,q]:=hs;exact fin (v:=V.non) (u:=Jz) J rfl q|brk=>let#[_,_,_,q]:=hs;exact Qj q|cont=>let#[_,_,_,q]:=hs;exact Qj q
end
section
variable{X:Cx}{x:Str}{p pos:Pos}{e:Expr}{es:List Expr}{t:TA}{id T:String}{r:LV->Hp->VK->Prop}
noncomputable def Up(r:LV->Hp->VK->Prop)(t:TA):TE:=λh H Q=>t h H λy z=>r y z Q
theorem CP(hc:dC X (.builtin id) r)(i:Gl X x)(hm:X.mg x=Js)(hv:Ku x=Jr (.builtin id))(ha:PA X (e::es) t)(g:x≠"__name__":=by decide)(u:(x==("__debug__":Str))=false:=by decide)
  (j:Ky (e::es) X.env=(Ju,kb e X.env)::Ky es X.env:=by rfl) (z:(vv pos (Ky es X.env)).any (·.1)=false:=by rfl):PE X (.Call (.Name x p) (e::es) [] pos) (Up r t):=by
 intro y s v H Q I h;refine wI (VE I i hm hv ?_ g u);exact Wa (LB (ha pos y s v H _ I h) λk a #[w,m,l,b,f]=>hc y a v m w k Q l b f) j z
theorem lW(hc:dC X (.type T) r)(i:Gl X x)(hm:X.mg x=Js)(hv:Ku x=Jr (.type T))(ha:PA X (e::es) t)(g:x≠"__name__":=by decide)(u:(x==("__debug__":Str))=false:=by decide)
  (j:Ky (e::es) X.env=(Ju,kb e X.env)::Ky es X.env:=by rfl) (z:(vv pos (Ky es X.env)).any (·.1)=false:=by rfl):PE X (.Call (.Name x p) (e::es) [] pos) (Up r t):=by
 intro y s v H Q I h;refine wI (VE I i hm hv ?_ g u);exact wJ (LB (ha pos y s v H _ I h) λk a #[w,m,l,b,f]=>hc y a v m w k Q l b f) j z
end
end L2
namespace HT
open PySem PyProof.Rows
section
open PySem.SeqAt
open PySem.AutoSeq1 (wpAny_loadPart')
open PySem.MeetsSeq PySem.MeetsSeq2 PySem.MeetsSeq3
end
section
variable{prog:jt}{w:jw}{A:j2}{E:ZB}{s:jx}
section
variable{t sl:jv}{Q:ZB}{a u:Jw}{y z:Option Int}
theorem cat_tup{b:jv}{vs ws:LW}(q:IsTup s.1 t vs.toArray)(hb:IsTup s.1 b ws.toArray)(hv:vs≠[])
  (X:ws=[]->Q (.ref t) s) (r:ws≠[]->Q (.ref s.1.1.size) { s with heap:=s.1.push { cls:=.type "tuple",data:=.seq (vs++ws).toArray } })
  (hsz:vs.9+ws.9<=jz):jy (js prog w) A (kd .Add (.ref t) (.ref b)) Q E s:=by
 let#[#[cls,o,data,sl],i,hc,n,m]:=id q;let#[#[p,f,j,x],h,k,l,v]:=id hb;simp only at hc m k v;subst hc m k v;have e:vs.toArray++ws.toArray=(vs++ws).toArray:=by simp
 by_cases g:ws=[];exact QDT #[_,i,rfl] #[_,h,rfl] QDh zz QB7 QBs (QBg _ _)
  (tuple_addW1 t b vs.toArray ws.toArray n l o f sl x (by simpa using hv) (by simp[g])) #[i,h,X g]
 refine QDT #[_,i,rfl] #[_,h,rfl] QDh zz QB7 QBs (QBg _ _)
  (tuple_addW2 t b vs.toArray ws.toArray n l o f sl x (by simpa using hv) (by simpa using g) (by rw[QT,QT];exact hsz)) #[i,h,?_]
 rw[e];exact r g
noncomputable def sIx(n d:Nat):Option Int->Nat
 |none=>d|some v=>if v<0 then(v+(n:Int)).toNat else min v.toNat n
theorem Oc(n d:Nat)(h:d<=n)(o:Option Int):sIx n d o<=n:=by
 cases o with|none=>exact h|some v=>show(if v<0 then(v+(n:Int)).toNat else min v.toNat n)<=n;by_cases hv:v<0;rw[hQ hv];omega;rw[hI hv];exact Nat.min_le_right _ _
theorem JV(v:Int)(n d:Nat):(if v<0 then max (v+(n:Int)) 0 else min v (n:Int))=((sIx n d (Jr v):Nat):Int):=by show(if v<0 then max (v+(n:Int)) 0 else min v (n:Int))=(((if v<0 then(v+(n:Int)).toNat else min v.toNat n):Nat):Int);by_cases hv:v<0;simp only[hQ hv];omega;simp only[hI hv];omega
theorem KT(y z:Option Int)(n:Nat):QAB y z 1 (n:Int)=(((sIx n 0 y:Nat):Int),((sIx n n z:Nat):Int)):=by
 have h:¬ ((1:Int)<0):=()
 unfold QAB;simp only[h,if_false];refine QEE ?_ ?_;cases y with|none=>rfl|some v=>exact JV v n 0
 cases z with|none=>rfl|some v=>exact JV v n n
theorem vS(i j:Nat):WL (i:Int) (j:Int) 1=j - i:=by
 unfold WL;have h:(1:Int) > 0:=()
 simp only[h,if_true,Int.ediv_one];split<;>omega
theorem RJ{v:Jw}{o:Option Int}{Q:Option Int->jx->Prop}(p:x0 v o)(h:Q o s):jy (js prog w) A (Builtin.Slice.slicePartIndex v) Q E s:=by
 cases p with|none=>exact Hv h|int i t=>exact slicePart_int h
theorem bI{n:Nat}{Q:Int×Int×Nat->jx->Prop}(hs:s.1.IsSliceOf sl a u .none)(e:x0 a y)(b:x0 u z)
  (h:Q (((sIx n 0 y:Nat):Int),1,sIx n n z - sIx n 0 y) s):jy (js prog w) A (QBL (.ref sl) (hT (n:Int))) Q E s:=by
 let#[g,v,f,k]:=id hs;unfold QBL Builtin.Slice.sliceFields;refine QA (QA (WM v k (x:=a) rfl (QA (WM v k (x:=u) rfl (QA (WM v k (x:=.none) rfl (QH ?_)))))));refine QA (Hv ?_);show jy _ _ (if((1:Int)==0)=Jt then _ else _) _ _ s;rw[hI (by decide)];refine QA (RJ e (QA (RJ b (QA (QH ?_)))));show jy _ _ (match QAB y z 1 (n:Int) with | (y,z)=>hT (y,(1:Int),WL y z 1)) _ _ s;rw[KT y z n];show jy _ _ (hT (((sIx n 0 y:Nat):Int),(1:Int),WL ((sIx n 0 y:Nat):Int) ((sIx n n z:Nat):Int) 1)) _ _ s;rw[vS];exact QH h
theorem kZ(xs:Array Jw)(i k:Nat):((Qm k).filterMap λ(m:Nat)=>xs[((i:Int)+(m:Int) * 1).toNat]?).toArray=((xs.toList.drop i).take k).toArray:=by
 have e:(λ(m:Nat)=>xs[((i:Int)+(m:Int) * 1).toNat]?)=λm=>xs[i+m]?:=by
  funext m;have:((i:Int)+(m:Int) * 1).toNat=i+m:=()
  rw[this]
 rw[e];have:=pick_run xs i k;rw[QC3]at this;have h:((λx=>xs[x]?)∘λx=>i+x)=λm=>xs[i+m]?:=rfl;rw[h]at this;rw[this]
theorem getItem_tuple_cut{x:Array Jw}(k:IsTup s.1 t x)(hs:s.1.IsSliceOf sl a u .none)(j:x0 a y)(i:x0 u z)
  (n:¬ (sIx x.size 0 y=0/\sIx x.size x.size z=x.size))
  (h:Q (.ref s.1.1.size) { s with heap:=s.1.push { cls:=.type "tuple",data:=.seq ((x.toList.drop (sIx x.size 0 y)).take (sIx x.size x.size z - sIx x.size 0 y)).toArray } })
  (hsz:x.size<=jz):jy (js prog w) A (Yv (.ref t) (.ref sl)) Q E s:=by
 have v:sizeOk (.seq ((x.toList.drop (sIx x.size 0 y)).take (sIx x.size x.size z - sIx x.size 0 y)).toArray):=by show((x.toList.drop (sIx x.size 0 y)).take (sIx x.size x.size z - sIx x.size 0 y)).toArray.size<=jz;rw[QT,WE,Wh,QN];omega
 have X:sIx x.size x.size z<=x.size:=Oc _ _ (QX _) z;let#[l,b,f,o]:=id hs;have g:s.TypeIs (.ref sl) "slice":=#[l,b,f]
 unfold Yv
 try with_reducible refine qG ?_
 first|refine QA (QH ?_)|skip
 refine QA (wpAny_sequenceKey k.typeIs (by decide) ?_);refine QA (qT (name:=Ql "__getitem__") k.typeIs WR
  (Q6 WR k.typeIs entry_tuple_getitem ?_ (args_tuple_getitem _ _)))
 show jy _ _ (QBM (.ref t) >>= _) _ _ s;refine QA (tupleItemsOf_ k ?_);refine QA (Wu g ?_);rw[hQ (by decide)];refine QA (bI hs j i ?_);have e:¬ ((((sIx x.size 0 y:Nat):Int)==0&&(1:Int)==1&&(sIx x.size x.size z - sIx x.size 0 y)==x.size)=Jt):=by intro q;rw[Qe,Qe]at q;have r:((sIx x.size 0 y:Nat):Int)=0:=wE q.1.1;have p:sIx x.size x.size z - sIx x.size 0 y=x.size:=wE q.2;exact n #[(),()]
 show jy _ _ (if(((sIx x.size 0 y:Nat):Int)==0&&(1:Int)==1&&(sIx x.size x.size z - sIx x.size 0 y)==x.size)=Jt then _ else _) _ _ s;rw[hI e,kZ];first
  |exact QA (m:=WS _) (Qx (QH #[_,rfl,QH h]) v)
  |exact QA (m:=WS _) (Qx (QA (QH (QH #[_,rfl,QH h]))) v)
  |exact QA (QA (m:=WS _) (Qx (QH (QH #[_,rfl,QH h])) v))
  |exact QA (QA (m:=WS _) (Qx (QH #[_,rfl,QH h]) v))
end
end
end HT
namespace L2
open PySem PySem.Spec PyProof.Rows
noncomputable abbrev TO:=St->Hp->(Option Int->Hp->Prop)->Prop
def PO(X:Cx)(e:Option Expr)(t:TO):Prop :=
 ∀(h:MB) (s:jx) (x:St) (H:Hp) (Q:Option Int->Hp->Prop),Inv X h x H s->t x H Q ->
  jy (js X.prog X.w) X.A (evalPart e X.env) (λu z=>∃o y,Inv X h x y z/\x0 u o/\Q o y) X.xe s
def P5:TO:=λ_ H Q=>Q Js H
noncomputable def lh(t:TE):TO:=λh H Q=>t h H λx y=>∃i,x=.int i/\Q (Jr i) y
section
variable{X:Cx}{e:Expr}{te:TE}{k c:Option Expr}{d f:TO}{pos p2:Pos}
theorem Y6:PO X Js P5:=by intro x s y H Q I h;rw[zt];exact QH #[Js,H,I,.none,h]
theorem J6(h:PE X e te):PO X (Jr e) (lh te):=by intro y s z H Q I a;rw[evalPart_some];refine LB (h y s z H _ I a) λu j #[x,g,b,v,w]=>?_;let#[i,rfl,q]:=w;let#[t,rfl]:=v;exact#[Jr i,g,b,.int i t,q]
def xb(X:Cx)(r:V->Option Int->Option Int->Hp->VK->Prop):Prop :=
 ∀(h:MB) (s:jx) (y:St) (H:Hp) (x:V) (v u z:Jw) (k c:Option Int) (a:jv) (Q:VK),Inv X h y H s->nA x v->s.1.IsSliceOf a u z .none->x0 u k->x0 z c->r x k c H Q ->
  ∃T id,typeLookup (.type T) "__getitem__"=hT (Jr (.builtin id))/\s.TypeIs v T/\jy (js X.prog X.w) X.A (Yv v (.ref a)) (EP X h y Q) X.xe s
theorem xb.or{r r':V->Option Int->Option Int->Hp->VK->Prop}(h:xb X r)(h':xb X r'):xb X (λx k c H Q=>r x k c H Q∨r' x k c H Q):=by intro y s z H x v w u k c a Q I b hs i g q;rcases q with q|q;exact h y s z H x v w u k c a Q I b hs i g q;exact h' y s z H x v w u k c a Q I b hs i g q
noncomputable def Nq(r:V->Option Int->Option Int->Hp->VK->Prop)(te:TE)(d f:TO):TE:=λh H Q=>te h H λx v=>d h v λl z=>f h z λu y=>r x l u y Q
theorem xZ{r:V->Option Int->Option Int->Hp->VK->Prop}(E:xb X r)(G:PE X e te)(hl:PO X k d)(B:PO X c f):PE X (.Subscript e (.Slice k c Js p2) pos) (Nq r te d f):=by intro y s a H Q I h;refine Subscript_ (LB (G y s a H _ I h) λv n #[x,R,O,o,Z]=>?_);refine wpAny_Slice (LB (hl y n a R _ O Z) λi m #[l,P,N,K,Y]=>LB (B y m a P _ N Y) λg z #[u,j,M,W,p]=>?_);rw[zt];refine QH ?_;have L:Inv X y a j { z with heap:=z.1.push { cls:=.type "slice",data:=.fields (Wb [i,g,.none]) } }:=M.kept (t':=z.toks) λb S q=>QJ _ q;let#[T,id,J,C,F]:=E y { z with heap:=z.1.push { cls:=.type "slice",data:=.fields (Wb [i,g,.none]) } } a j x v i g l u z.1.1.size Q L o (Heap.IsSliceOf.new ..) K W p;show jy (js X.prog X.w) X.A (Hu e (.Slice k c Js p2) v (.ref z.1.1.size)) (EP X y a Q) X.xe { z with heap:=z.1.push { cls:=.type "slice",data:=.fields (Wb [i,g,.none]) } };exact tail_any (ops:=[.ref z.1.1.size,v]) C J F (by with_unfolding_all rfl)
noncomputable def FQ(xs:LV)(k c:Option Int):LV:=(xs.drop (HT.sIx xs.9 0 k)).take (HT.sIx xs.9 xs.9 c - HT.sIx xs.9 0 k)
theorem AI(xs:LV)(k c:Option Int):(FQ xs k c).9<=xs.length:=by unfold FQ;rw[WE,Wh];omega
def Sh(K:QE):V->Option Int->Option Int->Hp->VK->Prop:=λx k c H Q=>∃a h,x=.ref a/\TC K H a h /\
 ¬ (HT.sIx h.9 0 k=0/\HT.sIx h.9 h.9 c=h.9)/\∀p,H p=Js->Q (.ref p) (XA H p (.tup (FQ h k c)))
theorem Dc:xb X (Sh X.K):=by
 intro w s Y H x v W Z k c A Q I j hs m l h;let#[a,z,rfl,n,p,q]:=h;cases j;let#[u,r,i,g]:=I.tuple n;have y:u.toArray.size=z.length:=by rw[QT];exact r.length.symm
 refine#["tuple",_,WR.lookup,i.typeIs,?_];refine HT.getItem_tuple_cut i hs m l (by rw[y];exact p) ?_ (by rw[y];exact g);rw[y];refine#[.ref s.1.1.size,_,I.laid (t':=s.toks) (o:=.tup (FQ z k c)) (λb B q=>QJ _ q) (QX _) ?_,rfl,q _ (I.hok.fresh (QX _))];exact#[Qf (AI z k c) g,_,(r.drop (HT.sIx z.9 0 k)).take (HT.sIx z.9 z.9 c - HT.sIx z.9 0 k),QEG _ _]
def J9(K:QE):R2:=λx y H Q=>∃a b z h,x=.ref a/\y=.ref b/\TC K H a z/\TC K H b h/\z≠[]/\z.9+h.9<=jz /\
 (h=[]->Q (.ref a) H)/\(h≠[]->∀p,H p=Js->Q (.ref p) (XA H p (.tup (z++h))))
theorem bA.nil_iff{xs:LV}{us:LW}(r:bA xs us):us=[]↔xs=[]:=by
 cases r with|nil=>simp|cons _ _=>simp
theorem A6:sE X (kd .Add) (J9 X.K):=by intro j s F H x y v u Q I Y r h;let#[a,b,p,n,rfl,rfl,E,hb,C,m,W,Z]:=h;cases Y;cases r;let#[B,i,A,_]:=I.tuple E;let#[l,g,p2,_]:=I.tuple hb;refine HT.cat_tup A p2 (λz=>C (i.nil_iff.mp z)) (λz=>#[.ref a,H,I,rfl,W (g.nil_iff.mp z)]) (λz=>?_) (by rw[<- i.9,<- g.9];exact m);refine#[.ref s.1.1.size,_,I.laid (t':=s.toks) (o:=.tup (p++n)) (λb G q=>QJ _ q) (QX _) ?_,rfl,Z (λw=>z (g.nil_iff.mpr w)) _ (I.hok.fresh (QX _))];exact#[by rw[QM];exact m,_,i.append g,QEG _ _]
end
noncomputable def AO(n:Nat)(i:Int):Option Nat:=if 0<=i then(if i<n then Jr i.toNat else Js) else if -(n:Int)<=i then Jr (i+n).toNat else Js
def pE{α:Type}(xs:List α)(i:Int):Option α:=(AO xs.9 i).bind λj=>xs[j]?
theorem RN{n:Nat}{i:Int}{j:Nat}(h:AO n i=Jr j):seqIndex? i n=Jr j/\j<n/\-(n:Int)<=i/\i<n:=by unfold AO at h;by_cases h0:0<=i;rw[hQ h0]at h;by_cases x:i<n;rw[hQ x]at h;have e:i.toNat=j:=Q1 h;exact#[by rw[QDv h0 x,e],(),(),x];rw[hI x]at h;cases h;rw[hI h0]at h;by_cases x:-(n:Int)<=i;rw[hQ x]at h;have e:(i+n).toNat=j:=Q1 h;exact#[by rw[QDU () x,e],(),x,()];rw[hI x]at h;cases h
theorem XO{α:Type}{xs:List α}{i:Int}{v:α}(h:pE xs i=Jr v):∃j,seqIndex? i xs.9=Jr j/\xs[j]?=Jr v/\j<xs.9/\-(xs.9:Int)<=i/\i<xs.length:=by
 unfold pE at h;cases e:AO xs.9 i with|none=>rw[e]at h;cases h|some j=>rw[e]at h;let#[u,z,y,x]:=RN e;exact#[j,u,h,z,y,x]
theorem KO{α:Type}{xs:List α}{j:Nat}{v:α}(h:xs[j]?=Jr v):pE xs (j:Int)=Jr v:=by
 have x:j<xs.length:=(Qd.mp h).1;have e:AO xs.9 (j:Int)=Jr j:=by unfold AO;rw[hQ (),hQ ()];simp
 unfold pE;rw[e];exact h
def BV(b:Expr):Prop:=∀o i,subscripted b Ju o i=operate [o,i] (Yv o i)
def E4(X:Cx)(r:R2):Prop :=
 ∀(k h:Expr) (z:MB) (s:jx) (a:St) (H:Hp) (x y:V) (v u:Jw) (Q:VK),Inv X z a H s->nA x v->nA y u->r x y H Q ->
  subscripted h Ju v u=operate [v,u] (Yv v u)->jy (js X.prog X.w) X.A (Hu k h v u) (EP X z a Q) X.xe s
def K5(X:Cx)(id:String)(r:V->LV->Hp->VK->Prop):Prop :=
 ∀(h:MB) (s:jx) (y:St) (H:Hp) (x:V) (z:LV) (v:Jw) (u:LW) (Q:VK),Inv X h y H s->nA x v->bA z u->r x z H Q ->
  jy (js X.prog X.w) X.A (Xw (.builtin id) (v::u)) (EP X h y Q) X.xe s
section
variable{X:Cx}{a b:Expr}{ta m:TE}{pos:Pos}
section
variable{d:MB}{s:jx}{x:V}{u v:Jw}
theorem E4.or{r r':R2}(h:E4 X r)(h':E4 X r'):E4 X (λx y H Q=>r x y H Q∨r' x y H Q):=by intro z w d s k H x y v u Q I f e q hs;rcases q with q|q;exact h z w d s k H x y v u Q I f e q hs;exact h' z w d s k H x y v u Q I f e q hs
theorem K5.or{id:String}{r r':V->LV->Hp->VK->Prop}(h:K5 X id r)(h':K5 X id r'):K5 X id (λx xs H Q=>r x xs H Q∨r' x xs H Q):=by intro d s y H x xs v z Q I w k q;rcases q with q|q;exact h d s y H x xs v z Q I w k q;exact h' d s y H x xs v z Q I w k q
theorem Vi{r:R2}(f:E4 X r)(ha:PE X a ta)(hb:PE X b m)(hs:BV b):PE X (.Subscript a b pos) (mh r ta m):=by intro d s z H Q I h;exact Subscript_ (binT ha hb I h λv u w x y i g e k q=>f a b d w z i x y v u Q g e k q (hs _ _))
def vi(K:QE):R2:=λx y H Q=>∃p h i v,x=.ref p/\y=.int i/\gC K H p h/\pE h i=Jr v/\Q v H
def zi(K:QE):R2:=λx y H Q=>∃p h i v,x=.ref p/\y=.int i/\TC K H p h/\pE h i=Jr v/\Q v H
def ki:R2:=λx y H Q=>∃z i c,x=.str z/\y=.int i/\z.9<=jz/\pE z.cps.toList i=Jr c/\Q (.str #[(Wb [c])]) H
theorem z8:E4 X (vi X.K):=by
 intro e f d s Y H x y v u Q I B A h hs;let#[p,L,i,z,rfl,rfl,C,E,q]:=h;cases B;let#[t,rfl]:=A;let#[n,r,l,M]:=I.list C;let#[j,k,J,O,G,F]:=XO E;let#[w,Z,g]:=r.get J;have hl:=r.9;have N:=GG;have fin:EP X d Y Q w s:=#[z,H,I,g,q]
 by_cases h0:0<=i;have o:i.toNat=j:=by rw[QDv h0 F]at k;exact Q1 k
 exact item_listR l.isList h0 () (by rw[o];simpa using Z) fin hs;have o:(i+(n.toArray.size:Int)).toNat=j:=by rw[QDU () G]at k;rw[QT,<- hl];exact Q1 k
 exact Wo (x:=w) l.isList.typeIs QDH.lookup
  (wpAny_getItem_list_neg (Q:=λr W=>r=w/\EP X d Y Q r W) l.isList () (by rw[QT]<;>omega) () (by rw[o];simpa using Z) #[rfl,fin]) hs
theorem Re:E4 X (zi X.K):=by
 intro k e d s g H x y v u Q I Y o h hs;let#[p,F,i,z,rfl,rfl,W,A,q]:=h;cases Y;let#[t,rfl]:=o;let#[Z,r,l,G]:=I.tuple W;let#[j,C,B,N,M,L]:=XO A;let#[w,E,f]:=r.get B;have hl:=r.9;have J:=GG;have fin:EP X d g Q w s:=#[z,H,I,f,q]
 exact Wo (x:=w) l.typeIs slot_tuple_getitem.lookup
  (getItem_tuple (j:=j) (Q:=λr n=>r=w/\EP X d g Q r n) l () () (by rw[QT,<- hl];exact C) (by simpa using E) #[rfl,fin]) hs
theorem Se:E4 X ki:=by
 intro w k d s Z H x y v u Q I g f h hs;let#[z,i,c,rfl,rfl,K,l,q]:=h;let#[t,rfl]:=g;let#[W,rfl]:=f;let#[j,e,p,B,o,n]:=XO l;have hl:z.cps.toList.9=z.length:=by simp[Str.length]
 rw[hl]at e o n;have A:=GG;exact tail_any (QD9 s z t) slot_str_getitem.lookup (getItem_str (c:=c) (by have Y:decide (i < -(2 ^ 63:Int))=false:=dF ();have r:decide (i ≥ 2 ^ 63)=false:=dF ();rw[Y,r,QCy]) (by rw[e];simpa using p) #[.str #[(Wb [c])],H,I.tok _,#[_,rfl],q]) hs
def Aq(K:QE):R2:=λx y H Q=>vi K x y H Q∨zi K x y H Q∨ki x y H Q
theorem Te:E4 X (Aq X.K):=z8.or (Re.or Se)
theorem ZS(its:LW)(n j:Nat)(u:Jw):qR (·.setIfInBounds j u) { cls:=.type "list",data:=.seq its.toArray n }={ cls:=.type "list",data:=.seq (its.set j u).toArray n }:=by simp[qR]
theorem Inv.lst{d:MB}{σ:St}{H:Hp}{s:jx}{p:jv}{xs:LV}(I:Inv X d σ H s)(h:H p=Jr (.lst xs)) :
  ∃(its:LW) (n:Nat),bA xs its/\s.1.get? p=Jr { cls:=.type "list",data:=.seq its.toArray n }/\xs.9<=sizeLine:=by
 let#[z,its,n,r,e]:=I.hok p _ h;exact#[its,n,r,e,z]
theorem Inv.lstUpd{σ:St}{H:Hp}{p:jv}{xs y:LV}{its its':LW}{n z:Nat}{f:Obj->Obj}(I:Inv X d σ H s)(h:H p=Jr (.lst xs))
  (k:s.1.get? p=Jr { cls:=.type "list",data:=.seq its.toArray n }) (w:f { cls:=.type "list",data:=.seq its.toArray n }={ cls:=.type "list",data:=.seq its'.toArray z }) (r:bA y its') (hz:y.9<=jz) (t:Nat) :
  Inv X d σ (XA H p (.lst y)) { s with heap:=s.1.update p f,toks:=t }:=by
 have e:(s.1.update p f).get? p=Jr { cls:=.type "list",data:=.seq its'.toArray z }:=by rw[Q3 f k (by rw[w]<;>rfl),w]
 refine I.write (x:=p) (e:=p) (by rw[h];trivial) (.inl rfl) (λb u hb q=>(qB _ _ (qC hb)).trans q) #[_,e] ?_;exact#[hz,its',z,r,e]
def Ah:V->V->V->Hp->(Hp->Prop)->Prop:=λo i v H Q=>∃p h k j,o=.ref p/\i=.int k/\H p=Jr (.lst h)/\AO h.9 k=Jr j/\Q (XA H p (.lst (h.set j v)))
theorem YY:k9 X Ah:=by
 intro d s Y H o i v F G u Q I A B K h;let#[p,Z,k,j,rfl,rfl,e,E,q]:=h;cases A;let#[t,rfl]:=B;let#[y,n,r,w,C]:=I.lst e;let#[z,L,g,f]:=RN E;have hl:=r.9;have J:=GG;have l:Inv X d Y (XA H p (.lst (Z.set j v))) { s with heap:=s.1.update p (qR (·.setIfInBounds j u)) } :=
  I.lstUpd e w (ZS y n j u) (r.set K j) (by rw[wb];exact C) s.toks
 by_cases h0:0<=k;have hk:k.toNat=j:=by rw[QDv h0 f]at z;exact Q1 z
 exact PySem.W.ki_setAt w h0 () (by rw[QT,<- hl];exact f) (by rw[hk];exact#[_,l,q]);have hk:(k+(y.toArray.size:Int)).toNat=j:=by rw[QDU () g]at z;rw[QT,<- hl];exact Q1 z
 exact PySem.W.ki_setBack w () (by rw[QT,<- hl];exact g) () (by rw[hk];exact#[_,l,q])
theorem cN(y z:Option Int)(n:Nat):(Vr y z Js n).1=((HT.sIx n 0 y:Nat):Int)/\(Vr y z Js n).2.1=((HT.sIx n n z:Nat):Int)/\(Vr y z Js n).2.2=1:=by
 refine#[?_,?_,rfl];cases y with|none=>simp[Vr,HT.sIx]|some i=>simp only[Vr,HT.sIx,QDi,show(1:Int) > 0 by decide,if_true];by_cases h:i<0;simp only[h,if_true]<;>omega;simp only[h,if_false]<;>omega
 cases z with|none=>simp[Vr,HT.sIx]|some i=>simp only[Vr,HT.sIx,QDi,show(1:Int) > 0 by decide,if_true];by_cases h:i<0;simp only[h,if_true]<;>omega;simp only[h,if_false]<;>omega
theorem aL(its:LW)(h y:Option Int):slicePick its.toArray h y Js=((its.drop (HT.sIx its.9 0 h)).take (HT.sIx its.9 its.9 y - HT.sIx its.9 0 h)).toArray:=by let#[k,w,z]:=cN h y its.toArray.size;unfold slicePick;rw[k,w,z];simp only[sliceRange_one,pick_run,QT]<;>rfl
def Th(K:QE):V->Option Int->Option Int->Hp->VK->Prop:=λx y z H Q=>∃a h,x=.ref a/\gC K H a h/\∀p,H p=Js->Q (.ref p) (XA H p (.lst (FQ h y z)))
theorem y6:xb X (Th X.K):=by intro d s p H x v Z Y w k W Q I f hs i g h;let#[a,y,rfl,n,q]:=h;cases f;let#[j,r,e,l]:=I.list n;have z:=r.9;refine#["list",_,QDH.lookup,e.isList.typeIs,?_];refine wpAny_getItem_list_slice e.isList hs i g .none (by simp) ?_ (by rw[QT]<;>omega);rw[aL,<- z];refine#[.ref s.1.1.size,_,I.laid (t':=s.toks) (o:=.lst (FQ y w k)) (λb A q=>QJ _ q) (QX _) ?_,rfl,q _ (I.hok.fresh (QX _))];exact#[Qf (AI y w k) l,_,0,(r.drop (HT.sIx y.9 0 w)).take (HT.sIx y.9 y.9 k - HT.sIx y.9 0 w),QO _ rfl]
noncomputable def ZF:V->Bool
 | .non=>Jt|.bl _=>Jt|.int _=>Jt|.str _=>Jt|_=>Ju
noncomputable def Z8:V->V->Bool
 | .non,.non=>Jt|.bl a,.bl b=>a==b|.bl a,.int b=>(if a then 1 else 0)==b|.int a,.bl b=>a==(if b then 1 else 0)|.int a,.int b=>a==b|.str a,.str b=>a==b|_,_=>Ju
theorem gf{A:j2}{y:V}(w:nA y u)(h:nA x v)(k:ZF y=Jt)(fx:ZF x=Jt):wT A s u v (Z8 y x):=by
 cases y with
 |non =>
  cases w;cases x with|non=>cases h;exact wT.same _|bl b=>cases h;exact wT.none_bool b|int b=>let#[t,rfl]:=h;exact wT.none_int b t|str b=>let#[t,rfl]:=h;exact wT.none_str b t|_=>exact h7 (show Ju=Jt from fx) QG
 |bl a =>
  cases w;cases x with|non=>cases h;exact wT.bool_none a|bl b=>cases h;exact wT.bool_bool a b|int b=>let#[t,rfl]:=h;exact wT.bool_int a b t|str b=>let#[t,rfl]:=h;exact wT.bool_str a b t|_=>exact h7 (show Ju=Jt from fx) QG
 |int a =>
  let#[z,rfl]:=w;cases x with|non=>cases h;exact wT.int_none a z|bl b=>cases h;exact wT.int_bool a z b|int b=>let#[t,rfl]:=h;exact wT.int_int a z b t|str b=>let#[t,rfl]:=h;exact QCz a z b t|_=>exact h7 (show Ju=Jt from fx) QG
 |str a =>
  let#[z,rfl]:=w;cases x with|non=>cases h;exact wT.str_none a z|bl b=>cases h;exact wT.str_bool a z b|int b=>let#[t,rfl]:=h;exact QC0 a z b t|str b=>let#[t,rfl]:=h;exact wT.str_str a z b t|_=>exact h7 (show Ju=Jt from fx) QG
 |_=>exact h7 (show Ju=Jt from k) QG
def jT(x:V)(u:Jw):Bool:=match u with
 | .none=>Z8 .non x|.bool b=>Z8 (.bl b) x|.int i _=>Z8 (.int i) x|.str z _=>Z8 (.str z) x|_=>Ju
theorem J3{y:V}(r:nA y u)(f:ZF y=Jt):jT x u=Z8 y x:=by
 cases y with|non=>cases r;rfl|bl b=>cases r;rfl|int i=>let#[t,rfl]:=r;rfl|str z=>let#[t,rfl]:=r;rfl|_=>exact h7 (show Ju=Jt from f) QG
theorem PH{x:V}:∀{xs:LV}{us:LW},bA xs us->xs.all ZF=Jt->us.any (jT x)=xs.any λy=>Z8 y x
 |_,_,.nil,_=>rfl|y::xs,u::us,.cons r t,f=>by rw[wK,Qe]at f;rw[W0,W0,J3 r f.1,PH t f.2]
theorem tF{A:j2}{s:jx}{x:V}{v:Jw}(z:nA x v)(fx:ZF x=Jt):∀{xs:LV}{us:LW},bA xs us->xs.all ZF=Jt->∀u∈us,wT A s u v (jT x u)
 |_,_,.nil,_=>λu h=>by cases h|y::xs,u::us,.cons r t,f=>λw h=>by rw[wK,Qe]at f;rcases QK.mp h with rfl|h;rw[J3 r f.1];exact gf r z f.1 fx;exact tF z fx t f.2 w h
def inV(x:V)(xs:LV):Bool:=xs.any λy=>Z8 y x
def Dm(K:QE)(neg:Bool):R2:=λx y H Q=>∃p h,y=.ref p/\(gC K H p h∨TC K H p h)/\ZF x=Jt/\h.all ZF=Jt/\Q (.bl (if neg then !inV x h else inV x h)) H
theorem pW:sE X (Kx .In) (Dm X.K Ju):=by intro d s l H x y v u Q I g i h;let#[p,n,rfl,k,fx,fs,q]:=h;cases i;rcases k with k|k;let#[z,r,e,j]:=I.list k;refine SeqAt.in_listAt (jT x) e.isList (λw f=>tF g fx r fs w (by simpa using f)) #[.bl _,H,I,rfl,?_];rw[show z.toArray.any (jT x)=z.any (jT x) by simp,PH r fs];exact q;let#[z,r,e,j]:=I.tuple k;refine SeqAt.in_tupleAt (jT x) e (λw f=>tF g fx r fs w (by simpa using f)) #[.bl _,H,I,rfl,?_];rw[show z.toArray.any (jT x)=z.any (jT x) by simp,PH r fs];exact q
theorem JN:sE X (Kx .NotIn) (Dm X.K Jt):=by intro d s l H x y v u Q I g i h;let#[p,n,rfl,k,fx,fs,q]:=h;cases i;rcases k with k|k;let#[z,r,e,j]:=I.list k;refine SeqAt.notIn_listAt (jT x) e.isList (λw f=>tF g fx r fs w (by simpa using f)) #[.bl _,H,I,rfl,?_];rw[show z.toArray.any (jT x)=z.any (jT x) by simp,PH r fs];exact q;let#[z,r,e,j]:=I.tuple k;refine SeqAt.notIn_tupleAt (jT x) e (λw f=>tF g fx r fs w (by simpa using f)) #[.bl _,H,I,rfl,?_];rw[show z.toArray.any (jT x)=z.any (jT x) by simp,PH r fs];exact q
theorem iO:dC X (.builtin "len") (λxs H Q=>∃p z,xs=[.ref p]/\(gC X.K H p z∨TC X.K H p z)/\Q (.int z.9) H):=by intro d s j H xs l Q I r h;let#[p,z,rfl,w,q]:=h;let#[u,rfl,g]:=zH r;cases g;have n:=GG;rcases w with w|w;let#[f,k,e,i]:=I.list w;have y:=k.9;exact Calls.call_len_list e.isList (by simp only[QT]<;>omega) #[.int z.9,H,I.tok _,#[s.toks+1,by rw[QT,y]],q];let#[f,k,e,i]:=I.tuple w;have y:=k.9;exact len_tuple e (by simp only[QT]<;>omega) #[.int z.9,H,I.tok _,#[s.toks+1,by rw[QT,y]],q]
theorem eO:dC X (.builtin "len") (λxs H Q=>∃z,xs=[.str z]/\z.9<=jz/\Q (.int z.9) H):=by intro d s y H xs w Q I r h;let#[z,rfl,k,q]:=h;let#[u,rfl,t,rfl]:=zH r;have e:=GG;exact len_str () #[.int z.9,H,I.tok _,#[_,rfl],q]
theorem dC.or{f:Jw}{r r':LV->Hp->VK->Prop}(h:dC X f r)(h':dC X f r'):dC X f (λxs H Q=>r xs H Q∨r' xs H Q):=by intro d s y H xs z Q I w q;rcases q with q|q;exact h d s y H xs z Q I w q;exact h' d s y H xs z Q I w q
theorem aO:dC X (.type "list") (λxs H Q=>∃p k,xs=[.ref p]/\(gC X.K H p k∨TC X.K H p k)/\∀l,H l=Js->Q (.ref l) (XA H l (.lst k))):=by
 intro d s E H xs G Q I r h;let#[p,k,rfl,Y,q]:=h;let#[u,rfl,F]:=zH r;cases F;have fin:∀(y:LW),bA k y->k.9<=jz->∀(z:j0) (g:Nat),(∀b C,s.1.get? b=Jr C->z.get? b=Jr C) ->
   z.get? s.1.1.size=Jr { cls:=.type "list",dict:=Js,data:=.seq y.toArray g,slots:=#[] }->EP X d E Q (.ref s.1.1.size) { s with heap:=z }:=λy f j z g i e =>
  #[.ref s.1.1.size,_,I.laid (t':=s.toks) i (QX _) (show VA X.prog X.w _ z _ (.lst k) from#[j,y,g,f,e]),rfl,q _ (I.hok.fresh (QX _))]
 rcases Y with Y|Y;let#[y,f,W,j]:=I.list Y;have Z:=f.9;let#[o,A,hc,n,B]:=W.isList;exact zu p (.inl rfl) A hc B (λz g i e=>fin y f j z g i e) (by simp only[QT]<;>omega);let#[y,f,W,j]:=I.tuple Y;have Z:=f.9;let#[o,A,hc,n,B]:=W;exact zu p (.inr rfl) A hc B (λz g i e=>fin y f j z g i e) (by simp only[QT]<;>omega)
theorem BL:dC X (.type "tuple") (λxs H Q=>∃p z,xs=[.ref p]/\((gC X.K H p z/\∀l,H l=Js->Q (.ref l) (XA H l (.tup z)))∨(TC X.K H p z/\Q (.ref p) H))):=by
 intro d s j H xs C Q I r h;let#[p,z,rfl,h]:=h;let#[u,rfl,W]:=zH r;cases W;rcases h with⟨i,q⟩| ⟨i,q⟩
 let#[y,f,g,n]:=I.list i;have Y:=f.9;refine call_tuple_list g.isList (λk A=>?_) (by simp only[QT]<;>omega);have Z:Inv X d j H { s with heap:=k }:=I.kept (t':=s.toks) A;have B:Inv X d j (XA H k.1.size (.tup z)) { s with heap:=k.push { cls:=.type "tuple",data:=.seq y.toArray } } :=
  Z.laid (t':=s.toks) (λb o e=>QJ _ e) (QX _) (show VA X.prog X.w _ _ _ (.tup z) from#[n,y,f,QEG _ _])
 exact#[.ref k.1.size,_,B,rfl,q _ (Z.hok.fresh (QX _))];let#[y,f,g,n]:=I.tuple i;exact call_tuple_same g #[.ref p,H,I,rfl,q]
def UX(K:QE)(T:String)(x:V)(H:Hp):Prop:=match x with
 | .str _=>T="str"|.int _=>T="int"|.ref p=>(T="list"/\∃y,gC K H p y)∨(T="tuple"/\∃o,K.lookup p=Jr o/\o.cls=.type "tuple"/\o.dict=Js) ∨
   (T="dict"/\((∃h,H p=Jr (.dK h))∨∃z h,H p=Jr (.dT z h)))∨(T="set"/\∃S n,H p=Jr (.set S n))
 |_=>False
theorem zY{σ:St}{H:Hp}{T:String}(I:Inv X d σ H s)(r:nA x v)(ty:UX X.K T x H) :
  s.TypeIs v T/\∀a,v=.ref a->∃g,s.1.get? a=Jr g/\g.dict=none:=by
 cases x with
 |str z=>let#[t,rfl]:=r;cases(show T="str" from ty);exact#[QD9 s z t,λ_ e=>nomatch e]
 |int i=>let#[t,rfl]:=r;cases(show T="int" from ty);exact#[QEA s i t,λ_ e=>nomatch e]
 |ref p =>
  cases r;rcases ty with⟨rfl,q,l⟩| ⟨rfl,o,hk,hc,w⟩| ⟨rfl,hk⟩| ⟨rfl,S,n,hk⟩
  let#[j,_,f,_]:=I.list l;refine#[f.isList.typeIs,λa e=>?_];cases e;let#[o,n,e,c,w,_]:=f;exact#[o,e,w];refine#[#[o,I.kIn p o hk,hc],λa e=>?_];cases e;exact#[o,I.kIn _ o hk,w];have z:∃o,s.1.get? p=Jr o/\o.ExactDict:=by
   rcases hk with⟨y,hk⟩| ⟨Y,y,hk⟩
   let#[_,_,_,_,o,_,_,e,h,_]:=I.hok p _ hk;exact#[o,e,h];let#[_,_,_,_,o,_,e,h,_]:=I.hok p _ hk;exact#[o,e,h]
  let#[o,e,h]:=z;refine#[#[o,e,h.1],λa k=>?_];cases k;exact#[o,e,h.2.1];let#[o,_,_,_,e,h,_]:=I.hok p _ hk;refine#[#[o,e,h.1],λa k=>?_];cases k;exact#[o,e,h.2.1]
 |_=>exact Qj ty
noncomputable def om(K:QE)(T:String)(r:V->LV->Hp->VK->Prop)(g:TE):TE:=λy H Q=>g y H λx h=>UX K T x h/\r x [] h Q
noncomputable def Pq(K:QE)(T:String)(r:V->LV->Hp->VK->Prop)(g:TE)(t:TA):TE:=λh H Q=>g h H λx y=>UX K T x y/\t h y λz w=>r x z w Q
end
variable{o e:Expr}{es:List Expr}{g:TE}{t:TA}{name:Str}{apos cpos:Pos}{T id:String}{r:V->LV->Hp->VK->Prop}
theorem Hd(p:y2 T)(w:Slot T name id)(k:gJ (.builtin id)=hT (.type "method_descriptor"))(hm:K5 X id r)(q:PE X o g)
  (u:vz o name X.env (kb o X.env)=kb o X.env:=by rfl) (z:(apos.endLine==cpos.line)=true:=by rfl):PE X (.Call (.Attribute o name apos) [] [] cpos) (om X.K T r g):=by
 intro y s f H Q I h;refine QBt u z (LB (q y s f H _ I h) λv l #[x,W,j,i,ty,n]=>?_);let#[Z,Y]:=zY j i ty;exact#[T,id,p,w,k,Z,Y,QAc rfl (QCo (hm y l f W x [] v [] Q j i .nil n))]
theorem Xi(E:y2 T)(k:Slot T name id)(j:gJ (.builtin id)=hT (.type "method_descriptor"))(hm:K5 X id r)(F:PE X o g)(ha:PA X (e::es) t)
  (w:vz o name X.env (kb o X.env)=kb o X.env:=by rfl)
  (f:((vv cpos (Ky (e::es) X.env)).all (λx=>!x.1)&&(backToKw cpos (keywordEach [] X.env)).all (λx=>x.1.isSome)
   && decide ((e::es).9+([]:List xk).9+(if([]:List xk).isEmpty then 0 else 1)<30))=true:=by rfl)
  (u:(apos.endLine==cpos.line)=true:=by rfl) (hs:Ky (e::es) X.env=(Ju,kb e X.env)::Ky es X.env:=by rfl) (z:(vv cpos (Ky es X.env)).any (·.1)=false:=by rfl) :
  PE X (.Call (.Attribute o name apos) (e::es) [] cpos) (Pq X.K T r g t):=by
 intro y s i H Q I h;refine wpAny_Call_method_late w f u rfl (LB (F y s i H _ I h) λv W #[x,N,p,l,ty,C]=>?_);let#[J,G]:=zY p l ty;refine#[T,id,E,k,j,J,G,?_];have n:=ha cpos y W i N _ p C;rw[hs]at n ⊢;refine QAc (by show(Ju||(vv cpos (Ky es X.env)).any (·.1))=Ju;rw[z]<;>rfl) (Calls.evalArgs_plain ?_);exact LB n λY Z #[q,M,L,A,B]=>hm y Z i M x q v Y Q L l A B
end
def Ao(X:Cx)(id:String)(r:V->LV->Hp->VK->Prop):Prop :=
 ∀(h:MB) (s:jx) (y:St) (H:Hp) (x:V) (z:LV) (v:Jw) (u:LW) (Q:VK),Inv X h y H s->nA x v->bA z u->r x z H Q ->
  jy (js X.prog X.w) X.A (Xw (.builtin id) (v::u)) (EP X h y Q) X.xe s
theorem bA.one:∀{x:V}{us:LW},bA [x] us->∃u,us=[u]/\nA x u
 |_,_,.cons r .nil=>#[_,rfl,r]
theorem bA.zero:∀{us:LW},bA [] us->us=[]
 |_,.nil=>rfl
theorem bA.eraseIdx:∀{xs:LV}{us:LW}(i:Nat),bA xs us->bA (xs.eraseIdx i) (us.eraseIdx i)
 |_,_,_,.nil=>.nil|_,_,0,.cons _ t=>t|_,_,i+1,.cons r t=>.cons r (bA.eraseIdx i t)
theorem bA.reverse{xs:LV}{us:LW}(h:bA xs us):bA xs.reverse us.reverse:=by
 induction h with|nil=>exact .nil|cons r t x=>rw[QAe,QAe];exact bA.append x (.cons r .nil)
theorem bA.rep{xs:LV}{us:LW}(h:bA xs us):∀k:Nat,bA (Q9 k xs).flatten (Q9 k us).flatten
 |0=>.nil|k+1=>by rw[wU,wU,WT,WT];exact bA.append h (bA.rep h k)
theorem df{α:Type}(l:List α):l.eraseIdx (l.9 - 1)=l.dropLast:=by
 induction l with
 |nil=>rfl|cons a r h =>
  cases r with
  |nil=>rfl|cons b r =>
   have e:(a::b::r).9 - 1=((b::r).9 - 1)+1:=by have y:(a::b::r).9=r.9+2:=rfl;have x:(b::r).9=r.9+1:=rfl;omega
   rw[e,List.eraseIdx_cons_succ,h]
   all_goals rfl
theorem fM{α:Type}:∀(l:List α) (i:Nat),(l.eraseIdx i).9<=l.9
 |[],_=>QX _|_::_,0=>wm _|_::r,i+1=>QDj (fM r i)
theorem sM(its:LW):∀(k:Nat) (h:LW),
  QEB (λy x=>y++x) h.toArray (Q9 k its.toArray)=(h++(Q9 k its).flatten).toArray
 |0,h=>by simp|k+1,h=>by
  have e:h.toArray++its.toArray=(h++its).toArray:=by simp
  have z:(h++its)++(Q9 k its).flatten=h++(Q9 (k+1) its).flatten:=by rw[wU,WT,qg]
  rw[<- z,<- sM its k (h++its),<- e,wU,wc]
section
variable{X:Cx}{y:MB}{σ:St}{H:Hp}{s:jx}{l b:jv}{xs v w:LV}
theorem Inv.lset{its its':LW}{n:Nat}{f:Array Jw->Array Jw}{t':Nat}(I:Inv X y σ H s)(k:H l=Jr (.lst xs))
  (e:s.1.get? l=Jr { cls:=.type "list",data:=.seq its.toArray n }) (z:f its.toArray=its'.toArray) (hv:bA v its') (hz:v.9<=jz) :
  Inv X y σ (XA H l (.lst v)) { s with heap:=s.1.update l (qR f),toks:=t' }:=by
 have q:=PySem.IsL.update e f;rw[z]at q;refine I.write (x:=l) (e:=l) (by rw[k];exact trivial) (.inl rfl) (λa u hb h=>(qB s.1 (qR f) (qC hb)).trans h) #[_,q] ?_;exact#[hz,its',_,hv,q]
theorem Inv.lnew{its:LW}{t':Nat}(I:Inv X y σ H s)(hv:bA v its)(hz:v.9<=jz) :
  Inv X y σ (XA H s.1.1.size (.lst v)) { s with heap:=s.1.push { cls:=.type "list",data:=.seq its.toArray },toks:=t' } :=
 I.laid (λ_ _ q=>QJ _ q) (QX _) #[hz,its,0,hv,QO _ rfl]
theorem Inv.fresh(I:Inv X y σ H s):H s.1.1.size=none:=I.hok.fresh (QX _)
theorem Inv.lstM(I:Inv X y σ H s)(h:H l=Jr (.lst xs)):xs.9<=jz/\∃(its:LW) (n:Nat),bA xs its/\xs.9=its.9/\s.1.get? l=Jr { cls:=.type "list",data:=.seq its.toArray n }:=by let#[z,its,n,r,e]:=I.hok l _ h;exact#[z,its,n,r,r.9,e]
theorem SZ{n:Nat}(h:n<=jz):QAN n=false:=by unfold QAN;exact dF ()
end
section
variable{X:Cx}
def pU:V->LV->Hp->VK->Prop:=λx z H Q=>∃l h y,x=.ref l/\z=[y]/\H l=Jr (.lst h)/\h.9<jz/\Q .non (XA H l (.lst (h++[y])))
theorem DW:Ao X "list.append" pU:=by intro k s i H x m v o Q I b f h;let#[l,j,y,rfl,rfl,a,p,q]:=h;cases b;let#[u,rfl,g]:=f.one;let#[z,w,n,r,hl,e]:=I.lstM a;refine QBh F.slot_list_append #[_,e,rfl] F.entry_list_append (F.args_list_append_2 _ _) (PySem.list_append l w.toArray n u (by rw[QT];omega)) #[e,?_];refine#[.non,_,I.lset (its':=w++[u]) a e (by simp) (r.append (.cons g .nil)) ?_,rfl,q];rw[QM,Qw];omega
def Ac:V->LV->Hp->VK->Prop:=λx z H Q=>∃l h i k y,x=.ref l/\z=[.int i]/\H l=Jr (.lst h)/\-(2 ^ 63)<=i/\i<2 ^ 63/\seqIndex? i h.9=Jr k/\h[k]?=Jr y/\Q y (XA H l (.lst (h.eraseIdx k)))
theorem O0:Ao X "list.pop" Ac:=by
 intro f s A H x B v C Q I m o h;let#[l,j,i,k,y,rfl,rfl,g,K,W,hk,Y,q]:=h;cases m;let#[u,rfl,p]:=o.one;let#[t,rfl]:=p;let#[z,a,n,r,hl,e]:=I.lstM g;let#[w,Z,b]:=r.get Y;refine QBh F.slot_list_pop #[_,e,rfl] F.entry_list_pop (F.args_list_pop_2 _ _)
  (MeetsSeq.list_pop_at l a.toArray n i t k w (y3 K W) (by rw[QT,<- hl];exact hk) (by rw[<- QY];exact Z) (by rw[QT];omega)) #[e,?_]
 refine#[y,_,I.lset (its':=a.eraseIdx k) g e ?_ (r.eraseIdx k) ?_,b,q];show a.toArray.eraseIdxIfInBounds k=(a.eraseIdx k).toArray;rw[List.eraseIdxIfInBounds_toArray];have:=fM j k;omega
def KP:V->LV->Hp->VK->Prop:=λx y H Q=>∃l h,x=.ref l/\y=[]/\H l=Jr (.lst h)/\Q .non (XA H l (.lst h.reverse))
theorem JS:Ao X "list.reverse" KP:=by intro w s f H x i v j Q I a b h;let#[l,g,rfl,rfl,k,q]:=h;cases a;have u:=b.zero;subst u;let#[z,y,n,r,hl,e]:=I.lstM k;refine QBh F.slot_list_reverse #[_,e,rfl] F.entry_list_reverse (F.args_list_reverse_1 _) (AutoSeq1.list_reverse_list_0 l y.toArray n (by rw[QT];omega)) #[e,?_];refine#[.non,_,I.lset (its':=y.reverse) k e (by simp) r.reverse ?_,rfl,q];rw[List.length_reverse];omega
def Eh:R2:=λx y H Q=>∃l k h,x=.ref l/\y=.int k/\H l=Jr (.lst h)/\-(2 ^ 63)<=k/\k<2 ^ 63/\h.9 * k.toNat<=jz /\
 ∀p,H p=Js->Q (.ref p) (XA H p (.lst (Q9 k.toNat h).flatten))
theorem T7{α:Type}(xs:List α)(k:Nat):(Q9 k xs).flatten.9=k * xs.length:=by
 induction k with|zero=>simp|succ k h=>rw[wU,WT,QM,h,QDV,Nat.add_comm]
theorem Sd:sE X (kd .Mult) Eh:=by
 intro Y s J H x y v u Q I A K h;let#[l,k,L,rfl,rfl,B,E,C,Z,q]:=h;cases A;let#[t,rfl]:=K;let#[z,w,n,r,hl,e]:=I.lstM B;have g:w.toArray.size * k.toNat<=sizeLine:=by rw[QT,<- hl];exact Z
 have j:¬ w.toArray.size * k.toNat > (2 ^ 63 - 1) / 8:=by
  have:(jz:Nat)<=(2 ^ 63 - 1) / 8:=by decide
  omega
 have i:¬ (!Builtin.List.listFitsIndex k)=true:=by rw[y3 E C];exact QG
 have b:¬ QAN (w.toArray.size * k.toNat)=true:=by rw[SZ g];exact QG
 have f:QEB (λp o=>p++o) #[] (Q9 (if w.toArray.isEmpty=Jt then 0 else k.toNat) w.toArray)=(Q9 k.toNat w).flatten.toArray:=by
  have G:∀m:Nat,QEB (λp o=>p++o) #[] (Q9 m w.toArray)=(Q9 m w).flatten.toArray:=λm=>by have:=sM w m [];rw[Qy]at this;exact this
  rw[G];cases w with|nil=>simp|cons a M=>rw[hI (by simp)]
 refine wpAny_binaryOp_repeat_ref (T:="list") (U:="int") (by decide) #[_,e,rfl] (λW=>QEA W k t) noFill_list_mul F.fills_int_mul QDw repeat_list F.slot_int_index.lookup
  (QBh QDw (QEA s k t) F.entry_int_rmul (F.args_int_rmul_2 _ _) (int___rmul___int_list k t l w.toArray n)
   #[e,rfl,#[_,e,rfl],QBh F.slot_list_mul #[_,e,rfl] F.entry_list_mul (F.args_list_mul_2 _ _) (AutoListH.list___mul___list_int_3 l w.toArray n k t i j b) #[e,?_]])
 rw[f];exact#[.ref _,_,I.lnew (t':=s.toks) (r.rep k.toNat) (by rw[T7,Nat.mul_comm];exact Z),rfl,q _ I.fresh]
end
end L2
namespace Att
open PySem PySem.W PySem.Calls PyProof.Rows
theorem vJ{P:Params}{h:j0}:∀(ns:LJ) (vs:LW),WellAll P h vs (ns.map WData.int)->hE vs ns:=by
 intro ns;induction ns with
 |nil=>intro vs w;rw[we]at w;cases w;exact .nil|cons n ns x =>
  intro vs w;rw[QU]at w;cases w with|cons a b=>cases a;exact .cons _ _ (x _ b)
theorem script_of{l:OpenLaw}{n:Nat}(j:l.most=Jr n){P:Params}{h:j0}{args:List WData}{x:LW}
  (y:l.row.toRowW.claim.pre args=Jt) (k:WellAll P h x args) :
  ∃a vs ns,x=[Jv a]/\args=[WData.list (ns.map WData.int)]/\h.get? a=Jr { cls:=.type "list",data:=.seq vs.toArray }/\hE vs ns/\ns.9<=n:=by
 have b:WShape.hasAll [] args [.list .int]=true:=(pre_splitW y).1;have hc:l.pre.holds [] { args:=args }=true:=(pre_splitW y).2;let#[d,r,rfl,p,o]:=hasAllW_cons b;obtain rfl:=hasAllW_nil o;let#[s,rfl,m]:=hasW_list p;let#[ns,rfl]:=items_int m;have z:ns.9<=n:=by
  unfold OpenLaw.pre at hc;have w:(WTm.not (.lt (.lit (.int (n:Int))) (.len (.arg 0)))).holds [] { args:=[.list (ns.map .int)] }=true:=by have w:=(holds_andW hc).1;rw[j]at w;exact w
  have v:=condW_of w (w_not (w_lt w_lit (w_len_list (w_arg rfl))));rw[QF]at v;refine QB1 λq=>?_;have g:(n:Int)<((ns.9:Nat):Int):=()
  first
   | (rw[dT g]at v;exact h7 v (by decide))
   | (simp at v;omega)
 cases k with
 |cons f e =>
  cases e;cases f with|list i u=>exact#[_,_,ns,rfl,rfl,i,vJ ns _ u,z]
theorem post_true(l:OpenLaw)(args:List WData):l.row.toRowW.claim.post args (.bool Jt) args=Jt :=
 postW_of (r:=l.row.toRowW) (X:=(Jt==Jt))
  (show WShape.has [] (.bool Jt) .bool=Jt by first|rfl|decide|simp[WShape.has,WShape.arms,WShape.armsAll])
  (show(WTm.eq .res (.lit (.bool Jt))).value [] { args:=args,res:=Jr (.bool Jt),after:=args }=Jr (.bool (Jt==Jt)) from w_eq_bool (w_res rfl) w_lit) rfl
end Att
namespace L2
open PySem PySem.Spec PyProof.Rows
theorem HL:∀{vs:LW}{ns:LJ},hE vs ns->bA (ns.map V.int) vs
 |_,_,.nil=>.nil|_,_,.cons n t h=>.cons #[t,rfl] (HL h)
def Lk(H:Hp):Prop:=∀b,H b=Js∨∃o h,H b=Jr (.frz o (.lst h))
theorem B1{P:jt}{w:jw}{K:QE}{X J:Str->Option Jw}{CX:m5}{k:Nat}{O a:jv}{fd:Kw}{x:Str}{R:Sp}{y:jx}{vs:LW}{ns:LJ}
  (KX:K.In y.1) (A:y.1.Ns ju X) (hb:y.1.Ns yu J) (M:∀x:Str,x≠"__name__"->J x=Ku x) (B:y.1.NoLimit) (hg:y.gens=#[])
  (ha:y.1.get? a=Jr { cls:=.type "list",data:=.seq vs.toArray }) (hi:hE vs ns) (hl:ns.9<=jz) (hr:Room k Yr)
  (F:∀g:j0,K.In g->g.Ns ju X->FnOk P w K X g CX k O fd [x] R) (l:∀(s:jx) (u:Jw),Yz s fd #[[u],[]] [(x,u)])
  (L:∀H:Hp,Lk H->gC K H a (ns.map V.int)->R [.ref a] H (λv _=>v=.bl Jt) λ_ _ _=>False)
  (N:∀H e s',CX [] H y (λ_ _ _=>False) e s'->False) :
  Xz (js P w) Yr (.call (.ref O) #[[.ref a],[]]) (λr s'=>r=.ok (.ret (.bool Jt))/\OldK y.1 s'.1/\s'.os=y.os/\gw s'.gens) y:=by
 have S:=HL hi;have Y:=hi.9;have j:∀H:Hp,Lk H->gC K H a (ns.map V.int)->iJ P w H y.1->(∀b,H b≠Js->b=a)->(H a≠Js->K.lookup a=Js) ->
   Xz (js P w) Yr (.call (.ref O) #[[.ref a],[]]) (λr s'=>r=.ok (.ret (.bool Jt))/\OldK y.1 s'.1/\s'.os=y.os/\gw s'.gens) y:=by
  intro H hO hS W hA hK;have f:∀{b:jv}{o:Obj},y.1.get? b=Jr o->H b=Js->(yO y.1 H).get? b=Jr o:=λe n=>B2 e n;have I:∀{b:jv}{o:Obj}{E:Array Xx}{G:Nat},y.1.get? b=Jr o->o.data=.dict E G->H b=none:=λ{b o E G} e d=>by
   cases q:H b with|none=>rfl|some u=>have Q:b=a:=hA b (by rw[q];simp);subst Q;rw[ha]at e;cases e;have d':Data.seq vs.toArray _=Data.dict E G:=d;cases d'
  have i:∀{b:jv}{m:Str->Option Jw},y.1.Ns b m->(yO y.1 H).Ns b m:=λ{b m} #[o,E,G,e,d,r]=>#[o,E,G,f e (I e d),d,r]
  have C:K.In (yO y.1 H):=λb o e=>f (KX b o e) (by
   cases q:H b with|none=>rfl|some u=>have Q:b=a:=hA b (by rw[q];simp);subst Q;rw[hK (by rw[q];simp)]at e;cases e)
  have hM:Mod K X (yO y.1 H):=#[C,i A,#[J,i hb,M],let#[mc,h1,h2]:=B;#[mc,i h1,h2]]
  have e0:Env0 P w K X (yO y.1 H) Yr [] y H:=#[rfl,hM,λb o e=>i7 e,QAp (jX _ _),trivial,λb hb=>h7 (show b∈([]:List jv) from hb) (by simp),W,.of_eq hg]
  refine QAL ((F _ C (i A)).run Yr [] y H #[[.ref a],[]] [.ref a] [.ref a] _ _ hr e0 (l y (.ref a)) (.cons rfl .nil) (L H hO hS)) λr s' h=>?_;cases r with
  |error e=>exact(N H e s' h).elim|ok fl =>
   cases fl with
   |next=>exact Qj h|brk=>exact Qj h|cont=>exact Qj h|ret u =>
    let#[v,H',os,bare,un,Z,r',q]:=h;have q':v=.bl true:=q;subst q';obtain rfl:u=Value.bool true:=r';refine#[rfl,OldK.of_keep λb o e=>?_,os,bare];cases q:H b with
    |none=>exact un.keep b o e q (by intro z;exact h7 (show b∈([]:List jv) from z) (by simp)) (by simp)|some u =>
     rcases hO b with z|⟨ob,xs,z⟩
     rw[q]at z;cases z;have z2:=un.frzs b ob _ z;let#[e1,_]:=W b _ z;let#[e2,_]:=Z b _ z2;rw[e]at e1;cases e1;exact e2
 cases hk:K.lookup a with
 |some o=>have e:=KX a o hk;rw[ha]at e;cases e;refine j (λ_=>Js) (λ_=>.inl rfl) (.inr #[_,vs.toArray,_,hk,rfl,rfl,rfl,by rw[QT,Y];exact hl,by simpa using S]) (λb u z=>by have p:(none:Option HO)=Jr u:=z;cases p) (λb z=>h7 rfl z) λz=>h7 rfl z|none =>
  refine j (λb=>if b=a then Jr (.frz { cls:=.type "list",data:=.seq vs.toArray } (.lst (ns.map V.int))) else Js) (λb=>?_) (.inl (.inr #[{ cls:=.type "list",data:=.seq vs.toArray },hQ rfl])) (λb u z=>?_) (λb z=>?_) λ_=>hk;by_cases hb:b=a
  ·exact .inr #[_,_,hQ hb]
  exact .inl (hI hb);by_cases hb:b=a
  ·have p:=(hQ hb).symm.trans z
   cases p;subst hb;exact#[ha,by rw[QF];exact hl,vs,_,S,ha]
  have p:=(hI hb).symm.trans z;cases p;by_cases hb:b=a
  ·exact hb
  exact h7 (hI hb) z
noncomputable def IC(s:kf):Arguments:=match s with
 | .FunctionDef _ a _ _ _ _ _ _ _ _=>a|_=>{ posonlyargs:=[],args:=[],vararg:=Js,kwonlyargs:=[],kw_defaults:=[],kwarg:=Js,defaults:=[] }
noncomputable def bC(s:kf):List Stmt:=match s with
 | .FunctionDef _ _ b _ _ _ _ _ _ _=>b|_=>[]
noncomputable def GA(s:kf):Scope:=match s with
 | .FunctionDef _ _ _ _ _ _ sc _ _ _=>sc|_=>{ kind:=.function,names:=[],isGenerator:=Ju,isCoroutine:=Ju }
noncomputable abbrev MX:m5:=λ_ _ _ _ _ _=>False
noncomputable abbrev E0:XK:=λ_ _ _=>False
theorem Ui{X:Cx}:mL MX X E0:=λ_ _ _ _ _ _ _ h=>h.elim
structure Fun(K:QE)(x qual:Str)(st:kf)(f:jv)(fd:Kw):Prop where
 ex:∃(oc:Jw) (od:Option jv) (kV doc pm:Jw) (an:Option jv) (cdv ct:Jw) (osl:Array (Option Jw)),
  fd=wr x qual (IC st) (bC st) (GA st) .none kV doc pm an cdv ct/\K.lookup f=Jr #[oc,od,.func fd,osl]/\QBW K cdv qual=Jt
 kp:Wm K (.ref f)=Jt
section
variable{P:jt}{w:jw}{K:QE}{mg:Str->Option Jw}{base:j0}
section
variable{x y:Str}{st:kf}{f:jv}{u:Kw}{z:LS}
theorem Fun.ok{N:LS}{k:Nat}{b:Sp}(F:Fun K x y st f u)(S:FnScope N z (GA st))(len:∀vs H Q E,b vs H Q E->vs.9=z.9)
  (a:∀(v:Jw) (A:j2) (outer:List Env) (s:jx) (H:Hp) (vs:LV) (Q:VK) (E:XK),Room k (A.deeper (Hx y (GA st) s.1.1.size f v))->b vs H Q E ->
   ∃t,VT (zT MX P w K mg base N y (GA st) f v A outer s H E).nox (bC st) t/\t { nx:=λ_ m=>Q .non m,rt:=Q } (iD N vs) H):FnOk P w K mg base MX (k+1) f u z b:=by
 let#[p,o,kV,l,n,X,v,r,i,rfl,lk,g]:=F.ex;refine Uj lk g S len λA outer s H vs Q E j e=>?_;let#[t,h,q]:=a v A outer s H vs Q E j e;exact#[t,h.nox,q]
theorem Fun.binds(F:Fun K x y st f u)
  (h:∀(kV v a:Jw) (b:Option jv) (k ct:Jw) (us:LW),us.9=z.9->xx (wr x y (IC st) (bC st) (GA st) .none kV v a b k ct) #[us,[]]=hT (z.zip us)):JG K u z []:=by
 let#[j,i,kV,v,a,b,k,ct,e,rfl,lk,g]:=F.ex;exact .all (h kV v a b k ct)
theorem uf{i:Jw}{g e:Option jv}{a:Array (Option Jw)}{kV v b h ct:Jw}(l:K.lookup f=Jr #[i,g,.func (wr x y (IC st) (bC st) (GA st) .none kV v b e h ct),a])
  (c:QBW K h y=Jt) (k:Wm K (.ref f)=Jt):Fun K x y st f (wr x y (IC st) (bC st) (GA st) .none kV v b e h ct):=#[#[i,g,kV,v,b,e,h,ct,a,rfl,l,c],k]
end
end
def Same(H h:Hp):Prop:=∀b o,H b=Jr o->h b=Jr o
theorem Same.refl(H:Hp):Same H H:=λ_ _ h=>h
theorem Same.trans{H y x:Hp}(a:Same H y)(b:Same y x):Same H x:=λc o h=>b c o (a c o h)
theorem Same.free{H x:Hp}(e:Same H x){l:jv}(h:x l=Option.none):H l=Option.none:=by
 cases q:H l with|none=>rfl|some o=>rw[e l o q]at h;cases h
theorem Same.seq{K:QE}{H x:Hp}{a:jv}{xs:LV}(e:Same H x)(h:gC K H a xs):gC K x a xs:=by rcases h with(h|⟨o,h⟩)|h;exact .inl (.inl (e _ _ h));exact .inl (.inr #[o,e _ _ h]);exact .inr h
noncomputable def KL(env:Env):List (Str×Vt)->List (Str×jv)->List (Str×jv)
 |[],cs=>cs|(n,k)::r,cs=>KL env r (if k==.free then(n,(env.cells.lookup n).getD 0)::cs else cs)
theorem bT{u:kl}{env:Env}(h:∀y∈u.names,y.2=.free->∃c,env.cells.lookup y.1=Jr c):closureFor u env=hT (KL env u.names []):=by
 have w:∀(l:List (Str×Vt)) (v:List (Str×jv)),(∀y∈l,y.2=.free->∃c,env.cells.lookup y.1=Jr c) ->
   (forIn l v λ(x:Str×Vt) (r:List (Str×jv))=>(if(x.2==NameKind.free)=Jt then(do let c <- cellOf env x.1;hT (ForInStep.yield ((x.1,c)::r))) else hT (ForInStep.yield r):Sem (ForInStep (List (Str×jv)))))=hT (KL env l v):=by
  intro l;induction l with
  |nil=>intro v _;rfl|cons y l b =>
   intro v hl;let#[n,k]:=y;rw[QAS];by_cases hk:k=.free;subst hk;let#[c,hc]:=hl (n,.free) QD rfl;have hc:env.cells.lookup n=Jr c:=hc;simp only[beq_self_eq_true,if_true,cellOf,hc,pure_bind,KL,QDk];exact b _ λz a=>hl z (QC _ a);have hb:(k==NameKind.free)=false:=by simpa using hk
   simp only[hb,qF,if_false,pure_bind,KL];exact b _ λz a=>hl z (QC _ a)
 have e:=w u.names [] h;unfold closureFor;exact(Fz (· >>= hT) e).trans (pure_bind _ _)
theorem iM{env:Env}{x:Str}{c:jv}:∀(l:List (Str×Vt)) (cs:List (Str×jv)),(∀y∈l,y.2=.free->∃c,env.cells.lookup y.1=Jr c)->(∀c,cs.lookup x=Jr c->env.cells.lookup x=Jr c) ->
  (KL env l cs).lookup x=Jr c->env.cells.lookup x=Jr c
 |[],cs,_,hc,h=>hc c h|(n,k)::r,cs,hl,hc,h=>by
  refine iM r _ (λz a=>hl z (QC _ a)) (λd u=>?_) h;by_cases hk:k=.free;subst hk;let#[e,v]:=hl (n,.free) QD rfl;have v:env.cells.lookup n=Jr e:=v;simp only[beq_self_eq_true,if_true,v,QDk,wA]at u;cases w:x==n with|true=>rw[w]at u;cases u;rw[wE w];exact v|false=>rw[w]at u;exact hc d u
  have hb:(k==NameKind.free)=false:=by simpa using hk
  simp only[hb,qF,if_false]at u;exact hc d u
theorem IK{env:Env}{x:Str}:∀(l:List (Str×Vt)) (cs:List (Str×jv)),((∃c,cs.lookup x=Jr c)∨(x,NameKind.free)∈l)->∃c,(KL env l cs).lookup x=Jr c
 |[],cs,h=>by rcases h with h|h;exact h;cases h
 | (n,k)::r,cs,h=>by
  refine IK r _ ?_;rcases h with⟨c,h⟩| h;refine .inl ?_;split;rw[wA];split;exact#[_,rfl];exact#[c,h];exact#[c,h];rcases QK.mp h with h|h
  ·cases h
   refine .inl ?_;simp
  exact .inr h
noncomputable def iB:List Bool->Nat->LS->LS
 |b::m,j,x::N=>(if b then#[(Wb [46,j])] else x)::iB m (j+1) N|_,_,N=>N
noncomputable def BC:List Bool->St->St
 |b::m,v::σ=>(if b then Js else v)::BC m σ|_,σ=>σ
theorem mI:∀(m:List Bool) (σ:St),(BC m σ).9=σ.9
 |[],σ=>by unfold BC;rfl|_::_,[]=>by unfold BC;rfl|b::m,v::σ=>by unfold BC;rw[QL,QL,mI m σ]
theorem oM:∀(m:List Bool) (j:Nat) (N:LS),(iB m j N).9=N.9
 |[],_,N=>by unfold iB;rfl|_::_,_,[]=>by unfold iB;rfl|b::m,j,x::N=>by unfold iB;rw[QL,QL,oM m (j+1) N]
theorem YK:∀(m:List Bool) (j:Nat) (N:LS) (σ:St) (i:Nat) (v:V),(BC m σ)[i]?=Jr (Jr v)->σ[i]?=Jr (Jr v)/\(iB m j N)[i]?=N[i]?
 |[],_,N,σ,i,v,h=>by unfold BC at h;unfold iB;exact#[h,rfl]|_::_,_,N,[],i,v,h=>by unfold BC at h;simp at h|b::m,j,[],w::σ,i,v,h=>by
  unfold BC at h;cases i with
  |zero =>
   cases b with|true=>simp at h|false=>simp at h;subst h;exact#[by simp,by unfold iB;rfl]
  |succ i=>have q:=(YK m (j+1) [] σ i v (by simpa using h)).1;exact#[by simpa using q,by unfold iB;rfl]
 |b::m,j,x::N,w::σ,0,v,h=>by
  unfold BC at h;cases b with|true=>simp at h|false=>simp at h;subst h;exact#[by simp,by unfold iB;simp]
 |b::m,j,x::N,w::σ,i+1,v,h=>by unfold BC at h;have q:=YK m (j+1) N σ i v (by simpa using h);unfold iB;exact#[by simpa using q.1,by simpa using q.2]
noncomputable def jK(h sc:kl):kl :=
  { h with names:=h.names.map λ(n,k)=>if(k==.free&&sc.kind==.function&&sc.names.lookup n==Jr .cell) then(n,.cell) else(n,k) }
theorem VC(sc:kl)(x:Str):∀(l:List (Str×Vt)),
  (l.map λ(n,k)=>if(k==NameKind.free&&sc.kind==.function&&sc.names.lookup n==Jr .cell) then(n,NameKind.cell) else(n,k)).lookup x =
   (l.lookup x).map λk=>if(k==NameKind.free&&sc.kind==.function&&sc.names.lookup x==Jr .cell) then NameKind.cell else k
 |[]=>rfl|(n,k)::r=>by
  rw[QU];have e:(if(k==NameKind.free&&sc.kind==.function&&sc.names.lookup n==Jr .cell)=Jt then(n,NameKind.cell) else(n,k)) =
    (n,if(k==NameKind.free&&sc.kind==.function&&sc.names.lookup n==Jr .cell)=Jt then NameKind.cell else k):=by split<;>rfl
  show Wv x ((if(k==NameKind.free&&sc.kind==.function&&sc.names.lookup n==Jr .cell)=Jt then(n,NameKind.cell) else(n,k))::_)=_;rw[e,wA,wA];cases h:x==n with|true=>rw[wE h];simp|false=>exact VC sc x r
structure CompSt(N:LS)(sc scope:kl)(tgs:LS)(mask:List Bool):Prop where
 kind:scope.kind=.function
 nocell:∀y∈scope.names,y.2≠.cell
 names:∀y∈scope.names,y.2=.local->scope.names.lookup y.1=Jr .local
 free:∀y∈scope.names,y.2=.free->sc.names.lookup y.1=Jr .cell∨sc.names.lookup y.1=Jr .free
 loc:∀y∈scope.names,y.2=.local->y.1∈tgs∨y.1=(".0":Str)
 nd:(tgs++iB mask 0 N).Nodup
 no0:(".0":Str)∉tgs++iB mask 0 N
def HA(X:Cx)(h:kl)(x:LS)(mask:List Bool)(s:jx)(H:Hp)(ex:List jv):Cx :=
  { X with N:=x++iB mask 0 X.N,s₀:=s,H₀:=H,env:=compEnvC h (KL X.env h.names []) s.1.1.size X.env,outer:=X.stack,stack:=X.stack,ex:=ex,fn:=λ_=>Ju,pn:=[],xe:=λ_ _=>False }
def HH(k:Nat)(mask:List Bool)(σ:St):St:=Q9 k Js++BC mask σ
section
variable{X:Cx}{d:MB}{σ:St}{H:Hp}{s:jx}{w:kl}{a:LS}{mask:List Bool}{ex:List jv}
theorem CompSt.cells(C:CompSt X.N X.env.scope w a mask)(ok:X.Ok):∀y∈w.names,y.2=.free->∃c,X.env.cells.lookup y.1=Jr c:=λy h x =>
 ok.has y.1 (C.free y h x)
theorem CompSt.kindCF(C:CompSt X.N X.env.scope w a mask){x:Str}(h:(xn w X.env).names.lookup x=Jr .cell∨(xn w X.env).names.lookup x=Jr .free):(x,NameKind.free)∈w.names:=by
 have e:=VC X.env.scope x w.names;have z:(xn w X.env).names.lookup x=(w.names.lookup x).map λk=>if(k==NameKind.free&&X.env.scope.kind==.function&&X.env.scope.names.lookup x==Jr .cell) then NameKind.cell else k:=e
 rw[z]at h;cases q:w.names.lookup x with
 |none=>rw[q]at h;simp at h|some k =>
  have hm:=ql q;have y:=C.nocell _ hm;cases k with|free=>exact hm|cell=>exact h7 rfl y|«local»=>rw[q]at h;simp at h|_=>rw[q]at h;simp at h
theorem kT(I:Inv X d σ H s)(C:CompSt X.N X.env.scope w a mask)(j:∀b∈ex,jI X d H b/\b<s.1.1.size){h':j0}{t':Nat}
  (hn:h'.Ns s.1.1.size (λ_=>Js)) (hs:qS s.1.1.size (s.1.push { cls:=.type "dict",data:=.dict #[] }) h') :
  Inv (HA X w a mask s H ex) [] (HH a.9 mask σ) H { s with heap:=h',toks:=t' }:=by
 have kept:∀b u,s.1.get? b=Jr u->h'.get? b=Jr u:=λb u e=>hs.extBut b u (Qc (QR e)) (QJ _ e);have look:∀x c,(KL X.env w.names []).lookup x=Jr c->X.env.cells.lookup x=Jr c:=λx c e=>iM w.names [] (C.cells I.ok) (λc z=>by simp at z) e;have nofs:∀b∈ex,b∉uX X.stack:=λb hb z=>by let#[#[_,f1,f2,_],_]:=j b hb;rcases QK.mp (I.stkSub b z) with e|e;exact f1 e;exact f2 e
 refine#[#[I.ok.mod,C.kind,I.ok.glob,I.ok.blt,QX _,λx y c B g=>I.ok.inj x y c (look x c B) (look y c g),λx hx=>?_,λx c hf _=>h7 (show Ju=Jt from hf) QG,I.ok.hd,I.ok.frames,.inl rfl,λb hb=>?_,I.bs,Qf I.ok.bsz I.sz,λb o e hb=>?_,nofs,I.stack,I.stkFree],
  rfl,I.bare,Un.kept kept,#[_,hn,λi x v B g S=>?_],λx c h=>?_,I.hok.fresh (QX _),λx c h=>I.freeC x c (look x c h),λp hp=>h7 (show p∈([]:MB) from hp) (by simp),I.hok.kept kept,?_]
 exact IK w.names [] (.inr (C.kindCF hx));let#[#[_,_,_,_,f4,_],lt]:=j b hb;exact#[Qc lt,λx c e=>f4 x c (look x c e)];let#[#[_,_,_,f3,_],_]:=j b hb;rcases f3 with z|z;exact I.ok.noex b o e z;exact h7 (Qt (QR (I.ok.bs b o e).1) z) (wq _)
 ·
  have R:a.9<=i:=by rcases QCI i a.9 with z|z;unfold HH at g;rw[qK (by simpa using z),Wd]at g;split at g<;>cases g;exact z
  have Y:(iB mask 0 X.N)[i - a.9]?=Jr x:=by have:(a++iB mask 0 X.N)[i]?=Jr x:=B;rw[Q0 R]at this;exact this
  have L:(BC mask σ)[i - a.9]?=Jr (Jr v):=by unfold HH at g;rw[Q0 (by simpa using R)]at g;simpa using g
  let#[g1,g2]:=YK mask 0 X.N σ _ v L;rw[g2]at Y;have K:x∈a++iB mask 0 X.N:=Qq (show(a++iB mask 0 X.N)[i]?=Jr x from B);have W:x∉a:=λz=>by have nd:=C.nd;rw[qH]at nd;exact nd.2.2 x z x (Qq (by rw[g2];exact Y)) rfl
  have f:(x,NameKind.free)∈w.names:=by
   rcases S with z|z|z;exfalso;have e:(xn w X.env).names.lookup x=Jr .local:=z;have O:=VC X.env.scope x w.names;have M:(xn w X.env).names.lookup x=(w.names.lookup x).map λk=>if(k==NameKind.free&&X.env.scope.kind==.function&&X.env.scope.names.lookup x==Jr .cell) then NameKind.cell else k:=O
   rw[M]at e;cases q:w.names.lookup x with
   |none=>rw[q]at e;cases e|some k =>
    rw[q]at e;have hm:=ql q;have F:k=.local:=by
     cases k with|«local»=>rfl|free=>simp at e;split at e<;>cases e|_=>simp at e
    subst F;rcases C.loc _ hm rfl with z|z;exact W z;exact C.no0 (z▸K)
   exact C.kindCF (.inl z);exact C.kindCF (.inr z)
  let#[m,hnm,hl]:=I.loc;have E:Xk X.env.scope x:=.inr (C.free _ f rfl);let#[u,r,l]:=hl _ x v Y g1 E;refine#[u,r,?_];rcases l with⟨k,_⟩| ⟨_,c,hc,n⟩
  exfalso;have Q:X.env.scope.names.lookup x=Jr .local:=k;rcases C.free _ f rfl with z|z;have Z:X.env.scope.names.lookup x=Jr .cell:=z;rw[Q]at Z;cases Z;have Z:X.env.scope.names.lookup x=Jr .free:=z;rw[Q]at Z;cases Z;let#[P,A]:=IK (env:=X.env) w.names [] (.inr f);have:P=c:=by have:=look x P A;rw[hc]at this;exact(Q1 this).symm
  subst this;refine .inr #[?_,P,A,?_];rcases S with z|z|z
  ·exfalso
   have e:(xn w X.env).names.lookup x=Jr .local:=z;have O:=VC X.env.scope x w.names;have M:(xn w X.env).names.lookup x=(w.names.lookup x).map λk=>if(k==NameKind.free&&X.env.scope.kind==.function&&X.env.scope.names.lookup x==Jr .cell) then NameKind.cell else k:=O
   rw[M]at e;cases q:w.names.lookup x with
   |none=>rw[q]at e;cases e|some k =>
    rw[q]at e;have hm:=ql q;have F:k=.local:=by
     cases k with|«local»=>rfl|free=>simp at e;split at e<;>cases e|_=>simp at e
    subst F;rcases C.loc _ hm rfl with z|z;exact W z;exact C.no0 (z▸K)
  exact .inl z;exact .inr z;let#[o,G,J]:=n;exact#[o,kept _ _ G,J]
 let#[v,o,G,J]:=I.cell x c (look x c h);exact#[v,o,kept _ _ G,J];show(HH a.9 mask σ).9=(a++iB mask 0 X.N).9;unfold HH;rw[QM,QM,wD,mI,oM,I.len]
end
section
variable{X:Cx}{h:MB}{σ k:St}{H w:Hp}{s s':jx}{x:kl}{a:LS}{mask:List Bool}{ex:List jv}{D:jv}{y:LV}{its:LW}
theorem vT(I:Inv X h σ H s)(m:∀b∈ex,jI X h H b/\b<s.1.1.size)(W:D∈ex)(J:Inv (HA X x a mask s H ex) [] k w s')(f:w D=Js)(hv:bA y its)(hz:y.9<=jz)
  (hl:s'.1.PlainList D its.toArray) {g:j0}(hs:qS s.1.1.size s'.1 g):Inv X h σ (XA w D (.lst y)) { s' with heap:=g }:=by
 have un:Un (uX X.stack) ex H w s.1 s'.heap:=J.base;have j:∀b o,s.1.get? b=Jr o->b≠s.1.1.size:=λb o e=>Qc (QR e);have C:=m D W;have Z:w s.1.1.size=none:=J.free;have M:D≠s.1.1.size:=Qc C.2;have p:∀b u,b≠s.1.1.size->s'.1.get? b=Jr u->g.get? b=Jr u:=λb u B e=>hs.extBut b u B e;refine I.call' (s':={ s' with heap:=g }) (ch:=ex) J.os #[λb o e n hb i=>?_,λb o e n hb i=>?_,λb o e n i=>?_,λb o e i=>?_,λb r e=>?_,λb o u e=>?_,λb A e=>?_] ?_ J.bare λb hb=>?_;exact p b o (j b o e) (un.keep b o e n hb i);let#[K,q]:=un.slot b o e n hb i;exact#[K,p b _ (j b o e) q];have q:=un.free b o e n i;rw[xA (λ(z:b=D)=>i (by rw[z];exact W))];exact q;let#[Y,q]:=un.there b o e i;exact#[Y,p b Y (j b o e) q];rw[xA (aA (un.tups b r e) f)];exact un.tups b r e;rw[xA (aA (un.frzs b o u e) f)];exact un.frzs b o u e;let#[l,q]:=un.tbls b A e;exact#[l,by rw[xA (aA q f)];exact q];intro b u e;by_cases hb:b=D;subst hb;rw[ZA]at e;cases e;let#[n,q]:=hl;exact#[hz,its,n,hv,p _ _ M q];rw[xA hb]at e;refine(J.hok b u e).stay (λc v hc q=>p c v ?_ q) (λc q=>?_) λc r q=>?_;rintro rfl;rcases hc with z|z;subst z;rw[Z]at e;cases e;rw[Z]at z;cases z;rw[xA (aA q f)];exact q;rw[xA (aA q f)];exact q;let#[#[O,L,N,G,F,E],_]:=m b hb;exact#[G,L,F,E]
end
section
variable{X:Cx}{s:jx}{U Y V:Expr}{Z:List Expr}{d:kl}{pos:Pos}{K:TI}{g:TG}{tc:TT}{te:TE}{l:LS}{mask:List Bool}{j:MB}
def Hk(X:Cx)(Z:List Expr)(t:TT):Prop:=∀(j:MB) (s:jx) (h:St) (H:Hp) (Q:Bool->Hp->Prop),Inv X j h H s->t h H Q ->
 jy (js X.prog X.w) X.A (forIn Z Jt λc r=>if r=Jt then do let ok <- isTrue c X.env (kb c X.env);hT (ForInStep.yield ok) else hT (ForInStep.yield r)) (TP X j h Q) X.xe s
theorem ZU:Hk X [] (λ_ H Q=>Q Jt H):=λj s x H Q I h=>by rw[QCi];exact QH #[H,I,h]
theorem YU{c:Expr}{t:TT}(hc:PT X c t):Hk X [c] t:=λj s x H Q I h=>by rw[QAS];simp only[if_true];refine QA (QA (LB (hc j s x H Q I h) λb y q=>QH ?_));dsimp only;rw[QCi];exact QH q
theorem mG{prog:jt}{w:jw}{A:j2}{R:Result->jx->Prop}{y:Expr}{it q:Jw}{env:Env}(I:Nat->jx->Prop)
  (W:∀n s,I n s->jy (js prog w) A (Vs it) (λr k=>match r with
   |none=>R (.ok .next) k|some v=>jy (js prog w) A (Vz y it v) (λ_ u=>jy (js prog w) A (Xu y env v) (λ_ f =>
     jy (js prog w) A (forIn Z Jt λc r=>if r=Jt then do let ok <- isTrue c env (kb c env);hT (ForInStep.yield ok) else hT (ForInStep.yield r)) (λok z =>
      if ok=Jt then jy (js prog w) A (kb U env) (λx e =>
       jy (js prog w) A (Xw (.builtin "list.append") [q,x]) (λ_ b=>∃m,m<n/\I m b) (λ_ _=>False) e) (λ_ _=>False) z
      else ∃m,m<n/\I m z) (λ_ _=>False) f) (λ_ _=>False) u) (λ_ _=>False) k) (λ_ _=>False) s)
  (n:Nat) (h:I n s) :
  Xz (js prog w) A (.compLoop (.ListComp U [#[y,Y,Z,0]] d pos) 0 it q env) R s:=by
 refine codeAny_loop rfl I (λn s F=>?_) n h;show jy _ A ((compTurn (.ListComp U [#[y,Y,Z,0]] d pos) 0 it q env).onRaise (λx=>do noteFrame x env;theTreesLotGoes x)) _ _ s;refine wpAny_noted ?_;rw[compTurn_list];refine QA (QC1 (QA (WD (W n s F) (λr k o=>?_) λ_ _ a=>a.elim)));cases r with
 |none=>exact QH o|some v =>
  refine QA (WD o (λ_ u p=>?_) λ_ _ a=>a.elim);refine QA (WD p (λ_ f E=>QA (WD E (λok z i=>?_) λ_ _ a=>a.elim)) λ_ _ a=>a.elim);cases ok with|false=>exact QH #[rfl,i]|true=>exact QA (QA (WD i (λx e C=>QA (WD C (λ_ b B=>QH (QH #[rfl,B])) λ_ _ a=>a.elim)) λ_ _ a=>a.elim))
def dY(K:TI)(g:TG)(tc:TT)(te:TE)(k:Nat)(mask:List Bool):TE:=λa H Q=>K a H λJ q=>∃W:Nat->Nat->LV->St->Hp->Prop,(∃m,W 0 m [] (HH k mask a) q) /\
 ∀i m h v u,W i m h v u->(J.stop i u/\h.9<=jz/\∀p,u p=Js->Q (.ref p) (XA u p (.lst h))) ∨
  (J.go i u/\∀x f,J.yld i u x f->g x v f λz o=>tc z o λb e=>if b=Jt then te z e λy n=>h.9<jz/\∃w,w < m/\W (i+1) w (h++[y]) z n else ∃w,w < m/\W (i+1) w h z e)
def Ak(X:Cx)(j:MB)(H:Hp)(s:jx)(C:jv):Prop :=
 H C=Js/\C≠X.env.locals/\X.s₀.1.1.size<=C/\(∀x c,X.env.cells.lookup x=Jr c->c≠C)/\(∀p∈X.pn++j,p.1≠C)/\∃m,s.1.Ns C m
theorem GQ{pos':Pos}{use:Option (Jw->Sem Unit)}(hc:X.calm=Jt)(hi:PI X V Y K)(C:CompSt X.N X.env.scope d l mask)
  (inner:∀s H ex,PG (HA X d l mask s H ex) V g/\Hk (HA X d l mask s H ex) Z tc/\PE (HA X d l mask s H ex) U te)
  (hs:∀x,ku Y X.env x=hT x) {σ:St}{H:Hp}{Q:VK}{QQ:ZB}(I:Inv X j σ H s) (h:dY K g tc te l.9 mask σ H Q)
  (fin:∀(D:jv) (f:Hp) (s6:jx) (F:jv),Inv X j σ f s6->Ak X j f s6 F->Q (.ref D) f->compPost (js X.prog X.w) X.A X.xe use QQ (.ref D) F (.ok .next) s6) :
  jy (js X.prog X.w) X.A (zw (.ListComp U [#[V,Y,Z,0]] d pos) d X.env pos' (gx []) Ju (kb Y X.env) use) QQ X.xe s:=by
 refine wpAny_comprehension_free (use:=use) rfl hs (bT (C.cells I.ok)) C.kind C.names (LB (hi j s σ H _ I h) λv s1 h1=>LB h1 λitv s2 h2=>?_);let#[it,a,tn,J,B,e,I2,T,st2,f2,W,#[m0,w0],turn]:=h2;subst e;refine Qx ?_;have I3:Inv X j σ B { s2 with heap:=s2.1.push { cls:=.type "list",data:=.seq ([]:LW).toArray } }:=I2.kept (t':=s2.toks) λb o e=>QJ _ e;generalize hS:({ s2 with heap:=s2.1.push { cls:=.type "list",data:=.seq ([]:LW).toArray } }:jx)=s3 at I3;have sz3:s3.1.1.size=s2.1.1.size+1:=by rw[<- hS];exact wt ..
 have lst3:s3.1.PlainList s2.1.1.size ([]:LW).toArray:=#[0,by rw[<- hS];exact QO _ rfl]
 have old3:∀b o,s2.1.get? b=Jr o->s3.1.get? b=Jr o:=λb o e=>by rw[<- hS];exact QJ _ e
 generalize hDd:s2.1.1.size=D at sz3 lst3;have fD:jI X j B D:=by rw[<- hDd];exact I2.fpOk (QX _) (I2.hok.fresh (QX _))
 have fpl:∀b∈a,b<D:=λb hb=>by let#[o,e,_]:=T.obj _ _ st2 b hb;rw[<- hDd];exact QR e
 have hex:∀b∈D::a,jI X j B b/\b<s3.1.1.size:=λb hb=>by rcases QK.mp hb with z|z;subst z;exact#[fD,by rw[sz3];exact QAH _];exact#[f2 b z,by rw[sz3];exact qh (fpl b z)]
 refine wpAny_newFunctionEnv C.nocell (by intro y hy;simp at hy) (λh' hn hsb=>?_) C.kind;have J0:Inv (HA X d l mask s3 B (D::a)) [] (HH l.9 mask σ) B { s3 with heap:=h',toks:=s3.toks+([]:List (Str×Jw)).9 }:=kT I3 C hex hn hsb;have kept:∀b u,s3.1.get? b=Jr u->h'.get? b=Jr u:=λb u e=>hsb.extBut b u (Qc (QR e)) (QJ _ e);let#[pg,pf,pl]:=inner s3 B (D::a);have loop:∀s4:jx,s4={ s3 with heap:=h',toks:=s3.toks+([]:List (Str×Jw)).9 } ->
   Xz (js X.prog X.w) X.A (.compLoop (.ListComp U [#[V,Y,Z,0]] d pos) 0 (.ref it) (.ref D) (compEnvC d (KL X.env d.names []) s3.1.1.size X.env))
    (compPost (js X.prog X.w) X.A X.xe use QQ (.ref D) s3.1.1.size) s4:=by
  rintro s4 rfl;have S:∀{f:Hp},(∀b∈D::a,f b=Js)->∀(pp:MB),(∀p∈pp,p.1∉a)->∀b∈a,jI (HA X d l mask s3 B (D::a)) pp f b:=λ{f} hn pp hpp b hb=>by have g:=J0.ok.exf b (QC _ hb);exact#[hn b (QC _ hb),g.1,J0.ok.exfs b (QC _ hb),.inl (QC _ hb),g.2,λp E z=>hpp p (by simpa[HA]using E) (z▸hb)]
  have DX:=J0.ok.exf D QD;have Dfp:D∉a:=λz=>wq _ (fpl D z);refine mG (λn L=>∃i m f G k,Inv (HA X d l mask s3 B (D::a)) [] m f L/\tn i L.1/\(∀b∈D::a,f b=Js)/\bA G k/\L.1.PlainList D k.toArray/\W i n G m f) ?_ m0
   #[0,_,B,[],[],J0,T.keep _ _ _ (T.keep _ _ _ st2 λb hb o e=>old3 b o e) λb hb o e=>kept b o e,λb hb=>((hex b hb).1).1,.nil,lst3.at λo e=>kept _ _ e,w0]
  rintro n s5 ⟨i,O,H5,G,k,I5,st5,R,va5,ls5,w5⟩;let#[nL,lo]:=id ls5;have pinD:∀{m:St}{f:Hp}{L:jx},Inv (HA X d l mask s3 B (D::a)) [] m f L->(∀b∈D::a,f b=Js)->L.1.get? D=Jr { cls:=.type "list",dict:=Js,data:=.seq k.toArray nL } ->
    Inv (HA X d l mask s3 B (D::a)) [(D,{ cls:=.type "list",dict:=Js,data:=.seq k.toArray nL })] m f L:=λ{m f L} I' fr' e' =>
   I'.pins_of λp E=>by
    have e:p=(D,{ cls:=.type "list",dict:=Js,data:=.seq k.toArray nL }):=by simpa using E
    subst e;exact#[e',fr' D QD,DX.1,J0.ok.exfs D QD,λv z=>by cases z]
  have P:∀p∈[(D,({ cls:=.type "list",dict:=Js,data:=.seq k.toArray nL }:Obj))],p.1∉a:=λp E=>by
   have e:p=(D,{ cls:=.type "list",dict:=Js,data:=.seq k.toArray nL }):=by simpa using E
   subst e;exact Dfp
  have I5':=pinD I5 R lo;rcases turn i n G O H5 w5 with⟨stop,hz,qn⟩| ⟨go,step⟩
  refine LB (T.done (HA X d l mask s3 B (D::a)) rfl rfl rfl hc i _ s5 O H5 (λ_ _=>False) I5' (S R _ P) st5 stop) λr s6 #[hr,I6]=>?_;subst hr;let#[m6,hn6,_]:=I6.loc;have l6:s6.1.PlainList D k.toArray:=#[nL,(I6.pin _ (QS _ (QI.mpr rfl))).1]
  have I6':Inv (HA X d l mask s3 B (D::a)) [] O H5 s6:=I6.pins_of λp E=>by simp at E
  have Iout:Inv X j σ (XA H5 D (.lst G)) s6:=vT I3 hex QD I6' (R D QD) va5 hz l6 (QBi _ _);have lC:H5 s3.1.1.size=none:=I6'.free;refine fin D _ s6 s3.1.1.size Iout #[?_,wa I3.lt,I3.sz,λx c e z=>?_,λp E z=>?_,m6,hn6] (qn D (R D QD));rw[xA (λ(z:s3.1.1.size=D)=>h7 (hex D QD).2 (by rw[z];exact wq _))];exact lC;let#[v,q]:=I3.cell x c e;exact h7 q.lt (by rw[z];exact wq _);exact h7 (QR (I3.pin p E).1) (by rw[z];exact wq _);refine LB (T.item (HA X d l mask s3 B (D::a)) rfl rfl rfl hc i _ s5 O H5 (λ_ _=>False) I5' (S R _ P) st5 go) λr s6 #[u,hr,h6]=>?_;subst hr;refine LB h6 λ_ s7 #[x,H7,I7,r7,y7,st7,fr7]=>?_;have hD7:=(I7.pin _ (QS _ (QI.mpr rfl)))
  have fr7':∀b∈D::a,H7 b=none:=λb hb=>by rcases QK.mp hb with z|z;subst z;exact hD7.2.1;exact fr7 b z
  have I7':=I7.pinned (S fr7' _ P) (T.obj _ _ st7);have bk:∀{m:St}{f:Hp}{L:jx},Inv (HA X d l mask s3 B (D::a)) ([(D,{ cls:=.type "list",dict:=Js,data:=.seq k.toArray nL })]++gK a s7.1) m f L ->
    L.1.get? D=Jr { cls:=.type "list",dict:=Js,data:=.seq k.toArray nL }/\tn (i+1) L.1/\(∀b∈D::a,f b=Js):=λ{m f L} I'=>by
   have hD:=I'.pin (D,{ cls:=.type "list",dict:=Js,data:=.seq k.toArray nL }) (QS _ (Qg _ (QI.mpr rfl)));refine#[hD.1,T.keep _ _ _ st7 λb hb o e=>(I'.pin (b,o) (QS _ (QS _ (YE hb e)))).1,λb hb=>?_];rcases QK.mp hb with z|z;subst z;exact hD.2.1;let#[o,e,_]:=T.obj _ _ st7 b z;exact(I'.pin (b,o) (QS _ (QS _ (YE z e)))).2.1
  refine LB (pg _ s7 O H7 x u _ I7' r7 (step x H7 y7)) λ_ s8 #[M,H8,I8,q8]=>?_;refine LB (pf _ s8 M H8 _ I8 q8) λok s9 #[H9,I9,q9]=>?_;cases ok with
  |false=>let#[m',hm,w']:=q9;let#[b1,b2,b3]:=bk I9;exact#[m',hm,i+1,M,H9,G,k,I9.pins_of λp E=>by simp at E,b2,b3,va5,#[nL,b1],w']|true =>
   refine LB (pl _ s9 M H9 _ I9 q9) λy s10 #[yv,H10,I10,r10,hz,m',hm,w']=>?_;let#[b1,b2,b3]:=bk I10;have hlen:=va5.9;refine wpAny_list_append_plain (hsz:=by rw[QT];omega) (show s10.1.PlainList D k.toArray from#[nL,b1]) λh11 hl11 hs11=>?_;refine#[m',hm,i+1,M,H10,G++[yv],k++[y],?_,T.keep _ _ _ b2 λb hb o e=>(hs11.2 b (λz=>Dfp (z▸hb))).trans e,b3,va5.append (.cons r10 .nil),by simpa using hl11,w'];have I10':Inv (HA X d l mask s3 B (D::a)) [] M H10 s10:=I10.pins_of λp E=>by simp at E
   exact I10'.turned (t':=s10.toks) (λb o hb e=>(hs11.2 b hb).trans e) (b3 D QD) DX.1 (.inl QD) DX.2 λp E=>by simp[HA]at E
 refine codeAny_compStart_list (loop _ rfl) (T.self X.A 0 _ _ _ (T.keep _ _ _ (T.keep _ _ _ st2 λb hb o e=>old3 b o e) λb hb o e=>kept b o e) (loop _ rfl))
theorem LK{σ:St}{H:Hp}{F:jv}(I:Inv X j σ H s)(f:Ak X j H s F){h':j0}(hs:qS F s.1 h'):Inv X j σ H { s with heap:=h' }:=by let#[u,z,y,x,h,_]:=f;exact I.turned (t':=s.toks) (λb o hb e=>(hs.2 b hb).trans e) u z (.inr y) x h
theorem G6(hc:X.calm=Jt)(v:PI X V Y K)(C:CompSt X.N X.env.scope d l mask)
  (y:∀s H ex,PG (HA X d l mask s H ex) V g/\Hk (HA X d l mask s H ex) Z tc/\PE (HA X d l mask s H ex) U te)
  (hs:∀x,ku Y X.env x=hT x:=by intro _;rfl):PE X (.ListComp U [#[V,Y,Z,0]] d pos) (dY K g tc te l.9 mask):=by
 intro j s a H Q I h;rw[eval_ListComp];refine GQ hc v C y hs I h λD k b F w f q=>?_;let#[m,u]:=f.2.2.2.2.2;exact#[m,u,λe z=>#[.ref D,k,LK w f z,rfl,q]]
theorem i6{cpos u:Pos}{i:Nat}{x:Str}(hc:X.calm=Jt)(Q:X.N.Nodup)(n:X.N[i]?=Jr x)(p:X.env.scope.names.lookup x=Jr .local)
  (O:PI X V Y K) (C:CompSt X.N X.env.scope d l mask)
  (y:∀s H ex,PG (HA X d l mask s H ex) V g/\Hk (HA X d l mask s H ex) Z tc/\PE (HA X d l mask s H ex) U te)
  (hs:∀x,ku Y X.env x=hT x) (k:v2 (.ListComp U [#[V,Y,Z,0]] d cpos) (Jr (.Name x u)) pos.line X.env=hT Jt) :
  PS X (.Assign [.Name x u] (.ListComp U [#[V,Y,Z,0]] d cpos) pos) (Vc (dY K g tc te l.9 mask) (hV i)):=by
 intro j s σ H D0 I h;rw[exec_Assign_Name_used _ _ _ _ k];refine QA (QC1 (QA ?_));show jy _ X.A (do let _ <- zw (.ListComp U [#[V,Y,Z,0]] d cpos) d X.env _ (gx []) Ju (kb Y X.env) (Jr (Xu (.Name x u) X.env))) _ _ s;refine QA (WD (GQ (use:=Jr (Xu (.Name x u) X.env)) (QQ:=λ_ o=>SP X j D0 .next o) hc O C y hs I h λD H' G F I6 f q=>?_) (λ_ o L=>QH (QH L)) λ_ _ e=>e);show jy _ X.A (Xu (.Name x u) X.env (.ref D)) _ _ G;refine QDF (LL I6 Q n (.inl p) (v:=.ref D) rfl (λE I7 #[a,B,P]=>?_) (.inr p));let#[f0,W,S,r,R,m,M]:=f;have J:F≠a:=by rcases P with z|z;rw[z];exact W;exact λe=>r x a z e.symm
 have w:E.1.Ns F m:=M.sameBut B J;exact#[m,w,λh' b=>#[_,H',LK I7 #[f0,W,S,r,R,m,w] b,q]]
end
end L2
namespace L2.L3
open PySem PySem.Spec PyProof.Rows
def ai(K:QE):R2:=λx y H Q=>match x,y with
 | .int i,.int j=>Q (.int (i+j)) H|.str a,.str b=>a.9+b.9<=jz/\Q (.str (a++b)) H|.ref a,.ref b=>(∃z h,gC K H a z/\gC K H b h/\z.9+h.9<=jz/\∀p,H p=Js->Q (.ref p) (XA H p (.lst (z++h))))∨J9 K (.ref a) (.ref b) H Q|_,_=>False
noncomputable def Oh:R2:=λx y H Q=>match x,y with
 | .int i,.int j=>Q (.int (i - j)) H|_,_=>False
def hG(x:Str)(n:Int):Str:=Txt.mul x n
def Ih(K:QE):R2:=λx y H Q=>match x,y with
 | .int i,.int j=>Yy i j/\Q (.int (i * j)) H|.str a,.int k=>(-(2 ^ 31)<=k/\k<2 ^ 31/\a.9 * k.toNat<=jz)/\Q (.str (hG a k)) H|.ref a,.int k=>Eh (.ref a) (.int k) H Q|_,_=>False
noncomputable def i9:R2:=λx y H Q=>match x,y with
 | .int i,.int j=>(0<j/\j<2 ^ 200)/\Q (.int (i / j)) H|_,_=>False
noncomputable def ji:R2:=λx y H Q=>match x,y with
 | .int i,.int j=>0<j/\Q (.int (i % j)) H|_,_=>False
section
variable{X:Cx}
theorem op_add:sE X (kd .Add) (ai X.K):=by
 intro z s g H x y v u Q I f e h;cases x with
 |int i =>
  cases y with|int j=>exact _root_.L2.op_add z s g H _ _ v u Q I f e #[i,j,rfl,rfl,h]|_=>exact Qj h
 |str a =>
  cases y with|str b=>exact bS z s g H _ _ v u Q I f e #[a,b,rfl,rfl,h.1,h.2]|_=>exact Qj h
 |ref a =>
  cases y with
  |ref b =>
   rcases h with⟨xs,ys,N,M,hz,q⟩| h;cases f;cases e;let#[k,r,#[#[S,R,A,G],L,W,E,d1,p],z1]:=I.list N;let#[w,Y,#[#[B,m,n,l],J,Z,C,d2,o],z2]:=I.list M;simp only at E p C o;subst E p C o;have hl:=r.9;have O:=Y.9;refine QDT #[_,W,rfl] #[_,Z,rfl] noFill_list_add seq_list_add PySem.F.slot_list_add PySem.F.entry_list_add (PySem.F.args_list_add_2 _ _) (list_addW a b k.toArray w.toArray L J R m G l (by simp;omega)) #[W,Z,?_];have P:k.toArray++w.toArray=(k++w).toArray:=by simp
   rw[P];exact#[.ref _,_,I.lnew (t':=s.toks) (r.append Y) (by rw[QM];omega),rfl,q _ I.fresh];exact A6 z s g H _ _ v u Q I f e h
  |_=>exact Qj h
 |_=>exact Qj h
theorem op_sub:sE X (kd .Sub) Oh:=by
 intro z s w H x y v u Q I a k h;cases x with
 |int i =>
  cases y with|int j=>exact _root_.L2.op_sub z s w H _ _ v u Q I a k #[i,j,rfl,rfl,h]|_=>exact Qj h
 |_=>exact Qj h
theorem T6:sE X (kd .FloorDiv) i9:=by
 intro z s a H x y v u Q I k w h;cases x with
 |int i =>
  cases y with
  |int j =>
   let#[t,rfl]:=k;let#[b,rfl]:=w;let#[#[f,e],q]:=h;refine floordiv_int () ?_ (.inl (PyProof.noPylong_of_log2 ?_));rw[Int.fdiv_eq_ediv_of_nonneg i ()];exact#[.int _,H,I.tok _,#[_,rfl],q];have:j.natAbs<2 ^ 200:=()
   have:=(Nat.log2_lt (show j.natAbs≠0 by omega)).mpr this;omega
  |_=>exact Qj h
 |_=>exact Qj h
theorem op_mod:sE X (kd .Mod) ji:=by
 intro z s w H x y v u Q I a k h;cases x with
 |int i =>
  cases y with|int j=>exact _root_.L2.op_mod z s w H _ _ v u Q I a k #[i,j,rfl,rfl,h.1,h.2]|_=>exact Qj h
 |_=>exact Qj h
theorem Td:sE X (kd .Mult) (Ih X.K):=by
 intro z s l H x y v u Q I f w h;cases x with
 |int i =>
  cases y with|int j=>let#[t,rfl]:=f;let#[g,rfl]:=w;exact mul_int #[.int _,H,I.tok _,#[_,rfl],h.2] h.1|_=>exact Qj h
 |str a =>
  cases y with
  |int k =>
   let#[t,rfl]:=f;let#[g,rfl]:=w;let#[#[Y,r,p],q]:=h;refine SB.mul #[?_,λ_ _=>?_,λ_ _=>?_] λg o=>#[.str (hG a k),H,I.tok _,#[_,rfl],q]
   have n:decide (k < -(2 ^ 63:Int))=false:=dF ();have m:decide (k ≥ 2 ^ 63)=false:=dF ();rw[n,m];rfl;have e:(a.9:Int) * k=((a.9 * k.toNat:Nat):Int):=by rw[Int.natCast_mul,Int.toNat_of_nonneg ()]
   have:=Int.le_ediv_of_mul_le (a:=(a.9:Int)) (b:=2 ^ 63 - 1) (c:=k) () (by rw[e];omega);omega;unfold Builtin.Str.tooLong;exact dF ()
  |_=>exact Qj h
 |ref a =>
  cases y with|int k=>exact Sd z s l H _ _ v u Q I f w h|_=>exact Qj h
 |_=>exact Qj h
end
end L2.L3
namespace L2
open PySem PySem.Spec PyProof.Rows
section
variable{κ:Type}[DecidableEq κ]
section
variable{p:κ×V}{r kvs:List (κ×V)}{vs:List (κ×Jw)}{u:Jw}
noncomputable def BJ(kvs:List (κ×V))(k:κ):Option V:=(kvs.find? λh=>decide (h.1=k)).map (·.2)
noncomputable def jS(kvs:List (κ×V))(k:κ)(v:V):List (κ×V) :=
 if(kvs.any λh=>decide (h.1=k))=Jt then kvs.map (λh=>if h.1=k then(h.1,v) else h) else kvs++[(k,v)]
theorem XJ{k:κ}(e:p.1=k):BJ (p::r) k=Jr p.2:=by simp[BJ,wy,e]
theorem UJ{k:κ}(e:¬ p.1=k):BJ (p::r) k=BJ r k:=by simp[BJ,wy,e]
theorem zP(k:κ):∀kvs:List (κ×V),(kvs.any λh=>decide (h.1=k))=(BJ kvs k).isSome
 |[]=>rfl|p::r=>by rw[W0];by_cases e:p.1=k;simp only[XJ e,dT e,QDR,Option.isSome_some];rw[UJ e,dF e,QBr];exact zP k r
theorem lQ(kvs:List (κ×V))(k:κ)(v:V):(jS kvs k v).9<=kvs.9+1:=by unfold jS;split;rw[QF];omega;rw[QM,QL,Qr];omega
theorem uR.isSome_eq{o:Option V}{u:Option Jw}(r:uR o u):o.isSome=u.isSome:=by
 cases o with
 |none=>cases u with|none=>rfl|some _=>exact(show False from r).elim
 |some _=>cases u with|none=>exact(show False from r).elim|some _=>rfl
theorem KV.val(r:KV kvs vs)(k:κ):uR (BJ kvs k) (xu vs k):=by
 unfold KV at r;induction r with
 |nil=>exact True.intro|@cons p q f x h t w =>
  let#[v,a]:=h;by_cases e:p.1=k;have y:q.1=k:=v.symm.trans e;have b:xu (q::x) k=Jr q.2:=by simp[xu,wy,y]
  rw[XJ e,b];exact a;have y:¬ q.1=k:=λz=>e (v.trans z);have b:xu (q::x) k=xu x k:=by simp[xu,wy,y]
  rw[UJ e,b];exact w
theorem KV.any(r:KV kvs vs)(k:κ):(kvs.any λx=>decide (x.1=k))=vs.any λx=>decide (x.1=k):=by
 unfold KV at r;induction r with|nil=>rfl|cons h t y=>rw[W0,W0,y,h.1]
theorem KV.repl(r:KV kvs vs)(k:κ){y:V}(w:nA y u) :
  KV (kvs.map λx=>if x.1=k then(x.1,y) else x) (vs.map λx=>if x.1=k then(x.1,u) else x):=by
 unfold KV at r ⊢;induction r with|nil=>exact .nil|@cons p q g f h t a=>rw[QU,QU];refine .cons ?_ a;let#[v,b]:=h;by_cases e:p.1=k;rw[hQ e,hQ (v.symm.trans e)];exact#[v,w];rw[hI e,hI (λz=>e (v.trans z))];exact#[v,b]
theorem KV.put(r:KV kvs vs)(k:κ){y:V}(h:nA y u):KV (jS kvs k y) (stored vs k u):=by unfold jS stored;rw[r.any k];by_cases e:(vs.any λx=>decide (x.1=k))=Jt;rw[hQ e,hQ e];exact r.repl k h;rw[hI e,hI e];exact Paired.snoc r #[rfl,h]
theorem KV.length(r:KV kvs vs):kvs.9=vs.length:=qt r
end
end
theorem OI{P:jt}{w:jw}{k:Key}{u:Jw}(r:nA (kV k) u):(vB P w).is k u=true:=by
 cases k with|inl i=>let#[t,e]:=(show ∃t,u=Value.int i t from r);subst e;exact uQ P w i t|inr x=>let#[t,e]:=(show ∃t,u=Value.str x t from r);subst e;exact xQ P w x t
theorem mM{P:jt}{w:jw}:∀{ks:List Key}{us:LW},bA (ks.map kV) us->ItemsAre (vB P w) ks us
 |[],_,r=>by rw[we]at r;cases r;exact .nil|k::ks,_,r=>by
  rw[QU]at r;cases r with|cons h t=>exact .cons (OI h) (mM t)
end L2
namespace L2.L3
open PySem PySem.Spec PyProof.Rows
section
variable{r kvs:List KE}{k:List Key}{xs:List (List Key×jv×Jw)}
noncomputable abbrev KE:=List Key×jv×V
noncomputable def gG(kvs:List KE)(k:List Key):Option V:=(kvs.find? λp=>decide (p.1=k)).map (·.2.2)
def zK(kvs:List KE)(k:List Key)(b:jv)(v:V):List KE :=
 if(gG kvs k).isSome=Jt then kvs.map (λp=>if p.1=k then(p.1,p.2.1,v) else p) else kvs++[(k,b,v)]
noncomputable abbrev KD:List KE->List (List Key×jv×Jw)->Prop:=Kv λ(p:List Key×jv×V) (q:List Key×jv×Jw)=>p.1=q.1/\p.2.1=q.2.1/\nA p.2.2 q.2.2
theorem kP{p:KE}(e:p.1=k):gG (p::r) k=Jr p.2.2:=by simp[gG,wy,e]
theorem vP{p:KE}(e:¬ p.1=k):gG (p::r) k=gG r k:=by simp[gG,wy,e]
theorem KD.val(r:KD kvs xs)(k:List Key):uR (gG kvs k) ((Xs xs k).map (·.2)):=by
 induction r with
 |nil=>exact True.intro|@cons p q a x h t v =>
  let#[u,_,w]:=h;by_cases e:p.1=k;have y:q.1=k:=u.symm.trans e;have b:Xs (q::x) k=Jr q.2:=by simp[Xs,wy,y]
  rw[kP e,b];exact w;have y:¬ q.1=k:=λz=>e (u.trans z);have b:Xs (q::x) k=Xs x k:=by simp[Xs,wy,y]
  rw[vP e,b];exact v
theorem KD.put(r:KD kvs xs)(k:List Key)(b:jv){y:V}{u:Jw}(v:nA y u):KD (zK kvs k b y) (gy xs k b u):=by
 have e:(gG kvs k).isSome=(Xs xs k).isSome:=by rw[(r.val k).isSome_eq,QBj]
 unfold zK gy;rw[e];by_cases q:(Xs xs k).isSome=Jt;rw[hQ q,hQ q];clear e q;induction r with|nil=>exact .nil|@cons p q i g h t a=>rw[QU,QU];refine .cons ?_ a;let#[x,w,f]:=h;unfold putAt;by_cases e:p.1=k;rw[hQ e,hQ (x.symm.trans e)];exact#[x,w,v];rw[hI e,hI (λz=>e (x.trans z))];exact#[x,w,f]
 rw[hI q,hI q];exact Paired.snoc r #[rfl,rfl,v]
theorem mQ(kvs:List KE)(k:List Key)(b:jv)(v:V):(zK kvs k b v).9<=kvs.9+1:=by unfold zK;split;rw[QF];omega;rw[QM,QL,Qr];omega
def LF(K:QE)(H:Hp)(kvs:List KE):Prop:=∀p∈kvs,TC K H p.2.1 (p.1.map kV)
theorem Inv.big{X:Cx}{x:MB}{σ:St}{H:Hp}{s:jx}(I:Inv X x σ H s):Kt<s.1.1.size:=by have h:ju<s.1.1.size:=(I.mod.glob.keeps I.bk).lt;exact QDW (by decide) h
end
section
variable{X:Cx}{u:MB}{σ:St}{H:Hp}{s:jx}{a b:jv}
theorem XS{k:List Key}(I:Inv X u σ H s)(h:TC X.K H b (k.map kV)):(vx (vB X.prog X.w)).is s.1 k b:=by let#[x,r,#[o,v,z,n,y],_]:=I.tuple h;exact#[o,x.toArray,n,v,z,y,by simpa using mM r]
theorem SI{ep:Nat}{kvs:List KE}(I:Inv X u σ H s)(e:H a=Jr (.dT ep kvs))(hk:LF X.K H kvs):kvs.9<=jz/\(a==Kt)=Ju/\∃xs,KD kvs xs/\s.1.DictOfH (vx (vB X.prog X.w)) a xs:=by
 let#[z,y,xs,r,o,n,m,l,j,f,k]:=(show VA X.prog X.w H s.1 a (.dT ep kvs) from I.hok a _ e)
 refine#[z,y,xs,r,o,n,ep,m,l,j,f,?_,k];clear f k z e;induction r with
 |nil=>intro x h;exact nomatch h
 |@cons p q Z Y v t g=>intro x h;rcases QK.mp h with e|h;subst e;rw[<- v.1,<- v.2.1];exact XS I (hk p QD);exact g (λp i=>hk p (QC _ i)) x h
theorem BQ{kvs:List (Key×V)}(I:Inv X u σ H s)(e:H a=Jr (.dK kvs)):kvs.9<=jz/\(a==Kt)=Ju/\∃vs,KV kvs vs/\s.1.DictOf (vB X.prog X.w) a vs :=
 show VA X.prog X.w H s.1 a (.dK kvs) from I.hok a _ e
end
theorem G3{X:Cx}{h:MB}{σ:St}{H:Hp}{s:jx}{a:jv}{ep:Nat}(I:Inv X h σ H s)(e:H a=Jr (.dT ep [])):(a==Kt)=Ju/\s.1.DictOf (vB X.prog X.w) a []:=by
 let#[z,y,g,r,o,f,b,k,v,u,i]:=(show VA X.prog X.w H s.1 a (.dT ep []) from I.hok a _ e)
 cases r;have x:f=#[]:=by apply QAu.mp;simpa using u
 subst x;exact#[y,o,#[],ep,b,k,v,λe x=>by simp at x,.nil,Qo]
def kD:Key->Ks
 | .inl i=>.int i|.inr x=>.str x
def tD(k:List Key):PyData:=.tuple (k.map kD)
theorem US{a b:Key}(e:kD a=kD b):a=b:=by
 cases a with
 |inl i=>cases b with|inl j=>injection e with e;rw[e]|inr y=>exact nomatch (show Jy i=Jx y from e)
 |inr x=>cases b with
  |inl j=>exact nomatch (show Jx x=Jy j from e)
  |inr y=>injection e with e;rw[e]
theorem jV:∀{a b:List Key},a.map kD=b.map kD->a=b
 |[],[],_=>rfl|[],_::_,e=>by simp at e|_::_,[],e=>by simp at e|x::xs,y::ys,e=>by rw[QU,QU]at e;injection e with e1 e2;rw[US e1,jV e2]
theorem cY{a b:List Key}(e:tD a=tD b):a=b:=by injection e with e;exact jV e
def CI(K:QE)(H:Hp)(b:Bool)(o:HO)(ks:List Ks)(vs:LV):Prop:=match b with
 |true=>∃x,∃h:List KE,o=.dT x h/\ks=h.map (λp=>tD p.1)/\vs=h.map (·.2.2)/\LF K H h/\(h.map (·.1)).Nodup|false=>(∃h:List (Key×V),h≠[]/\o=.dK h/\ks=h.map (λp=>kD p.1)/\vs=h.map (·.2)/\(h.map (·.1)).Nodup)∨∃x,o=.dT x []/\ks=[]/\vs=[]
theorem CI.len{K:QE}{H:Hp}{b:Bool}{o:HO}{ks:List Ks}{vs:LV}(h:CI K H b o ks vs):ks.9=vs.length:=by
 cases b with|true=>let#[y,x,_,rfl,rfl,_]:=h;simp|false=>rcases h with⟨x,_,_,rfl,rfl,_⟩| ⟨_,_,rfl,rfl⟩<;>simp
def NO(K:QE)(H:Hp)(a:jv)(y:V)(r:Option V):Prop:=match y with
 | .str z=>(∃h,H a=Jr (.dK h)/\r=BJ h (.inr z))∨∃x,H a=Jr (.dT x [])/\r=Js|.ref b=>∃x h k,H a=Jr (.dT x h)/\LF K H h/\TC K H b (k.map kV)/\r=gG h k|_=>False
def Zg(K:QE)(H:Hp)(a:jv)(y v:V)(Q:Hp->Prop):Prop:=match y with
 | .str z=>(∃h,H a=Jr (.dK h)/\h.9<jz/\Q (XA H a (.dK (jS h (.inr z) v))))∨∃u,H a=Jr (.dT u [])/\Q (XA H a (.dK [(.inr z,v)]))|.ref b=>∃u h k,H a=Jr (.dT u h)/\LF K H h/\TC K H b (k.map kV)/\h.9<jz/\∀x,Q (XA H a (.dT x (zK h k b v)))|_=>False
theorem AL{v:V}{o:Option Jw}(r:uR (Jr v) o):∃w,o=Jr w/\nA v w:=by
 cases o with|none=>exact(show False from r).elim|some w=>exact#[w,rfl,r]
section
variable{X:Cx}
section
variable{c:MB}{s:jx}{σ:St}{H:Hp}{a:jv}{u:Jw}{o:Option V}{h':j0}{pos:Pos}
theorem k8(O:X.A.units+66<kx):E4 X (λx y H Q=>∃a v,x=.ref a/\NO X.K H a y (Jr v)/\Q v H):=by
 intro n Y c s σ H x y v u Q I G C h hs;let#[a,r,rfl,g,q]:=h;cases G;cases y with
 |str z =>
  rcases g with⟨W,e,l⟩| ⟨M,e,l⟩
  rotate_left
  cases l;let#[_,L,F,f,m]:=BQ I e;let#[i,B,w]:=AL (v:=r) (o:=xu F (.inr z)) (by rw[l];exact f.val _);exact Wo (x:=i) m.typeIs QBX.lookup
   (wpAny_getItem_of (Q:=λr Z=>r=i/\EP X c σ Q r Z) (OI (k:=.inr z) C) m.mapOf B #[rfl,r,H,I.tok _,w,q]) hs
 |ref b =>
  let#[M,W,k,e,hk,N,l]:=g;cases C;let#[_,L,E,f,m]:=SI I e hk;let#[i,B,w]:=AL (v:=r) (o:=(Xs E k).map (·.2)) (by rw[l];exact f.val _);let#[p,J,j]:=w9.mp B;refine Wo (x:=i) m.typeIs QBX.lookup
   (wpAny_getItem_heap (Q:=λr Z=>r=i/\EP X c σ Q r Z) (Wr ()) (XS I N) m J ?_) hs
  exact#[j,r,H,I.tok _,by rw[j];exact w,q]
 |_=>exact Qj g
theorem f8(r:X.A.units+66<kx){y:V}{Q:VK}(I:Inv X c σ H s)(f:nA y u)(g:NO X.K H a y o)(q:Q (.bl o.isSome) H) :
  jy (js X.prog X.w) X.A (Kx .In u (.ref a)) (EP X c σ Q) X.xe s:=by
 cases y with
 |str z =>
  rcases g with⟨i,e,l⟩| ⟨j,e,l⟩
  rotate_left
  subst l;let#[x,v]:=G3 I e;exact wpAny_in_of (OI (k:=.inr z) f) x v.mapOf #[.bl Ju,H,I.tok _,rfl,q];let#[_,x,p,h,v]:=BQ I e;refine wpAny_in_of (OI (k:=.inr z) f) x v.mapOf #[.bl o.isSome,H,I.tok _,?_,q];rw[<- (h.val (.inr z)).isSome_eq,<- l];rfl
 |ref b=>let#[j,i,k,e,hk,m,l]:=g;cases f;let#[_,x,n,h,v]:=SI I e hk;refine wpAny_in_heap (Wr ()) (XS I m) x v #[.bl o.isSome,H,I.tok _,?_,q];have q:=(h.val k).isSome_eq;rw[QBj]at q;rw[<- q,<- l];rfl|_=>exact Qj g
theorem pS(r:X.A.units+66<kx){y:V}{Q:VK}(I:Inv X c σ H s)(f:nA y u)(g:NO X.K H a y o)(q:Q (.bl (!o.isSome)) H) :
  jy (js X.prog X.w) X.A (Kx .NotIn u (.ref a)) (EP X c σ Q) X.xe s:=by
 cases y with
 |str z =>
  rcases g with⟨i,e,l⟩| ⟨j,e,l⟩
  rotate_left
  subst l;let#[x,v]:=G3 I e;exact y4 (OI (k:=.inr z) f) x v.mapOf #[.bl Jt,H,I.tok _,rfl,q];let#[_,x,p,h,v]:=BQ I e;refine y4 (OI (k:=.inr z) f) x v.mapOf #[.bl (!o.isSome),H,I.tok _,?_,q];rw[<- (h.val (.inr z)).isSome_eq,<- l];rfl
 |ref b=>let#[j,i,k,e,hk,m,l]:=g;cases f;let#[_,x,n,h,v]:=SI I e hk;refine wpAny_notIn_heap (Wr ()) (XS I m) x v #[.bl (!o.isSome),H,I.tok _,?_,q];have q:=(h.val k).isSome_eq;rw[QBj]at q;rw[<- q,<- l];rfl|_=>exact Qj g
theorem fO{t':Nat}{h:HO}(I:Inv X c σ H s)(y:Dg (H a))(hs:qS a s.1 h')(v:∃q,h'.get? a=Jr q)(new:VA X.prog X.w (XA H a h) h' a h) :
  Inv X c σ (XA H a h) { s with heap:=h',toks:=t' } :=
 I.write (x:=a) (e:=a) y (.inl rfl) (λb q hb z=>(hs.2 b hb).trans z) v new
theorem SK{t':Nat}{kvs:List KE}{xs:List (List Key×jv×Jw)}(I:Inv X c σ H s)(y:Dg (H a))(z:(a==Kt)=Ju)(hz:kvs.9<=jz)(h:KD kvs xs)
  (g:h'.DictOfH (vx (vB X.prog X.w)) a xs) (hs:qS a s.1 h'):∃ep,Inv X c σ (XA H a (.dT ep kvs)) { s with heap:=h',toks:=t' }:=by
 let#[q,f,ep,x,e,b,k,_,v]:=g;exact#[ep,fO I y hs #[q,x] #[hz,z,xs,h,q,f,x,e,b,k,v]]
def setD(K:QE)(o y v:V)(H:Hp)(Q:Hp->Prop):Prop:=match o with
 | .ref a=>Zg K H a y v Q|_=>False
theorem rP(L:X.A.units+66<kx):k9 X (setD X.K):=by
 intro c s σ H o y v G J u Q I Z m j h;cases o with
 |ref a =>
  cases Z;cases y with
  |str z =>
   rcases h with⟨f,e,l,q⟩| ⟨W,e,q⟩
   rotate_left
   let#[g,i]:=G3 I e;refine QCp (hsz:=Q5 _) (OI (k:=.inr z) m) i λh' x hs=>#[_,?_,q]
   have r:∃q,h'.get? a=Jr q:=let#[q,_,_,p,_]:=x;#[q,p]
   exact fO I (by rw[e];exact True.intro) hs r #[by simp;decide,g,_,.cons #[rfl,j] .nil,x];let#[n,g,F,w,i]:=BQ I e;have hl:(jS f (.inr z) v).9<=sizeLine:=by have:=lQ f (.inr z) v;omega
   refine QCp (hsz:=by rw[<- w.9];exact n) (OI (k:=.inr z) m) i λh' x hs=>#[_,?_,q]
   have r:∃q,h'.get? a=Jr q:=let#[q,_,_,p,_]:=x;#[q,p]
   exact fO I (by rw[e];exact True.intro) hs r #[hl,g,_,w.put _ j,x]
  |ref b =>
   let#[W,f,k,e,hk,B,l,q]:=h;cases m;let#[n,g,E,w,i]:=SI I e hk;have hl:(zK f k b v).9<=sizeLine:=by have:=mQ f k b v;omega
   refine wpAny_setItem_heap (hsz:=by rw[<- qt w];exact n) (Wr ()) (XS I B) i λh' x hs=>?_;let#[Y,C]:=SK (t':=_) I (by rw[e];exact True.intro) g hl (w.put k b j) x hs;exact#[_,C,q Y]
  |_=>exact Qj h
 |_=>exact Qj h
theorem aa{P:jt}{w:jw}(h:j0)(hb:Kt<h.1.size):VA P w H (h.push { cls:=.type "dict",data:=.dict #[] }) h.1.size (.dT 0 []) :=
 #[Q5 _,beq_eq_false_iff_ne.mpr (qC (Qc hb)),[],.nil,_,#[],QO _ rfl,#[rfl,rfl,rfl],rfl,rfl,Qo]
theorem F6:PE X (.Dict [] [] pos) (λ_ H Q=>∀p,H p=Js->Q (.ref p) (XA H p (.dT 0 []))):=λc s σ H Q I h =>
 wpAny_Dict_empty #[.ref s.1.1.size,_,I.laid (a:=s.1.1.size) (o:=.dT 0 []) (t':=s.toks) (λ_ _ q=>QJ _ q) (QX _) (aa s.1 (Inv.big I)),rfl,h _ (I.hok.fresh (QX _))]
theorem D6(S:X.A.units+66<kx){k v:Expr}{l j:TE}(hk:PE X k l)(hv:PE X v j) :
  PE X (.Dict [Jr k] [v] pos) (λσ H Q=>∀p,H p=Js->l σ (XA H p (.dT 0 [])) λy i=>j σ i λv h=>h p=Jr (.dT 0 [])/\∃b ks,y=.ref b/\TC X.K h b (ks.map kV)/\∀ep,Q (.ref p) (XA h p (.dT ep [(ks,b,v)]))):=by
 intro c s σ H Q I q;have C:=I.hok.fresh (QX s.1.1.size);have M:=I.laid (a:=s.1.1.size) (o:=.dT 0 []) (h':=s.1.push { cls:=.type "dict",data:=.dict #[] }) (t':=s.toks) (λ_ _ q=>QJ _ q) (QX _) (aa s.1 (Inv.big I));refine wpAny_Dict_any rfl rfl (by simp) (by simp) (pairTrees_cons_walk (LB (hk c _ σ _ _ M (q _ C)) λu n #[y,i,L,Y,W]=>LB (hv c n σ i _ L W) λm P #[z,h,g,r,e,b,ks,F,G,Z]=>pairTrees_nil_walk ?_));subst F;cases Y;let#[R,E,O,x,J]:=SI g e (λp B=>nomatch B);cases x;show jy _ _ (forIn [(Jv b,m)] PUnit.unit _) _ _ _;rw[QAS];refine QA (QA (wpAny_dictSet_heap (hsz:=Q5 _) (show X.A.units<kx by omega) (XS g G) J λh' f hs=>QH ?_));show jy _ _ (forIn ([]:List (Jw×Jw)) _ _) _ _ _;rw[QCi];let#[w,N]:=SK (t':=_) (kvs:=[(ks,b,z)]) g (by rw[e];exact True.intro) E (by simp;decide) (.cons #[rfl,rfl,r] .nil) f hs;exact QH #[.ref _,_,N,rfl,Z w]
end
end
mutual
inductive Rep(K:QE)(H:Hp):V->Ks->Prop where
 |non:Rep K H .non .none
 |bl (b:Bool):Rep K H (.bl b) (.bool b)
 |int (i:Int):Rep K H (.int i) (.int i)
 |str (x:Str):Rep K H (.str x) (.str x)
 |lst {a:jv}{xs:LV}{ds:List Ks}:gC K H a xs->Reps K H xs ds->Rep K H (.ref a) (.list ds)
 |tup {a:jv}{xs:LV}{ds:List Ks}:TC K H a xs->Reps K H xs ds->Rep K H (.ref a) (.tuple ds)
 |dct {b:Bool}{a:jv}{o:HO}{ks:List Ks}{xs:LV}{ds:List Ks}:H a=Jr o->CI K H b o ks xs->Reps K H xs ds->Rep K H (.ref a) (.dict (ks.zip ds))
inductive Reps(K:QE)(H:Hp):LV->List Ks->Prop where
 |nil:Reps K H [] []
 |cons {x:V}{d:Ks}{xs:LV}{ds:List Ks}:Rep K H x d->Reps K H xs ds->Reps K H (x::xs) (d::ds)
end
section
variable{K:QE}{H:Hp}{R:LV->List Ks->Prop}{xs:LV}{ds:List Ks}
theorem Rep.both{P:V->Ks->Prop}(z:P .non .none)(v:∀b,P (.bl b) (.bool b))(int:∀i,P (.int i) (.int i))(str:∀x,P (.str x) (.str x))
    (lst:∀{a:jv}{xs:LV}{ds:List Ks},gC K H a xs->Reps K H xs ds->R xs ds->P (.ref a) (.list ds))
    (tup:∀{a:jv}{xs:LV}{ds:List Ks},TC K H a xs->Reps K H xs ds->R xs ds->P (.ref a) (.tuple ds))
    (dct:∀{b:Bool}{a:jv}{o:HO}{ks:List Ks}{xs:LV}{ds:List Ks},H a=Jr o->CI K H b o ks xs->Reps K H xs ds->R xs ds->P (.ref a) (.dict (ks.zip ds)))
    (u:R [] []) (y:∀{x:V}{d:Ks}{xs:LV}{ds:List Ks},Rep K H x d->Reps K H xs ds->P x d->R xs ds->R (x::xs) (d::ds)) :
    (∀{x:V}{d:Ks},Rep K H x d->P x d)/\∀{xs:LV}{ds:List Ks},Reps K H xs ds->R xs ds :=
  #[λh=>Rep.rec (motive_1:=λx d _=>P x d) (motive_2:=λx d _=>R x d) z v int str @lst @tup @dct u @y h,
   λh=>Reps.rec (motive_1:=λx d _=>P x d) (motive_2:=λx d _=>R x d) z v int str @lst @tup @dct u @y h]
theorem Reps.ind(z:R [] [])(y:∀{x:V}{d:Ks}{xs:LV}{ds:List Ks},Rep K H x d->R xs ds->R (x::xs) (d::ds))(h:Reps K H xs ds):R xs ds :=
 (Rep.both (P:=λ_ _=>True) trivial (λ_=>trivial) (λ_=>trivial) (λ_=>trivial) (λ_ _ _=>trivial) (λ_ _ _=>trivial) (λ_ _ _ _=>trivial) z λh _ _ r=>y h r).2 h
theorem Reps.length(h:Reps K H xs ds):xs.9=ds.length:=Reps.ind (R:=λxs ds=>xs.9=ds.9) rfl (λ_ e=>Fz Nat.succ e) h
end
section
variable{X:Cx}{l:MB}{σ:St}{H:Hp}{s:jx}
section
variable{kvs:List (Key×V)}{xs:List (List Key×jv×Jw)}{vs:List (Key×Jw)}
theorem ER{k:List Key}:∀{us:LW},bA (k.map kV) us->∃as,xy s.1 us (k.map kD) as:=by
 induction k with
 |nil=>intro us h;cases h;exact#[_,.nil]|cons x k y =>
  intro us h;cases h with
  |cons e r =>
   let#[as,q]:=y r;cases x with|inl i=>let#[t,rfl]:=e;exact#[_,.cons (.int i t) q]|inr x=>let#[t,rfl]:=e;exact#[_,.cons (.str x t) q]
theorem HY(I:Inv X l σ H s){kvs:List KE}(r:KD kvs xs)(hk:LF X.K H kvs):∃as,xy s.1 (xs.map λx=>.ref x.2.1) (kvs.map λp=>tD p.1) as:=by
 induction r with|nil=>exact#[_,.nil]|@cons p x _ _ h t v=>let#[as,q]:=v λp w=>hk p (QC _ w);let#[u,y,#[o,e,c,n,d],_]:=I.tuple (hk p QD);let#[bs,z]:=ER (s:=s) y;rw[h.2.1]at e;exact#[_,.cons (.tuple e c d (by simpa using z)) q]
theorem ZP{P:jt}{w:jw}{es:List Xx}(hk:KV kvs vs)(u:Pairs (vB P w) es vs):(∃as,xy s.1 (es.map (·.key)) (kvs.map λp=>kD p.1) as)/\es.map (·.val)=vs.map (·.2):=by
 unfold KV at hk;induction hk generalizing es with
 |nil=>cases u;exact#[#[_,.nil],rfl]|cons h t k =>
  cases u with
  |cons a b c =>
   let#[#[as,q],v]:=k c;refine#[?_,by rw[QU,QU,v,b]];rw[QU,QU];rw[<- h.1]at a;rcases MA a with⟨i,t,z,y⟩| ⟨x,t,z,y⟩
   rw[z,y];exact#[_,.cons (.int i t) q];rw[z,y];exact#[_,.cons (.str x t) q]
theorem L5{kvs:List KE}(r:KD kvs xs):bA (kvs.map (·.2.2)) (xs.map (·.2.2)):=by
 induction r with|nil=>exact .nil|cons h _ x=>exact .cons h.2.2 x
theorem G5(r:KV kvs vs):bA (kvs.map (·.2)) (vs.map (·.2)):=by
 induction r with|nil=>exact .nil|cons h _ x=>exact .cons h.2 x
theorem fX(I:Inv X l σ H s){b:Bool}{a:jv}{o:HO}{ks:List Ks}{xs:LV}(h:H a=Jr o)(q:CI X.K H b o ks xs):∃y es ep us,s.1.get? a=Jr y/\y.cls=.type "dict"/\y.dict=Js/\y.data=.dict es ep/\(a==Kt)=Ju /\
  (∃as,xy s.1 (es.toList.map (·.key)) ks as)/\bA xs us/\es.toList.map (·.val)=us:=by
 cases b with
 |true=>let#[f,kvs,rfl,rfl,rfl,hk,_]:=q;let#[_,w,g,x,y,es,ep,e,u,k,v,_]:=SI I h hk;refine#[y,es,ep,_,e,u.1,u.2.1,k,w,?_,L5 x,?_];rw[v,Qh];exact HY I x hk;rw[v,Qh];rfl|false =>
  rcases q with⟨kvs,_,rfl,rfl,rfl,_⟩| ⟨f,rfl,rfl,rfl⟩
  rotate_left
  let#[_,w,g,x,y,es,ep,e,u,k,v,_]:=SI I h λ_ z=>nomatch z;cases x;exact#[y,es,ep,[],e,u.1,u.2.1,k,w,#[_,by rw[v];exact .nil],.nil,by rw[v];rfl];let#[_,w,vs,x,y,es,ep,e,u,k,_,v,_]:=BQ I h;let#[j,i]:=ZP (s:=s) x v;exact#[y,es,ep,_,e,u.1,u.2.1,k,w,j,G5 x,i]
theorem Rep.reads2(I:Inv X l σ H s):(∀{x:V}{d:Ks},Rep X.K H x d->∀u,nA x u->∃as,Reads s.1 u d as)/\∀{xs:LV}{ds:List Ks},Reps X.K H xs ds->∀us,bA xs us->∃as,xy s.1 us ds as:=by
 refine Rep.both (P:=λx d=>∀u,nA x u->∃as,Reads s.1 u d as) (R:=λxs ds=>∀us,bA xs us->∃as,xy s.1 us ds as) (λu r=>?_) (λb u r=>?_) (λi u r=>?_) (λx u r=>?_) (λh q z u r=>?_) (λh q z u r=>?_) (λ{b a o v xs ds} h q r z u j=>?_) (λus r=>?_) λ_ _ p m us r=>?_;cases r;exact#[_,.none];cases r;exact#[_,.bool b];let#[t,rfl]:=r;exact#[_,.int i t];let#[t,rfl]:=r;exact#[_,.str x t];cases r;let#[f,w,#[o,n,e,c,_,d],_]:=I.list h;let#[as,y]:=z _ w;exact#[_,.list e c d (by simpa using y)];cases r;let#[f,w,#[o,e,c,n,d],_]:=I.tuple h;let#[as,y]:=z _ w;exact#[_,.tuple e c d (by simpa using y)];cases j;let#[G,M,N,us,C,B,L,A,J,#[as,W],Z,Y]:=fX I h q;let#[bs,k]:=z _ Z;have hl:v.9=ds.length:=by rw[q.len,Reps.length r]
 have F:(v.zip ds).map (λx=>x.1)=v:=QAv (QAp hl);have E:(v.zip ds).map (λx=>x.2)=ds:=QAw (QAp hl.symm);exact#[_,.dict C B A (by rw[F];exact W) (by rw[E,Y];exact k)];cases r;exact#[_,.nil];cases r with|cons r g=>let#[as,y]:=p _ r;let#[bs,k]:=m _ g;exact#[_,.cons y k]
theorem Rep.reads(I:Inv X l σ H s){x:V}{d:Ks}{u:Jw}(h:Rep X.K H x d)(r:nA x u):∃as,Reads s.1 u d as:=(Rep.reads2 I).1 h u r
def UD(d:Ks):Prop:=d.canLay0=Jt/\d.depth<=64
noncomputable def rEq(K:QE)(neg:Bool):R2:=λx y H Q=>match x,y with
 | .int i,.int j=>Q (.bl (if neg then !decide (i=j) else decide (i=j))) H|.str a,.str b=>Q (.bl (if neg then !decide (a=b) else decide (a=b))) H|.bl a,.bl b=>Q (.bl (if neg then !decide (a=b) else decide (a=b))) H|x,y=>∃z h,Rep K H x z/\Rep K H y h/\UD z/\UD h/\Q (.bl (if neg then !PyData.eqv z h else qE z h)) H
theorem op_eq(B:X.A.units+64<kx):sE X (Kx .Eq) (rEq X.K Ju):=by
 intro l s σ H x y v u Q I n m h;have z:(∃e k,Rep X.K H x e/\Rep X.K H y k/\UD e/\UD k/\Q (.bl (if Ju=Jt then !PyData.eqv e k else qE e k)) H)->jy (js X.prog X.w) X.A (Kx .Eq v u) (EP X l σ Q) X.xe s:=by rintro⟨e,k,g,f,⟨Y,W⟩,⟨r,Z⟩,q⟩;let#[C,p]:=g.reads I n;let#[bs,o]:=f.reads I m;exact SeqAt.compareEq_reads p o Y r () #[.bl _,H,I,rfl,q]
 have sc:x6 x y=Jt->Q (.bl (decide (x=y))) H->jy (js X.prog X.w) X.A (Kx .Eq v u) (EP X l σ Q) X.xe s:=λg f=>_root_.L2.op_eq l s σ H x y v u Q I n m #[g,f];cases x with
 |int i =>
  cases y with|int j=>exact sc rfl (by simpa[rEq]using h)|_=>exact z h
 |str a =>
  cases y with|str b=>exact sc rfl (by simpa[rEq]using h)|_=>exact z h
 |bl a =>
  cases y with|bl b=>exact sc rfl (by simpa[rEq]using h)|_=>exact z h
 |_=>exact z h
theorem op_ne(B:X.A.units+64<kx):sE X (Kx .NotEq) (rEq X.K Jt):=by
 intro l s σ H x y v u Q I n m h;have z:(∃e k,Rep X.K H x e/\Rep X.K H y k/\UD e/\UD k/\Q (.bl (if Jt=Jt then !PyData.eqv e k else qE e k)) H)->jy (js X.prog X.w) X.A (Kx .NotEq v u) (EP X l σ Q) X.xe s:=by rintro⟨e,k,g,f,⟨Y,W⟩,⟨r,Z⟩,q⟩;let#[C,p]:=g.reads I n;let#[bs,o]:=f.reads I m;exact SeqAt.compareNe_reads p o Y r () #[.bl _,H,I,rfl,q]
 have sc:x6 x y=Jt->Q (.bl (!decide (x=y))) H->jy (js X.prog X.w) X.A (Kx .NotEq v u) (EP X l σ Q) X.xe s:=λg f=>_root_.L2.op_ne l s σ H x y v u Q I n m #[g,f];cases x with
 |int i =>
  cases y with|int j=>exact sc rfl (by simpa[rEq]using h)|_=>exact z h
 |str a =>
  cases y with|str b=>exact sc rfl (by simpa[rEq]using h)|_=>exact z h
 |bl a =>
  cases y with|bl b=>exact sc rfl (by simpa[rEq]using h)|_=>exact z h
 |_=>exact z h
noncomputable def uW(f:Int->Int->Bool):R2:=λx y H Q=>match x,y with
 | .int i,.int j=>Q (.bl (f i j)) H|_,_=>False
theorem eN{z:vt}{f:Int->Int->Bool}(h0:sE X (Kx z) (g6 λi j=>.bl (f i j))):sE X (Kx z) (uW f):=by
 intro l s σ H x y v u Q I k w h;cases x with
 |int i =>
  cases y with|int j=>exact h0 l s σ H _ _ v u Q I k w #[i,j,rfl,rfl,h]|_=>exact Qj h
 |_=>exact Qj h
noncomputable def inStr(b a:Str):Bool:=match a.cps.toList with
 |[c]=>decide (c∈b.cps.toList)|_=>!(Wc b a 0 b.9 1).isEmpty
theorem eQ(b a:Str):inStr b a=!(Wc b a 0 b.9 1).isEmpty:=by
 unfold inStr;split;rename_i c e;have x:a=#[(Wb [c])]:=by
  let#[h]:=a;have:h=(Wb [c]):=by apply QAu.mp;simpa using e
  rw[this]
 rw[x];exact(StrLaws.found_one b c).symm;rfl
def VP(K:QE)(neg:Bool):R2:=λx y H Q=>match y with
 | .str b=>match x with
  | .str a=>Q (.bl (if neg then !inStr b a else inStr b a)) H|_=>False
 | .ref p=>Dm K neg x (.ref p) H Q∨(∃d h,Rep K H x d/\(Rep K H (.ref p) (.list h)∨Rep K H (.ref p) (.tuple h))/\UD d/\UD (.list h)/\Q (.bl (if neg then !(h.any λy=>qE y d) else h.any λy=>qE y d)) H)∨(∃o,NO K H p x o/\Q (.bl (if neg then !o.isSome else o.isSome)) H)|_=>False
theorem vM{ds:List Ks}(h:UD (.list ds)):wv ds=Jt/\Ww ds<=63:=by let#[x,y]:=h;simp only[QAC]at x;simp only[QBP]at y;exact#[x,()]
theorem Di(r:X.A.units+66<kx):sE X (Kx .In) (VP X.K Ju):=by
 intro l s σ H x y v u Q I k z h;cases y with
 |str b =>
  cases x with|str a=>refine nW l s σ H _ _ v u Q I k z #[a,b,rfl,rfl,?_];rw[<- eQ];simpa[VP]using h|_=>exact Qj h
 |ref p =>
  rcases h with h|⟨d,Y,n,w,i,m,q⟩| ⟨o,g,q⟩
  rotate_left 2
  cases z;exact f8 r I k g q;exact pW l s σ H _ _ v u Q I k z h;let#[W,f]:=n.reads I k;let#[j,Z]:=vM m;rcases w with w|w;let#[bs,e]:=w.reads I z;exact SeqAt.in_list_reads e f j i.1 () #[.bl _,H,I,rfl,q];let#[bs,e]:=w.reads I z;exact SeqAt.in_tuple_reads e f j i.1 () #[.bl _,H,I,rfl,q]
 |_=>exact Qj h
theorem tZ(r:X.A.units+66<kx):sE X (Kx .NotIn) (VP X.K Jt):=by
 intro l s σ H x y v u Q I k z h;cases y with
 |str b =>
  cases x with|str a=>refine iN l s σ H _ _ v u Q I k z #[a,b,rfl,rfl,?_];rw[<- eQ];simpa[VP]using h|_=>exact Qj h
 |ref p =>
  rcases h with h|⟨d,Y,n,w,i,m,q⟩| ⟨o,g,q⟩
  rotate_left 2
  cases z;exact pS r I k g q;exact JN l s σ H _ _ v u Q I k z h;let#[W,f]:=n.reads I k;let#[j,Z]:=vM m;rcases w with w|w;let#[bs,e]:=w.reads I z;exact SeqAt.notIn_list_reads e f j i.1 () #[.bl _,H,I,rfl,q];let#[bs,e]:=w.reads I z;exact SeqAt.notIn_tuple_reads e f j i.1 () #[.bl _,H,I,rfl,q]
 |_=>exact Qj h
end
end
noncomputable def vp(z:Str):It:=#[λi _=>i<z.cps.size,λi H x h=>h=H/\∃c,z.cps[i]?=Jr c/\x=.str #[(Wb [c])],λi _=>z.cps.size<=i]
theorem xY{P:jt}{w:jw}{K:QE}{tg:Expr}(it:jv)(z:Str)(t:Tok):Turn P w K tg (vp z) [it] it (λi h=>h.IsStrIter it (Kr z) z t i) where
 mem:=by simp
 obj:=λi h st b hb=>by
  have e:b=it:=by simpa using hb
  subst e;let#[o,e,c,d]:=st;exact#[o,e,λv z=>by rw[d]at z;cases z]
 keep:=λi h a st k=>by let#[o,e,r]:=st;exact#[o,k it (by simp) o e,r]
 item:=by
  intro X N J O hc i g s G H E I q st M;subst N J O;let#[C,B,f2,W,Z,Y]:=q it (by simp);have L:i<z.cps.size:=M;obtain⟨F,l⟩:∃F,z.cps[i]?=Jr F:=#[_,Qp L]
  have p:∀a,a.IsStrIter it (Kr z) z t (i+1)->qS it s.1 a->∃u,Jr (Value.str #[(Wb [F])] s.toks)=Jr u /\
    jy (js X.prog X.w) X.A (Vz tg (.ref it) u) (λ_ s2=>∃x S,Inv X g G S s2/\nA x u/\(vp z).yld i H x S/\s2.1.IsStrIter it (Kr z) z t (i+1)/\∀b∈[it],S b=Js) E { s with heap:=a,toks:=s.toks+1 }:=λa y m=>by
   have I1:Inv X g G H { s with heap:=a,toks:=s.toks+1 }:=I.turned (λb o hb e=>(m.2 b hb).trans e) C B W Z Y;let#[o,e,c,d]:=id y;refine#[_,rfl,YQ (s:={ s with heap:=a,toks:=s.toks+1 }) (n:=Kr z) e c d ?_ #[.str #[(Wb [F])],H,I1,#[_,rfl],#[rfl,_,l,rfl],y,λb hb=>(q b hb).1]];unfold Kr;split<;>decide
  cases j:z.cps.all (· < 128) with
  |false =>
   have f:Kr z="str_iterator":=by simp[Kr,j]
   exact wpAny_pyNext_wide_item (by rw[<- f];exact st) l λa y m=>p a (by rw[f];exact y) m
  |true =>
   have f:Kr z="str_ascii_iterator":=by simp[Kr,j]
   exact wpAny_pyNext_ascii_item (by rw[<- f];exact st) l λa y m=>p a (by rw[f];exact y) m
 done:=by
  intro X N J O hc i g s G H E I q st M;subst N J O;let#[C,B,f2,W,Z,Y]:=q it (by simp);have l:z.cps[i]?=none:=by rw[Array.getElem?_eq_none_iff];exact M
  cases j:z.cps.all (· < 128) with
  |false =>
   have f:Kr z="str_iterator":=by simp[Kr,j]
   rw[f]at st;exact wpAny_pyNext_wide_end (I.ok.hd hc) st l λa R=>#[rfl,I.turned (t':=s.toks) (λb o hb e=>R b o hb e) C B W Z Y]
  |true =>
   have f:Kr z="str_ascii_iterator":=by simp[Kr,j]
   rw[f]at st;exact wpAny_pyNext_ascii_end (I.ok.hd hc) st l λa R=>#[rfl,I.turned (t':=s.toks) (λb o hb e=>R b o hb e) C B W Z Y]
 self:=by
  intro A i s Q E st h;cases j:z.cps.all (· < 128) with
  |false =>
   have f:Kr z="str_iterator":=by simp[Kr,j]
   rw[f]at st;exact wpAny_pyIter_striter_wide st h
  |true =>
   have f:Kr z="str_ascii_iterator":=by simp[Kr,j]
   rw[f]at st;exact wpAny_pyIter_striter_ascii st h
section
variable{X:Cx}
theorem zL:∀{bs:List Bool}{us:LW},bA (bs.map V.bl) us->∀(i:Nat) (v:Jw),us[i]?=Jr v->∃b,bs[i]?=Jr b/\v=Value.bool b
 |[],_,.nil,i,v,h=>by simp at h|b::bs,_,.cons r t,0,v,h=>by simp at h;subst h;exact#[b,by simp,r]|b::bs,_,.cons r t,i+1,v,h=>by let#[c,y,x]:=zL (bs:=bs) t i v (by simpa using h);exact#[c,by simpa using y,x]
theorem xW(bs:List Bool):(Qm bs.9).all (λi=>bs.getD i Jt)=bs.all id:=by
 rw[qd,qN,qN];constructor;intro h b hb;let#[i,y,e]:=QCq hb;have:=h i (by simpa using y);simp[QCJ,y,e]at this;simpa using this;intro h i y;have x:i<bs.length:=by simpa using y
 have:=h bs[i] (QB2 x);simpa[QCJ,x]using this
theorem vW(bs:List Bool):(Qm bs.9).any (λi=>bs.getD i Ju)=bs.any id:=by
 rw[qd,QAx,QAx];constructor;rintro⟨i,x,e⟩;have h:i<bs.length:=by simpa using x
 exact#[bs[i],QB2 h,by simpa[QCJ,h]using e];rintro⟨b,hb,e⟩;let#[i,x,y]:=QCq hb;exact#[i,by simpa using x,by simp[QCJ,x,y];simpa using e]
def ui(K:QE):LV->Hp->VK->Prop:=λh H Q=>match h with
 |[.ref a]=>∃bs:List Bool,gC K H a (bs.map V.bl)/\Q (.bl (bs.all id)) H|_=>False
def xi(K:QE):LV->Hp->VK->Prop:=λh H Q=>match h with
 |[.ref a]=>∃bs:List Bool,gC K H a (bs.map V.bl)/\Q (.bl (bs.any id)) H|_=>False
theorem u4(l:X.calm=Jt):dC X (.builtin "all") (ui X.K):=by
 intro k s Z H f W Q I r h
 match f,h with
 |[.ref a],#[bs,hq,q] =>
  let#[u,rfl,j]:=zH r;cases j;let#[x,w,p,C]:=I.list hq;have hl:=w.9;rw[QF]at hl;refine call_all_walk (WU p.isList ?_);have y:a<s.1.1.size:=by let#[o,n,e,_]:=p;exact QR e
  refine#[s.1.1.size,_,_,_,_,_,λi=>bs.getD i Jt,rfl,QDI (A:=X.A.in1) (I.ok.hd l) s.1.1.size a (Qc y) x.toArray,#[#[_,QO _ rfl,rfl,rfl],?_],?_,?_];let#[o,n,e,c,d,sq]:=p;exact#[o,QJ _ e,c,n,sq];intro i v B F G m z;let#[b,hb,rfl]:=zL w i v (by simpa using m);refine wu ?_;have:bs.getD i Jt=b:=by simp[QCJ,hb]
  rw[<- this];exact z;intro E g hk;have Y:(Qm x.toArray.size).all (λi=>bs.getD i Jt)=bs.all id:=by rw[QT,<- hl,xW]
  rw[Y];exact#[.bl _,H,I.kept (t':=g) (λb o e=>hk b o (by simp;exact Qc (QR e)) (QJ _ e)),rfl,q]
theorem x4(l:X.calm=Jt):dC X (.builtin "any") (xi X.K):=by
 intro k s Z H f W Q I r h
 match f,h with
 |[.ref a],#[bs,hq,q] =>
  let#[u,rfl,j]:=zH r;cases j;let#[x,w,p,C]:=I.list hq;have hl:=w.9;rw[QF]at hl;refine call_any_walk (WU p.isList ?_);have y:a<s.1.1.size:=by let#[o,n,e,_]:=p;exact QR e
  refine#[s.1.1.size,_,_,_,_,_,λi=>bs.getD i Ju,rfl,QDI (A:=X.A.in1) (I.ok.hd l) s.1.1.size a (Qc y) x.toArray,#[#[_,QO _ rfl,rfl,rfl],?_],?_,?_];let#[o,n,e,c,d,sq]:=p;exact#[o,QJ _ e,c,n,sq];intro i v B F G m z;let#[b,hb,rfl]:=zL w i v (by simpa using m);refine wu ?_;have:bs.getD i Ju=b:=by simp[QCJ,hb]
  rw[<- this];exact z;intro E g hk;have Y:(Qm x.toArray.size).any (λi=>bs.getD i Ju)=bs.any id:=by rw[QT,<- hl,vW]
  rw[Y];exact#[.bl _,H,I.kept (t':=g) (λb o e=>hk b o (by simp;exact Qc (QR e)) (QJ _ e)),rfl,q]
def yi(K:QE):LV->Hp->VK->Prop:=λx H Q=>(∃z,x=[.str z]/\z.9<=jz/\Q (.int z.9) H)∨∃a h,x=[.ref a]/\(gC K H a h∨TC K H a h)/\Q (.int h.9) H
theorem k4:dC X (.builtin "len") (yi X.K):=λx s y H z u Q I r h=>h.elim (eO x s y H z u Q I r) (iO x s y H z u Q I r)
noncomputable def cV:V->Option Jw
 | .ty n=>Jr (.type n)|.ref C=>Jr (.ref C)|_=>Js
def Fp(K:QE)(H:Hp)(x:V)(t:Jw):Prop:=(∃a h,x=.ref a/\gC K H a h/\t=.type "list")∨∃a h,x=.ref a/\TC K H a h/\t=.type "tuple"
def Ec(K:QE):LV->Hp->VK->Prop:=λy H Q=>match y with
 |[x,c]=>∃t h b,(TyOf K H x t∨Fp K H x t)/\cV c=Jr h/\QCh K t h=Jr b/\Q (.bl b) H|_=>False
theorem v4:dC X (.builtin "isinstance") (Ec X.K):=by
 intro m s Y H w Z Q I r h
 match w,h with
 |[x,c],#[t,cv,b,ty,hc,hk,q] =>
  let#[u,k,rfl,f,v]:=jY r;have e:k=cv:=by
   cases c with|ty n=>have l:k=Value.type n:=v;have j:Jr (Value.type n)=Jr cv:=hc;rw[l];exact Q1 j|ref C=>have l:k=Jv C:=v;have j:Jr (Jv C)=Jr cv:=hc;rw[l];exact Q1 j|_=>cases hc
  subst e;rcases ty with ty|⟨a,w,rfl,i,rfl⟩| ⟨a,w,rfl,i,rfl⟩
  exact EW I f ty hk λy=>#[.bl b,H,I.tok y,rfl,q]
  cases f;let#[g,p,#[o,n,e,c,_,d],_]:=I.list i;exact qe QBe I.kIn #[o,e,c] hk (λz=>nomatch z) λy=>#[.bl b,H,I.tok y,rfl,q]
  cases f;let#[g,p,#[o,e,c,n,d],_]:=I.tuple i;exact qe QC2 I.kIn #[o,e,c] hk (λz=>nomatch z) λy=>#[.bl b,H,I.tok y,rfl,q]
def Cm(K:QE):V->Option Int->Option Int->Hp->VK->Prop:=λx h y H Q=>match x with
 | .str z=>z.9<=jz/\Q (.str (QEH z h y)) H|.ref a=>Th K (.ref a) h y H Q∨Sh K (.ref a) h y H Q|_=>False
theorem Fc:xb X (Cm X.K):=by
 intro y s m H x v C B Y W b Q I p hs r e h;cases x with
 |str z =>
  let#[t,rfl]:=p;let#[G,q]:=h;refine#["str",_,F.slot_str_getitem.lookup,QD9 _ _ _,?_];have fin:∀l u:Option (Int×Tok),l.map (·.1)=Y->u.map (·.1)=W->s.1.IsSlice b l u Js->jy (js X.prog X.w) X.A (Yv (.str z t) (.ref b)) (EP X y m Q) X.xe s:=λl u L J Z=>by refine wpAny_getItem_str_slice Z rfl ?_;subst L J;exact post_val_or_str #[Qf (Txt.slice_le z _ _) G,λM k=>#[.str (QEH z _ _),H,I.tok k,#[_,rfl],q]]
  let#[o,f,hc,g]:=hs;cases r with
  |none =>
   cases e with|none=>exact fin Js Js rfl rfl #[o,f,hc,g]|int j n=>exact fin Js (Jr (j,n)) rfl rfl #[o,f,hc,g]
  |int i E =>
   cases e with|none=>exact fin (Jr (i,E)) Js rfl rfl #[o,f,hc,g]|int j n=>exact fin (Jr (i,E)) (Jr (j,n)) rfl rfl #[o,f,hc,g]
 |ref a=>rcases h with h|h;exact y6 y s m H _ v C B Y W b Q I p hs r e h;exact Dc y s m H _ v C B Y W b Q I p hs r e h
 |_=>exact Qj h
end
section
variable{h h':j0}{j:jv}{z:Src}{k:Nat}{xs:Array Jw}
inductive Src where
 |l (a:jv)|t (a:jv)
def Src.adr:Src->jv
 | .l a=>a|.t a=>a
def GD(h:j0)(j:jv):Src->Nat->Prop
 | .l a,k=>h.IsListIter j a k|.t a,k=>h.IsTupleIter j a k
def FB(h:j0):Src->Array Jw->Prop
 | .l a,xs=>h.IsList a xs|.t a,xs=>h.IsTuple a xs
theorem GD.keep(x:GD h j z k)(e:∀o,h.get? j=Jr o->h'.get? j=Jr o):GD h' j z k:=by
 cases z with|l a=>let#[o,u,y]:=x;exact#[o,e o u,y]|t a=>let#[o,u,y]:=x;exact#[o,e o u,y]
theorem GD.obj(x:GD h j z k):∃o,h.get? j=Jr o/\∀v,o.data≠.cell v:=by
 cases z with|l a=>let#[o,u,w,y]:=x;exact#[o,u,λv q=>by rw[y]at q;cases q]|t a=>let#[o,u,w,y]:=x;exact#[o,u,λv q=>by rw[y]at q;cases q]
theorem FB.ext{b:jv}(x:FB h z xs)(e:QBu b h h')(n:z.adr≠b):FB h' z xs:=by
 cases z with|l a=>exact QDx.extBut x e n|t a=>exact Heap.IsTuple.extBut x e n
theorem FB.lt(x:FB h z xs):z.adr<h.1.size:=by
 cases z with|l a=>let#[o,y,_]:=x;exact QR y|t a=>let#[o,y,_]:=x;exact QR y
theorem GD.lt(x:GD h j z k):j<h.1.size:=by let#[o,y,_]:=x.obj;exact QR y
end
section
variable{prog:jt}{w:jw}{A:j2}{E:ZB}{s:jx}
section
variable{j t:jv}{k:Nat}{xs:Array Jw}{x:Jw}{Q:ZB}{z:Src}
theorem re(p:s.1.IsTupleIter j t k)(pt:s.1.IsTuple t xs)(a:xs[k]?=Jr x)
  (q:∀h',h'.IsTupleIter j t (k+1)->qS j s.1 h'->Q x { s with heap:=h' }):jy (js prog w) A (qz (.ref j)) Q E s:=by
 let#[f,y,b,h]:=id p;let#[e,v,_,g,u]:=pt;unfold qz;refine QA (qT (name:=Ql "__next__") p.typeIs wN (Q6 wN p.typeIs QAT ?_ (QAP _)));show jy _ _ (gz (.ref j) 0 >>= _) _ _ _;refine QA (WM y h (x:=.ref t) rfl ?_);show jy _ _ (if(Jv t==Jz)=Jt then _ else _) _ _ _;rw[hI (show ¬ (Jv t==Jz)=Jt from QG)];show jy _ _ (gz (.ref j) 1 >>= _) _ _ _;refine QA (WM y h (x:=.int k 0) rfl ?_);show jy _ _ (seqItems? (.ref t) >>= _) _ _ _;refine QA (QAD v u ?_);simp only[WV,a];refine QA (wX y h (by simp) (QH #[x,rfl,QH (q _ ?_ (qP ..))]));refine#[_,Q3 _ y (wF (qI h _)),(W4 ..).trans b,?_];rw[qI h];simp[Kz]
theorem oS(u:A.handled=Js)(p:s.1.IsTupleIter j t k)(pt:s.1.IsTuple t xs)(f:xs[k]?=Js)
  (q:∀h' e,QBu j s.1 h'->(∃o,h'.get? e=Jr o/\o.cls=.type "StopIteration")->E (.ref e) { s with heap:=h' }):jy (js prog w) A (qz (.ref j)) Q E s:=by
 let#[i,y,n,h]:=id p;let#[g,b,_,l,v]:=pt;unfold qz;refine QA (qT (name:=Ql "__next__") p.typeIs wN (Q6 wN p.typeIs QAT ?_ (QAP _)));show jy _ _ (gz (.ref j) 0 >>= _) _ _ _;refine QA (WM y h (x:=.ref t) rfl ?_);show jy _ _ (if(Jv t==Jz)=Jt then _ else _) _ _ _;rw[hI (show ¬ (Jv t==Jz)=Jt from QG)];show jy _ _ (gz (.ref j) 1 >>= _) _ _ _;refine QA (WM y h (x:=.int k 0) rfl ?_);show jy _ _ (seqItems? (.ref t) >>= _) _ _ _;refine QA (QAD b v ?_);simp only[WV,f];refine QA (QBB (QA (wX y h (by simp) ?_)));refine QA (m:=x2 (.type "StopIteration") []) ?_;simp only[x2,Ys];refine QA (Qx ?made (by size_fits));refine QA (m:=kv _ _) (QAJ (a:=Jz) (by first|rfl | (rw[kv];rfl)) ?arg);refine Qx ?made2 (by size_fits);simp only[Yt];refine QA (QBv ?_);first|rw[show A.in1.handled=Js from u]|rw[u]
 refine QA (QH (QCr (q _ _ (((qP ..).extBut.push _).push _) #[_,QO _ rfl,rfl])))
theorem K7(p:GD s.1 j z k)(pt:FB s.1 z xs)(h:xs[k]?=Jr x)
  (q:∀h',GD h' j z (k+1)->qS j s.1 h'->Q x { s with heap:=h' }):jy (js prog w) A (qz (.ref j)) Q E s:=by
 cases z with|l a=>exact wpAny_nextOf_list_item p pt h q|t a=>exact re p pt h q
theorem OZ(y:A.handled=Js)(p:GD s.1 j z k)(pt:FB s.1 z xs)(h:xs[k]?=Js)
  (q:∀h' e,QBu j s.1 h'->(∃o,h'.get? e=Jr o/\o.cls=.type "StopIteration")->E (.ref e) { s with heap:=h' }):jy (js prog w) A (qz (.ref j)) Q E s:=by
 cases z with|l a=>exact wpAny_nextOf_list_end y p pt h q|t a=>exact oS y p pt h q
noncomputable def Src.it:Src->Obj
 | .l a=>{ cls:=.type "list_iterator",data:=.fields (Wb [.ref a,.int 0 0]) }|.t a=>{ cls:=.type "tuple_iterator",data:=.fields (Wb [.ref a,.int 0 0]) }
theorem fP(pt:FB s.1 z xs)(q:Q (.ref s.1.1.size) { s with heap:=s.1.push z.it }):jy (js prog w) A (vu (.ref z.adr)) Q E s:=by
 cases z with|l a=>exact WU pt q|t a=>exact QC4 pt q
theorem S5(h:j0)(z:Src):GD (h.push z.it) h.1.size z 0:=by
 cases z with|l a=>exact#[_,QO _ rfl,rfl,rfl]|t a=>exact#[_,QO _ rfl,rfl,rfl]
end
end
section
variable{prog:jt}{w:jw}{A:j2}{E:ZB}{s:jx}
theorem Nc{h h':j0}{b:jv}{z:Src}{xs:Array Jw}(x:FB h z xs)(e:qS b h h')(n:z.adr≠b):FB h' z xs:=x.ext e.extBut n
end
section
variable{X:Cx}{w:MB}{σ:St}{H:Hp}{s:jx}{h':j0}
theorem _root_.L2.Inv.turnedL{t':Nat}{ch:List jv}(I:Inv X w σ H s)(k:∀b o,b∉ch->s.1.get? b=Jr o->h'.get? b=Jr o)(f:∀b∈ch,jI X w H b):Inv X w σ H { s with heap:=h',toks:=t' }:=by
 have h:∀b u,H b=Jr u->b∉ch:=λb u e z=>by rw[(f b z).1]at e;cases e
 have y:X.env.locals∉ch:=λz=>(f _ z).2.1 rfl;refine I.step (g':=s.gens) (d':=s.drawn) (ch:=ch) (λb hb=>?_) (λb o _ _ hc e _=>k b o hc e) (λb o _ _ hc e _=>#[o.slots,k b o hc e]) (λ_ _ _ _ n=>n)
  (λb o hc e=>#[o,k b o hc e]) (λ_ _ e=>e) (λ_ _ _ e=>e) (λb Y e=>#[#[],by rw[e];simp]) (λm hm=>?_) (λb u e=>?_) I.bare
 let#[_,j,_,i,g,a]:=f b hb;exact#[i,j,g,a];let#[o,l,p,x,r]:=hm;exact#[o,l,p,k _ o y x,r];refine(I.hok b u e).stay (λc v hc q=>k c v ?_ q) (λ_ q=>q) λ_ _ q=>q;rcases hc with z|z;rw[z];exact h b u e;exact h c _ z
def FX(K:QE)(H:Hp):Src->LV->Prop
 | .l a,xs=>gC K H a xs|.t a,xs=>TC K H a xs
theorem _root_.L2.Inv.src(I:Inv X w σ H s){z:Src}{xs:LV}(h:FX X.K H z xs):∃its:LW,bA xs its/\FB s.1 z its.toArray/\xs.9<=sizeLine:=by
 cases z with|l a=>let#[its,x,p,y]:=I.list h;exact#[its,x,p.isList,y]|t a=>let#[its,x,p,y]:=I.tuple h;exact#[its,x,p,y]
theorem _root_.L2.Inv.src_inj(I:Inv X w σ H s){z:Src}{xs x:LV}(h:FX X.K H z xs)(h':FX X.K H z x):xs=x:=by
 cases z with|l a=>exact I.list_inj h h'|t a=>exact I.tuple_inj h h'
theorem _root_.L2.Inv.pair{p:jv}{a b:Jw}{x y:V}{t':Nat}(I:Inv X w σ H s)(k:∀b u,s.1.get? b=Jr u->h'.get? b=Jr u)(v:s.1.1.size<=p)(e:h'.get? p=Jr { cls:=.type "tuple",data:=.seq (Wb [a,b]) })(z:nA x a)(h:nA y b) :
  Inv X w σ (XA H p (.tup [x,y])) { s with heap:=h',toks:=t' } :=
 I.laid k v #[by rw[qU];show 2<=_;decide,[a,b],.cons z (.cons h .nil),_,e,rfl,_,rfl]
end
section
variable{prog:jt}{w:jw}{A:j2}{E:ZB}{s:jx}
section
variable{it d:jv}{z:Obj}{es:Array Xx}{i ep:Nat}{c u:Jw}{Q:Option Jw->jx->Prop}
theorem gD:QA7 "dict_itemiterator"=true:=by decide +kernel
theorem cI(l:List String)(h:(l.contains "dict_itemiterator" || l.contains "object")=Ju):(l.any λt=>[Value.type "dict_itemiterator",Value.type "object"].contains (.type t))=false:=by
 rw[QBd];intro t x;rw[Bool.or_eq_false_iff]at h;have v:t≠"dict_itemiterator":=λe=>by subst e;rw[Qs.mpr x]at h;cases h.1
 have y:t≠"object":=λe=>by subst e;rw[Qs.mpr x]at h;cases h.2
 simp[v,y]
theorem NZ{e:Xx}
  (m:Xv s.1 it d i es.size ep c u) (X:s.1.get? d=Jr z) (B:z.data=.dict es ep) (I:es[i]?=Jr e)
  (q:∀h',Gx h' it d (i+1) es.size ep e.key e.val s.1.1.size->h'.get? s.1.1.size=Jr { cls:=.type "tuple",data:=.seq (Wb [e.key,e.val]) } ->
   h'.1.size=s.1.1.size+1->(∀b o,b≠it->s.1.get? b=Jr o->h'.get? b=Jr o)->Q (Jr (.ref s.1.1.size)) { s with heap:=h' }) :
  jy (js prog w) A (Vs (.ref it)) Q E s:=by
 have F:s.TypeIs (.ref it) "dict_itemiterator":=#[_,m,rfl]
 show jy _ _ (bind _ _) _ _ _;refine QA (QAU (qT F wB (Q6 wB F QAq ?_ (QAf _))));show jy _ _ (bind _ _) _ _ _;refine QA (QH (QA (QA (QA (wf F (QH (QA (QAE m rfl ?_))))))));rw[gD];show jy _ _ (if(Jv d==Jz)=Jt then _ else _) _ _ _;rw[hI (show ¬ (Jv d==Jz)=Jt from QG)];show jy _ _ (WN (.ref d) >>= _) _ _ _;refine QA (QH (QA (ww X B ?_)));rw[hI (show ¬ (((es.size:Nat):Int) != ((es.size:Nat):Int))=Jt by simp)];refine QA (QH (QA (Wx X B ?_)));rw[hI (show ¬ (((ep:Nat):Int) != ((ep:Nat):Int))=Jt by simp)];refine QH ?_;have h0:(if((i:Nat):Int)<0 then Js else es[((i:Nat):Int).toNat]?)=Jr e:=by rw[hI (),WV];exact I
 simp only[h0];refine QA ?_;show jy _ _ (vl (.ref it) >>= _) _ _ _;refine QA (wf F (QH (QA (QAd F ?_))));rw[gD,hQ rfl];rw[show(List.any _ λt=>[Value.type "dict_itemiterator",Value.type "object"].contains (.type t))=Ju from cI _ (by decide +kernel),hI QG];refine QA (WG m (by simp) λa h r=>?_);have h:Xv a it d (i+1) es.size ep c u:=h;refine QA (qG ?_);have C:({ s with heap:=a }:jx).TypeIs (.ref it) "dict_itemiterator":=#[_,h,rfl]
 show jy _ _ (Builtin.Dict_items.isOneOf (.ref it) _ >>= _) _ _ _;refine QA (QAd C ?_);rw[cI _ (by decide +kernel),hI QG];refine QA (QAd C ?_);rw[cI _ (by decide +kernel),hI QG];show jy _ _ (Ys [e.key,e.val] >>= _) _ _ _;refine QA (QCj ?_);have p:a.1.size=s.1.1.size:=r.1;have y:Xv (a.push { cls:=.type "tuple",data:=.seq (Wb [e.key,e.val]) }) it d (i+1) es.size ep c u:=QJ _ h;show jy _ _ (Builtin.Dict_items.ownedTupleIsFree (.ref it) >>= _) _ _ _;refine QA ?_;show jy _ _ (gz (.ref it) 0 >>= _) _ _ _;refine QA (WM y rfl (x:=.none) rfl (QH ?_));rw[hQ rfl];show jy _ _ (gz (.ref it) 6 >>= _) _ _ _;refine QA (WM y rfl (x:=c) rfl ?_);refine QA (WM y rfl (x:=u) rfl ?_);refine QA (WG y (by simp) λM K l=>?_);refine QA (WG K (by simp) λL W j=>?_);refine QA (WG W (by simp) λJ Z g=>?_);refine QA (WG Z (by simp) λG Y f=>?_);refine QA (wpAny_letGo (QH ?_));refine QH #[_,rfl,QH ?_];have k:it<a.1.size:=QR h;have pt:G.get? a.1.size=Jr { cls:=.type "tuple",data:=.seq (Wb [e.key,e.val]) } :=
  f.extBut _ _ (wa k) (g.extBut _ _ (wa k) (j.extBut _ _ (wa k) (l.extBut _ _ (wa k) (QO _ rfl))))
 have n:G.1.size=a.1.size+1:=by rw[f.1,g.1,j.1,l.1,wt]
 have v:Gx G it d (i+1) es.size ep e.key e.val a.1.size:=Y;rw[p]at pt n v;have:=q G v pt n λb o hb x=>f.extBut _ _ hb (g.extBut _ _ hb (j.extBut _ _ hb (l.extBut _ _ hb (QJ _ (r.extBut _ _ hb x)))));show Q (Jr (.ref a.1.size)) _;rw[p];exact this
theorem VN(f:A.handled=Js)
  (h:Xv s.1 it d i es.size ep c u) (x:s.1.get? d=Jr z) (y:z.data=.dict es ep) (g:es[i]?=Js)
  (q:∀h',QBu it s.1 h'->Q Js { s with heap:=h' }) :
  jy (js prog w) A (Vs (.ref it)) Q E s:=by
 have v:s.TypeIs (.ref it) "dict_itemiterator":=#[_,h,rfl]
 show jy _ _ (bind _ _) _ _ _;refine QA (QAU (qT v wB (Q6 wB v QAq ?_ (QAf _))));show jy _ _ (bind _ _) _ _ _;refine QA (QH (QA (QA (QA (wf v (QH (QA (QAE h rfl ?_))))))));rw[gD];show jy _ _ (if(Jv d==Jz)=Jt then _ else _) _ _ _;rw[hI (show ¬ (Jv d==Jz)=Jt from QG)];show jy _ _ (WN (.ref d) >>= _) _ _ _;refine QA (QH (QA (ww x y ?_)));rw[hI (show ¬ (((es.size:Nat):Int) != ((es.size:Nat):Int))=Jt by simp)];refine QA (QH (QA (Wx x y ?_)));rw[hI (show ¬ (((ep:Nat):Int) != ((ep:Nat):Int))=Jt by simp)];refine QH ?_;have h0:(if((i:Nat):Int)<0 then Js else es[((i:Nat):Int).toNat]?)=none:=by rw[hI (),WV];exact g
 simp only[h0];refine QA ?_;show jy _ _ (vl (.ref it) >>= _) _ _ _;refine QA (wf v (QH ?_));rw[gD,hQ rfl];refine QA (WG h (by simp) λj e k=>?_);refine QA (m:=x2 (.type "StopIteration") []) ?_;simp only[x2,Ys];refine QA (Qx ?made (by size_fits));refine QA (m:=kv _ _) (QAJ (a:=Jz) (by first|rfl | (rw[kv];rfl)) ?arg);refine Qx ?made2 (by size_fits);simp only[Yt];refine QA (QBv ?_);first|rw[show A.in1.handled=Js from f]|rw[f]
 refine QA (QH (QCr ?_));refine QA (Wi (T:="StopIteration") (b:=Jt) #[_,QO _ rfl,rfl] (by kernel_rfl) ?_);rw[hQ rfl];exact QH (q _ ((k.extBut.push _).push _))
theorem u2{v:jv}{Q:ZB}(hv:s.1.IsItemsView v d)(h:s.1.get? d=Jr z)(x:z.data=.dict es ep)
  (q:Q (.ref s.1.1.size) { s with heap:=s.1.push { cls:=.type "dict_itemiterator",data:=.fields (Wb [.none,.bool Ju,.ref d,.int 0 0,.int es.size 0,.int ep 0,.none,.none]) } }) :
  jy (js prog w) A (vu (.ref v)) Q E s:=by
 have a:=Heap.IsItemsView.typeIs hv;let#[u,y,b,k]:=id hv;refine QAg a QB8 (Q6 QB8 a F.entry_dict_items_iter ?_ (F.args_dict_items_iter_1 _));show jy _ _ (bind _ _) _ _ _;refine QA (QH (QA ?_));show jy _ _ (bind _ _) _ _ _;refine QA (WM y k rfl (QH (QA ?_)));show jy _ _ (bind _ _) _ _ _;refine QA (ww h x (QA (Wx h x ?_)));simp only[gD,if_true];refine Qx (QH #[_,rfl,"dict_itemiterator",_,#[_,QO _ rfl,rfl],wB.lookup,q]) (show _<=jz+2 by simp[Builtin.Dict_items.ownedTupleFields,qU])
theorem rT{Q:ZB}(h:s.1.get? d=Jr z)(x:z.cls=.type "dict")(v:(d==Kt)=Ju)
  (q:Q (.ref s.1.1.size) { s with heap:=s.1.push { cls:=.type "dict_items",data:=.fields (Wb [.ref d]) } }):jy (js prog w) A (Xw (.builtin "dict.items") [.ref d]) Q E s:=by
 have y:s.TypeIs (.ref d) "dict":=#[_,h,x]
 refine Q6 F.slot_dict_items y F.entry_dict_items ?_ (F.args_dict_items_1 _);show jy _ _ (bind _ _) _ _ _;refine QA ?_;show jy _ _ (bind _ _) _ _ _;refine QA (QAr y ?_);refine QH ?_;show jy _ _ ((if(d==Kt)=Jt then _ else _) >>= _) _ _ _;rw[v,hI QG];exact QA (QH (QA (Qx (QH #[_,rfl,q]) (show _<=jz+2 by simp[qU]))))
theorem HV{κ:Type}[DecidableEq κ]{knd:HeapKind prog w κ}{d a:jv}{xs:List (κ×jv×Jw)}{k:κ}{v:Jw}{Q:ZB}(Z:knd.room A)(b:knd.is s.1 k a)(hm:s.1.DictOfH knd d xs)(hsz:xs.9<=jz)
  (B:∀p,Xs xs k=Jr p->Q p.2 { s with toks:=s.toks+knd.draws k })
  (K:Xs xs k=Js->∀h',h'.DictOfH knd d (gy xs k a v)->qS d s.1 h'->Q v { s with heap:=h',toks:=s.toks+knd.draws k }) :
  jy (js prog w) A (Zv d (.ref a) v) Q E s:=by
 let#[o,es,ep,l,hc,g,r,q,X]:=id hm;have C:es.size=xs.length:=by have:=Fz wR r;simpa using this
 unfold Zv;refine qG (QA (knd.pyHash Z b (QA (wpAny_dictFind_heap Z b l g r q X (λn=>?_) λj p W=>?_))));have h:=atKey_none_of_get n;have m:=not_mem_keys_of_get n;refine QA (QBB (QA (wpAny_updateDictKeys l g (QH (K h _ ?_ (qP ..))) () (by simp))));refine#[_,_,ep+1,Q3 _ l (Obj.isFreed_of_dict (QCX g _)),Obj.ExactDict.mapDictKeys hc _,QCX g _,?_,?_,?_];rw[QDy h];simp[r,Vv];rw[QDy h];intro x f;rcases QW.mp f with f|f;exact knd.keeps (q x f) l g (qP ..);rw[QI.mp f];exact knd.keeps b l g (qP ..);rw[QDy h,Qb];exact qH.mpr #[X,by simp,λx f y Y e=>by rw[QU,we,QI]at Y;rw[e,Y]at f;exact m f];have h:=atKey_of_get X W;have F:es[j]?=Jr (Vv knd (k,p)):=by
  have:es.toList[j]?=Jr (Vv knd (k,p)):=by rw[r,Qi,W];rfl
  simpa using this
 refine QA (ww l g ?_);rw[F];exact QA (QBB (QH (B p h)))
theorem AQ{κ:Type}[DecidableEq κ]{knd:HeapKind prog w κ}{d a:jv}{xs:List (κ×jv×Jw)}{k:κ}{v:Jw}{Q:ZB}(y:knd.room A.in1)(h:knd.is s.1 k a)(hm:s.1.DictOfH knd d xs)(hsz:xs.9<=jz)(f:(d==Kt)=Ju)
  (j:∀p,Xs xs k=Jr p->Q p.2 { s with toks:=s.toks+knd.draws k })
  (g:Xs xs k=Js->∀h',h'.DictOfH knd d (gy xs k a v)->qS d s.1 h'->Q v { s with heap:=h',toks:=s.toks+knd.draws k }) :
  jy (js prog w) A (Xw (.builtin "dict.setdefault") [.ref d,.ref a,v]) Q E s:=by
 have x:s.TypeIs (.ref d) "dict":=Heap.DictOfH.typeIs hm;refine Q6 F.slot_dict_setdefault x F.entry_dict_setdefault ?_ (F.args_dict_setdefault_3 _ _ _);show jy _ _ (bind _ _) _ _ _;refine QA ?_;show jy _ _ (bind _ _) _ _ _;refine QA (QAr x ?_);refine QH ?_;show jy _ _ (if(d==Kt)=Jt then _ else _) _ _ _;rw[f,hI QG];exact QA (HV y h hm hsz (λp b=>QH #[_,rfl,j p b]) λe h' m l=>QH #[_,rfl,g e h' m l])
end
end
def lJ(K:QE):V->LV->Hp->VK->Prop:=λx z H Q=>∃a b v w h k,x=.ref a/\z=[.ref b,v]/\H a=Jr (.dT w h)/\LF K H h/\TC K H b (k.map kV)/\h.9<jz /\
   (∀u,gG h k=Jr u->Q u H)/\(gG h k=Js->∀y,Q v (XA H a (.dT y (zK h k b v))))
theorem CW{X:Cx}(R:X.A.units+66<kx):K5 X "dict.setdefault" (lJ X.K):=by
 intro n s L H x N v P Q I q Y h;let#[a,b,y,ep,f,k,rfl,rfl,e,hk,F,l,W,Z]:=h;cases q;let#[u,O,rfl,r,i]:=jY Y;cases r;let#[B,o,M,w,G]:=SI I e hk;have hl:(zK f k b y).9<=sizeLine:=by have:=mQ f k b y;omega
 refine AQ (Wr ()) (XS I F) G (by rw[<- qt w];exact B) o (λp C=>?_) λE S m hs=>?_;have z:=w.val k;rw[C]at z;cases g:gG f k with|none=>rw[g]at z;exact(show False from z).elim|some u=>rw[g]at z;exact#[u,H,I.tok _,z,W u g]
 have z:=w.val k;rw[E]at z;cases g:gG f k with|some u=>rw[g]at z;exact(show False from z).elim|none=>let#[j,J]:=SK (t':=_) I (by rw[e];exact True.intro) o hl (w.put k b i) m hs;exact#[y,_,J,i,Z g j]
def aq(ep n:Nat)(a:jv):It :=
  #[λi H=>∃h p,H a=Jr (.dT ep h)/\h.9=n/\h[i]?=Jr p,
   λi H v x=>∃q p,H q=Js/\v=.ref q/\x=XA H q (.tup [.ref p.2.1,p.2.2])/\∀h,H a=Jr (.dT ep h)->h[i]?=Jr p,
   λi H=>∃h,H a=Jr (.dT ep h)/\h.9=n/\n<=i]
theorem BG{α h:Type}{R:α->h->Prop}:∀{l:List α}{m:List h}{i:Nat}{x:α},Kv R l m->l[i]?=Jr x->∃y,m[i]?=Jr y/\R x y
 |_,_,i,_,.nil,e=>by simp at e|_,_,0,_,.cons r _,e=>by simp at e;subst e;exact#[_,rfl,r]|_,_,i+1,x,.cons _ t,e=>by let#[y,u,z]:=BG (i:=i) (x:=x) t (by simpa using e);exact#[y,by simpa using u,z]
theorem BR{P:jt}{w:jw}{K:QE}{es:List Expr}{kk:Nat}{pp:Pos}{a it:jv}{n ep:Nat}:Turn0 P w K (.Tuple es kk pp) (aq ep n a) [it] it (λi h=>∃ok Y,Xv h it a i n ep ok Y) where
 mem:=by simp
 obj:=λi h st b hb=>by let#[ok,Y,st]:=st;rw[QI]at hb;subst hb;exact#[_,st,λv q=>by cases(show Data.fields _=Data.cell v from q)]
 keep:=λi h h' st k=>by let#[ok,Y,st]:=st;exact#[ok,Y,k it (by simp) _ st]
 item:=by
  intro X J C L hc i Z s σ H E I A st G;subst J C L;let#[j,p,e,F,ep]:=G;let#[ok,Y,st]:=st;let#[z,y,xs,r,o,u,N,h2,M,B,h5]:=(show VA X.prog X.w H s.1 a (.dT _ j) from I.hok a _ e)
  have l:u.size=n:=by have:=Fz wR B;rw[QF,QN]at this;rw[this,<- qt r,F]
  let#[q,hq,rq]:=BG r ep;have he:u[i]?=Jr (Vv (vx (vB X.prog X.w)) q):=by
   have:u.toList[i]?=Jr (Vv (vx (vB X.prog X.w)) q):=by rw[B,Qi,hq];rfl
   simpa using this
  subst l;refine NZ st N M he λh' b1 b3 b4 b5=>#[_,rfl,wpAny_letOwnedTupleGo_items b1 λm c1 sb=>?_]
  have hp:=I.hok.fresh (QX s.1.1.size);have W:it<s.1.1.size:=QR st;have g:∀b∈[it],b<s.1.1.size:=λb hb=>by rw[QI]at hb;subst hb;exact W
  have kept:∀b o,b∉[it]->s.1.get? b=Jr o->m.get? b=Jr o:=λb o hb q=>by rw[QI]at hb;exact(sb.2 b hb).trans (b5 b o hb q)
  have f:m.get? s.1.1.size=Jr { cls:=.type "tuple",data:=.seq (Wb [.ref q.2.1,q.2.2]) }:=(sb.2 _ (wa W)).trans b3;have I1:=I.pair (x:=.ref p.2.1) (y:=p.2.2) (h':=s.1.push { cls:=.type "tuple",data:=.seq (Wb [.ref q.2.1,q.2.2]) }) (t':=s.toks) (λb o e=>QJ _ e) (QX _) (QO _ rfl) (show Jv q.2.1=Jv p.2.1 by rw[rq.2.1]) rq.2.2;have I2:=I1.turnedL (h':=m) (t':=s.toks) (ch:=[it]) (λb o hb e=>by
   rcases QCY e with⟨q1,q2⟩| q;subst q1 q2;exact f;exact kept b o hb q) λb hb=>by
   let#[f0,S,f2,R,Q,O]:=A b hb;exact#[by rw[xA (Qc (g b hb))];exact f0,S,f2,R,Q,O]
  refine#[.ref s.1.1.size,_,I2,rfl,#[s.1.1.size,p,hp,rfl,rfl,λkvs' g1=>?_],#[_,_,c1],λb hb=>?_];rw[e]at g1;cases g1;exact ep;rw[xA (Qc (g b hb))];exact(A b hb).1
 done:=by
  intro X J C L hc i Z s σ H E I A st G;subst J C L;let#[j,e,F,ep]:=G;let#[ok,Y,st]:=st;let#[z,y,xs,r,o,u,N,h2,M,B,h5]:=(show VA X.prog X.w H s.1 a (.dT _ j) from I.hok a _ e)
  have l:u.size=n:=by have:=Fz wR B;rw[QF,QN]at this;rw[this,<- qt r,F]
  subst l;let#[f0,S,f2,R,Q,O]:=A it (by simp);exact VN (I.ok.hd hc) st N M (QB9 ep) λh' eb=>#[rfl,I.turned (t':=s.toks) (λb o hb e=>eb b o hb e) f0 S R Q O]
section
variable{prog:jt}{w:jw}{A:j2}{E:ZB}{s:jx}
section
variable{d it:jv}{h:Obj}{es:Array Xx}{ep i:Nat}{Q:Option Jw->jx->Prop}
theorem IF:QA7 "dict_keyiterator"=false:=by decide +kernel
theorem x8{Q:ZB}(hz:(d==Kt)=Ju)(x:s.1.get? d=Jr h)(hc:h.cls=.type "dict")(y:h.data=.dict es ep)
  (q:Q (.ref s.1.1.size) { s with heap:=s.1.push { cls:=.type "dict_keyiterator",data:=.fields (Wb [.ref d,.int 0 0,.int es.size 0,.int ep 0]) } }) :
  jy (js prog w) A (vu (.ref d)) Q E s:=by
 have z:s.TypeIs (.ref d) "dict":=#[_,x,hc]
 refine QAg z QDl (Q6 QDl z F.entry_dict_iter ?body (F.args_dict_iter_1 _))
 case body =>
  show jy _ _ (bind _ _) _ _ _;refine QA ?sl
  case sl =>
   show jy _ _ (bind _ _) _ _ _;refine QA (QAr z (QH ?go))
   case go =>
    have e:QAs d=hT PUnit.unit:=by unfold QAs;rw[hz];rfl
    show jy _ _ (QAs d >>= _) _ _ _;rw[e];refine QA (QH (QA (ww x y (QA (Wx x y (QA (Qx (QH #[_,rfl,"dict_keyiterator",_,#[_,QO _ rfl,rfl],wG.lookup,?_]))))))));simpa[Kz]using q
theorem Z7{e:Xx}
  (u:s.1.IsKeyIter it d i es.size ep) (z:s.1.get? d=Jr h) (v:h.data=.dict es ep) (f:es[i]?=Jr e)
  (q:∀h',h'.IsKeyIter it d (i+1) es.size ep->qS it s.1 h'->Q (Jr e.key) { s with heap:=h' }) :
  jy (js prog w) A (Vs (.ref it)) Q E s:=by
 have k:=u.typeIs;let#[g,a,b,x]:=id u;show jy _ _ (bind _ _) _ _ _;refine QA (QAU (qT k wG (Q6 wG k QAy ?_ (QAt _))));show jy _ _ (bind _ _) _ _ _;refine QA (QH (QA (QA (QA (wn k (QH (QA (QAE a x ?_))))))));rw[IF];show jy _ _ (if(Jv d==Jz)=Jt then _ else _) _ _ _;rw[hI (show ¬ (Jv d==Jz)=Jt from QG)];show jy _ _ (WN (.ref d) >>= _) _ _ _;refine QA (QH (QA (ww z v ?_)));rw[hI (show ¬ (((es.size:Nat):Int) != ((es.size:Nat):Int))=Jt by simp)];refine QA (QH (QA (Wx z v ?_)));rw[hI (show ¬ (((ep:Nat):Int) != ((ep:Nat):Int))=Jt by simp)];refine QH ?_;have h0:(if((i:Nat):Int)<0 then Js else es[((i:Nat):Int).toNat]?)=Jr e:=by rw[hI (),WV];exact f
 simp only[h0];refine QA ?_;show jy _ _ (vl (.ref it) >>= _) _ _ _;refine QA (wn k (QH (QA (QCK k ?_))));rw[IF];show jy _ _ (gV (.ref it) 1 _ >>= _) _ _ _;refine QA (wX a x (by simp) ?_);have y:(s.1.update it (wC (·.setIfInBounds 1 (Kz ((i:Int)+1))))).IsKeyIter it d (i+1) es.size ep :=
  #[_,Q3 _ a (wF (qI x _)),(W4 ..).trans b,by rw[qI x];simp[Kz]]
 refine QA (qG (QA (QCK (s:={ s with heap:=s.1.update it (wC (·.setIfInBounds 1 (Kz ((i:Int)+1)))) }) y.typeIs ?_)));show jy _ _ (hT e.key) _ _ _;exact QH (QH #[_,rfl,QH (q _ y (qP ..))])
theorem IP(e:A.handled=Js)
  (y:s.1.IsKeyIter it d i es.size ep) (x:s.1.get? d=Jr h) (u:h.data=.dict es ep) (f:es[i]?=Js)
  (q:∀h',QBu it s.1 h'->Q Js { s with heap:=h' }) :
  jy (js prog w) A (Vs (.ref it)) Q E s:=by
 have v:=y.typeIs;let#[j,k,g,z]:=id y;show jy _ _ (bind _ _) _ _ _;refine QA (QAU (qT v wG (Q6 wG v QAy ?_ (QAt _))));show jy _ _ (bind _ _) _ _ _;refine QA (QH (QA (QA (QA (wn v (QH (QA (QAE k z ?_))))))));rw[IF];show jy _ _ (if(Jv d==Jz)=Jt then _ else _) _ _ _;rw[hI (show ¬ (Jv d==Jz)=Jt from QG)];show jy _ _ (WN (.ref d) >>= _) _ _ _;refine QA (QH (QA (ww x u ?_)));rw[hI (show ¬ (((es.size:Nat):Int) != ((es.size:Nat):Int))=Jt by simp)];refine QA (QH (QA (Wx x u ?_)));rw[hI (show ¬ (((ep:Nat):Int) != ((ep:Nat):Int))=Jt by simp)];refine QH ?_;have h0:(if((i:Nat):Int)<0 then Js else es[((i:Nat):Int).toNat]?)=none:=by rw[hI (),WV];exact f
 simp only[h0];refine QA ?_;show jy _ _ (vl (.ref it) >>= _) _ _ _;refine QA (wn v (QH ?_));rw[IF];show jy _ _ (gV (.ref it) 0 .none >>= _) _ _ _;refine QA (wX k z (by simp) ?_);refine QA (m:=x2 (.type "StopIteration") []) ?_;simp only[x2,Ys];refine QA (Qx ?made (by size_fits));refine QA (m:=kv _ _) (QAJ (a:=Jz) (by first|rfl | (rw[kv];rfl)) ?arg);refine Qx ?made2 (by size_fits);simp only[Yt];refine QA (QBv ?_);first|rw[show A.in1.handled=Js from e]|rw[e]
 refine QA (QH (QCr ?_));refine QA (Wi (T:="StopIteration") (b:=Jt) #[_,QO _ rfl,rfl] (by kernel_rfl) ?_);rw[hQ rfl];exact QH (q _ (((qP ..).extBut.push _).push _))
end
end
noncomputable def Jq(ep n:Nat)(a:jv):It :=
  #[λi H=>∃h p,H a=Jr (.dT ep h)/\h.9=n/\h[i]?=Jr p,
   λi H v x=>x=H/\∀h,H a=Jr (.dT ep h)->∃p,h[i]?=Jr p/\v=.ref p.2.1,
   λi H=>∃h,H a=Jr (.dT ep h)/\h.9=n/\n<=i]
theorem RV{P:jt}{w:jw}{K:QE}{S:Expr}{a it:jv}{n ep:Nat}:Turn P w K S (Jq ep n a) [it] it (λi h=>h.IsKeyIter it a i n ep) where
 mem:=by simp
 obj:=λi h st b hb=>by let#[o,e,c,d]:=st;rw[QI]at hb;subst hb;exact#[o,e,λv z=>by rw[d]at z;cases z]
 keep:=λi h Y st k=>st.at λo e=>k it (by simp) o e
 item:=by
  intro X B Z C hc i u s Q H E I l st A;subst B Z C;let#[f,p,e,W,ep]:=A;let#[z,y,R,r,o,x,G,h2,F,m,h5]:=(show VA X.prog X.w H s.1 a (.dT _ f) from I.hok a _ e)
  have g:x.size=n:=by have:=Fz wR m;rw[QF,QN]at this;rw[this,<- qt r,W]
  let#[q,hq,rq]:=BG r ep;have he:x[i]?=Jr (Vv (vx (vB X.prog X.w)) q):=by
   have:x.toList[i]?=Jr (Vv (vx (vB X.prog X.w)) q):=by rw[m,Qi,hq];rfl
   simpa using this
  subst g;let#[O,N,f2,M,L,J]:=l it (by simp);refine Z7 st G F he λY j sb=>?_;have I1:Inv X u Q H { s with heap:=Y }:=I.turned (t':=s.toks) (λb o hb e=>(sb.2 b hb).trans e) O N M L J;let#[oi,ei,ci,di]:=id j;exact#[_,rfl,YQ (s:={ s with heap:=Y }) ei ci di (by decide) #[.ref p.2.1,H,I1,show Jv q.2.1=Jv p.2.1 by rw[rq.2.1],#[rfl,λks hk=>by rw[e]at hk;cases hk;exact#[p,ep,rfl]],j,λb hb=>(l b hb).1]]
 done:=by
  intro X B Z C hc i u s Q H E I l st A;subst B Z C;let#[f,e,W,ep]:=A;let#[z,y,R,r,o,x,G,h2,F,m,h5]:=(show VA X.prog X.w H s.1 a (.dT _ f) from I.hok a _ e)
  have g:x.size=n:=by have:=Fz wR m;rw[QF,QN]at this;rw[this,<- qt r,W]
  subst g;let#[O,N,f2,M,L,J]:=l it (by simp);exact IP (I.ok.hd hc) st G F (QB9 ep) λY eb=>#[rfl,I.turned (t':=s.toks) (λb o hb e=>eb b o hb e) O N M L J]
 self:=λ_ _ _ _ _ st h=>wpAny_pyIter_keyiter st h
open PySem.SeqAt
open AutoSeq1 (wpAny_loadPart')
open MeetsSeq MeetsSeq2 MeetsSeq3
noncomputable def Ug:LS->LS->Bool
 |[],[]=>Ju|[],_::_=>Jt|_::_,[]=>Ju|x::a,y::b=>if(x==y)=Jt then Ug a b else decide (x.cps.toList<y.cps.toList)
theorem jN{vs:LW}{ss:LS}(h:gA vs ss):vs.9=ss.9/\∀(i:Nat) (x:Str),ss[i]?=Jr x->∃t:Tok,vs[i]?=Jr (Value.str x t):=by
 induction h with
 |nil=>exact#[rfl,λi x e=>by simp at e]|cons y t _ z =>
  refine#[by rw[QL,QL,z.1],λi x e=>?_];cases i with|zero=>simp at e;subst e;exact#[t,rfl]|succ i=>simp at e;simpa using z.2 i x e
theorem GW(l b:jv)(v x:Array Jw)(n K:Nat)(L p:Option jv)(Z m:Array (Option Jw))(ss ts:LS)(G:gA v.toList ss)(F:gA x.toList ts)(k:Nat) :
  ∀i:Nat,v.size - i=k->i<=v.size->i<=x.size->Meets (Builtin.«list.__eq__.loop» #[[.ref l,.ref b,Kz i,Kz 0],[]])
   (λA R s=>s.1.get? l=Jr { cls:=.type "list",dict:=L,data:=.seq v n,slots:=Z }/\s.1.get? b=Jr { cls:=.type "list",dict:=p,data:=.seq x K,slots:=m } /\
    R (.ok (.ret (.bool (Ug (ss.drop i) (ts.drop i))))) s):=by
 let#[S,Q]:=jN G;let#[O,N]:=jN F;rw[QN]at S O;induction k with
 |zero =>
  intro i hk E o a w A R s h;let#[C,g,d,Y,W]:=s;let#[hl,hb,h]:=h;wp_walk using qZ hl,qZ hb;have j:v[((i:Nat):Int).toNat]?=none:=by simp;omega
  rw[j];wp_walk using qZ hl,qZ hb;have X:ss.drop i=[]:=by simp;omega
  rw[X]at h;have e:Ug [] (ts.drop i)=decide (v.size<x.size):=by
   cases z:ts.drop i with
   |nil =>
    have:ts.9<=i:=by simpa using z
    exact(dF ()).symm
   |cons y r =>
    have:i<ts.length:=by by_cases c:i<ts.9;exact c;rw[WA ()]at z;cases z
    exact(dT ()).symm
  rw[e]at h;exact h
 |succ k B =>
  intro i hk E o a w A R s h;let#[C,g,d,Y,W]:=s;let#[hl,hb,h]:=h;wp_walk using qZ hl,qZ hb;have f:i<ss.length:=()
  let#[t,I]:=Q i ss[i] (qA f);have j:v[((i:Nat):Int).toNat]?=Jr (.str ss[i] t):=by simpa using I
  rw[j];have X:ss.drop i=ss[i]::ss.drop (i+1):=WO f;rw[X]at h;by_cases c:i<ts.9;let#[u,J]:=N i ts[i] (qA c);have e:x[((i:Nat):Int).toNat]?=Jr (.str ts[i] u):=by simpa using J
  have M:ts.drop i=ts[i]::ts.drop (i+1):=WO c;rw[M]at h;have h:R (.ok (.ret (.bool (if(ss[i]==ts[i])=Jt then Ug (ss.drop (i+1)) (ts.drop (i+1)) else decide (ss[i].cps.toList<ts[i].cps.toList))))) _:=h;rw[e];refine QA (EqAt.str_str ss[i] t ts[i] u a w _ _ ?_);have hc:((i:Int)+1)=((i+1:Nat):Int):=by push_cast;rfl
  cases q:(ss[i]==ts[i]) with|true=>rw[q,hQ rfl]at h;wp_walk;rw[hc];exact#[WH plain_eq_loop _,qf entry_eq_loop (by rw[qQ plain_eq_loop _];exact B (i+1) () () () a w A R _ #[hl,hb,h])]|false=>rw[q,hI QG]at h;wp_walk using qZ hl,qZ hb;rw[j,e];show jy _ _ (Kx .Lt (.str ss[i] t) (.str ts[i] u) >>= _) _ _ _;refine QA (PySem.P.lt_str ?_);exact QH h
  have e:x[((i:Nat):Int).toNat]?=none:=by simp;omega
  rw[e];wp_walk using qZ hl,qZ hb;rw[WA (show ts.9<=i by omega)]at h;have:decide (v.size<x.size)=false:=dF ();have h:R (.ok (.ret (.bool Ju))) _:=h;rw[<- this]at h;exact h
theorem NW(l b:jv)(y x:Array Jw)(n a:Nat)(e v:Option jv)(k z:Array (Option Jw))(ss ts:LS)(i:gA y.toList ss)(f:gA x.toList ts) :
  Meets (Builtin.«list.__lt__» #[[.ref l,.ref b],[]])
   (λA R s=>s.1.get? l=Jr { cls:=.type "list",dict:=e,data:=.seq y n,slots:=k }/\s.1.get? b=Jr { cls:=.type "list",dict:=v,data:=.seq x a,slots:=z } /\
    R (.ok (.ret (.bool (Ug ss ts)))) s):=by
 intro u w A R s h;let#[o,g,d,j,m]:=s;let#[hl,hb,h]:=h;have p:=AutoSeq1.sub_list_list;wp_walk using qZ hl,qZ hb;exact#[WH plain_eq_loop _,qf entry_eq_loop (by rw[qQ plain_eq_loop _];exact GW l b y x n a e v k z ss ts i f _ 0 rfl (Q5 _) (Q5 _) u w A R _ #[hl,hb,h])]
section
variable{prog:jt}{w:jw}{A:j2}{E:ZB}{s:jx}
theorem cS{l b:jv}{y x:Array Jw}{n k:Nat}{a u:Option jv}{v z:Array (Option Jw)}{ss ts:LS}{Q:Bool->jx->Prop}(e:A.units<kx)(hl:s.1.get? l=Jr { cls:=.type "list",dict:=a,data:=.seq y n,slots:=v })(hb:s.1.get? b=Jr { cls:=.type "list",dict:=u,data:=.seq x k,slots:=z })
  (g:gA y.toList ss) (f:gA x.toList ts) (h:Q (Ug ss ts) s):jy (js prog w) A (keyLt' Hr (.ref l) (.ref b)) Q E s:=by
 rw[keyLt'_oneType,oneLt'_eq];simp only[if_true];refine QA (wpAny_cRoomFor e (QA (wpAny_callSpecialIfBound?_slot (T:="list") #[_,hl,rfl] F.slot_list_lt ?_)));refine QBh F.slot_list_lt #[_,hl,rfl] F.entry_list_lt (F.args_list_lt_2 _ _) (NW l b y x n k a u v z ss ts g f) #[hl,hb,?_];exact wu h
end
end L2.L3
namespace L2.L3
open PySem PySem.Spec PyProof.Rows PySem.W
def MC{α:Type}(n:Nat)(P:α->Prop):KasT α->Prop
 | .ret a=>P a|.ask i j k=>i<n/\j<n/\∀b,MC n P (k b)
theorem MC.bnd{α x:Type}{n:Nat}{P:α->Prop}{R:x->Prop}{f:α->KasT x}(y:∀a,P a->MC n R (f a)):∀{t:KasT α},MC n P t->MC n R (t.bind f)
 | .ret a,h=>y a h|.ask i j k,#[h1,h2,h]=>#[h1,h2,λb=>MC.bnd y (h b)]
theorem MC.wp{α:Type}{n:Nat}{P:α->Prop}{x:Nat->Nat->(Bool->jx->Prop)->jx->Prop}{Q:α->jx->Prop}{s:jx}(y:∀i j,i<n->j<n->∀C:Bool->jx->Prop,(∀b,C b s)->x i j C s)(z:∀a,P a->Q a s):∀{t:KasT α},MC n P t->t.kasWp x Q s
 | .ret a,h=>z a h|.ask i j k,#[h1,h2,h]=>y i j h1 h2 _ λb=>MC.wp y z (h b)
def Pm(n:Nat)(p:Array Nat):Prop:=p.Perm (Wb (Qm n))
section
variable{n:Nat}
section
variable{p:Array Nat}
theorem Pm.lt(h:Pm n p)(h0:0<n)(i:Nat):p.getD i 0<n:=by
 by_cases c:i<p.size;have e:p.getD i 0=p[i]:=by simp[QDJ,c]
 rw[e];have m:p[i]∈p.toList:=by simp
 have:=(QBN.mp h).mem_iff.mp m;simpa using this;have e:p.getD i 0=0:=by simp[QDJ,c]
 rw[e];exact h0
theorem Pm.rev(h:Pm n p)(i j:Nat):Pm n (kas_rev p i j):=(mirror_perm _ _ _ _).trans h
theorem CO{p:Array Nat}(h:Pm n p)(h0:0<n):∀(f m:Nat),MC n (λ_=>True) (kas_asc p f m)
 |0,m=>trivial|f+1,m=>#[h.lt h0 _,h.lt h0 _,λb=>by
  cases b with|true=>exact trivial|false=>exact CO h h0 f (m+1)]
theorem SH(h0:0<n):∀(f:Nat) {p:Array Nat}(h:Pm n p) (m q:Nat),MC n (λr=>Pm n r.1) (kas_desc f p m q)
 |0,p,h,m,q=>h|f+1,p,h,m,q=>#[h.lt h0 _,h.lt h0 _,λb=>by
  cases b with
  |true=>show MC n _ (if q > 0 then _ else _);split;exact SH h0 f (h.rev _ _) _ _;exact SH h0 f h _ _|false =>
   refine#[h.lt h0 _,h.lt h0 _,λb=>?_];cases b with|true=>exact h|false=>exact SH h0 f h _ _]
theorem CM(h0:0<n)(h:Pm n p)(a b:Nat):MC n (λr=>Pm n r.2) (kas_tail3 a b p):=by refine MC.bnd (f:=λm=>.ret (m,kas_rev p 0 a)) (λm _=>?_) (CO (h.rev _ _) h0 _ _);exact h.rev _ _
theorem RH(h0:0<n)(h:Pm n p)(a b:Nat):MC n (λr=>Pm n r.2) (kas_descPart a b p):=by refine MC.bnd (λr x=>?_) (SH h0 _ h _ _);split;exact CM h0 (Pm.rev x _ _) _ _;exact CM h0 x _ _
theorem iX(h0:0<n)(h:Pm n p)(b:Nat):MC n (λr=>Pm n r.2) (kas_count b p):=by
 refine MC.bnd (λm _=>?_) (CO h h0 _ _);split;exact h;split
 ·refine#[h.lt h0 _,h.lt h0 _,λc=>?_]
  cases c with|true=>exact h|false=>exact RH h0 (h.rev _ _) _ _
 exact RH h0 h _ _
theorem UI(h0:0<n){p:Array Nat}(h:Pm n p)(k:Nat):∀(f l r:Nat),MC n (λ_=>True) (kas_place p k f l r)
 |0,l,r=>trivial|f+1,l,r=>by
  show MC n _ (if l ≥ r then _ else _);split;exact trivial;refine#[h.lt h0 _,h.lt h0 _,λb=>?_];cases b with|true=>exact UI h0 h k f _ _|false=>exact UI h0 h k f _ _
theorem ZV(h0:0<n):∀(f:Nat) {p:Array Nat}(h:Pm n p) (k:Nat),MC n (Pm n) (kas_bin f p k)
 |0,p,h,k=>h|f+1,p,h,k=>MC.bnd (λl _=>ZV h0 f ((bubble_perm _ _ _).trans h) _) (UI h0 h _ _ _ _)
theorem kR(h0:0<n):MC n (Pm n) (kas_sort n):=by refine MC.bnd (λr h=>?_) (iX h0 (QDz _) _);split;exact ZV h0 _ h _;exact h
end
end
theorem EL{α:Type}(vs:List α)(d:α):(Qm vs.9).map (λi=>vs.getD i d)=vs:=by apply wV;intro i;rw[Qi];by_cases c:i<vs.9;rw[QCs c];simp[c];rw[qL (by simp;omega),qL ()];rfl
section
variable{prog:jt}{w:jw}{A:j2}{E:ZB}{s:jx}
section
variable{vs:LW}{R:Array Nat->Prop}{l:jv}{Q:ZB}
theorem oj{M:Model}{Q:Hy->jx->Prop}(k:2<=vs.9)(z:∀v∈vs,s.TypeIs v "list")(h:Q Hr s):jy M A (Hs vs.toArray) Q E s:=by
 cases vs with
 |nil=>simp at k|cons v r =>
  rw[keyKind'_eq,QDK,map_eq_pure_bind];refine QA (QA (kas_mapM (r:=Js) _ (λu y e q=>?_) (QH ?_)));rw[kas_first_eq];exact QA (Wu (z u y) (QH q));rw[hI (by simp),hI (by simp),oneTypeOnly'_eq,QDK,map_eq_pure_bind];refine QA (QA (QA (kas_mapM (r:=.type "list") _ (λu y e q=>Wu (z u y) q) (QH ?_))));have b:((v::r).map λ_=>Value.type "list").toArray[0]?=Jr (.type "list"):=by simp
  have a:(((v::r).map λ_=>Value.type "list").toArray.all λx=>x==Value.type "list")=true:=by simp only[List.all_toArray,List.all_map,qN];intro _ _;rfl
  rw[b];simp only[a,if_true];exact QH (QH h)
theorem u1{κ:Hy}{a:jv}{n:Nat}{P:QEI->jx->Prop}(m:s.1.get? a=Jr (gt "list" vs.toArray n))(W:vs.9<64)
  (kind:2<=vs.9->∀u:j0,(∀b o,b≠a->s.1.get? b=Jr o->u.get? b=Jr o)->∀Q:Hy->jx->Prop,Q κ { s with heap:=u }->jy (js prog w) A (Hs vs.toArray) Q E { s with heap:=u })
  (h:2<=vs.9->∀u:j0,(∀b o,b≠a->s.1.get? b=Jr o->u.get? b=Jr o)->(kas_sort vs.9).kasWp (kas_ask prog w A κ vs) (λp s'=>s'={ s with heap:=u }/\Pm vs.9 p/\R p) { s with heap:=u })
  (B:vs.9<2->R (Wb (Qm vs.9)))
  (k:∀p:Array Nat,Pm vs.9 p->R p->P (.done (.ret .none)) { s with heap:=sortedHeap s.1 a vs (p.toList.map λi=>vs.getD i Jz).toArray }):jy (js prog w) A (Builtin.«list.sort» #[[.ref a],[]]) P E s:=by
 have S:a<s.1.1.size:=QR m;have F:=qP s.1 a (qR λ_=>(#[]:Array Jw));obtain⟨q,j⟩:∃q,(s.1.update a (qR λ_=>(#[]:Array Jw))).get? a=Jr (gt "list" #[] q):=#[_,get?_update_seq m λ_=>#[]]
 have g:(((s.1.update a (qR λ_=>(#[]:Array Jw))).push (gt "tuple" vs.toArray 0)).push (gt "list" #[] 0)).get? a=Jr (gt "list" #[] q):=QJ _ (QJ _ j);have kept:∀b o,b≠a->s.1.get? b=Jr o->(((s.1.update a (qR λ_=>(#[]:Array Jw))).push (gt "tuple" vs.toArray 0)).push (gt "list" #[] 0)).get? b=Jr o:=λb o hb e=>QJ _ (QJ _ ((F.2 b hb).trans e));rw[list_sort_plain];refine QA (listItems_at m rfl (QA (Hw m rfl ?_ (by rw[QT];omega) (Q5 _))));refine QA (seqEpoch_at j rfl (QA (QCj ?_ (by show vs.9<=_;omega))));refine QA (QBw (qG ?_) (Q5 _));show jy (js prog w) A _ P E { s with heap:=((s.1.update a (qR λ_=>(#[]:Array Jw))).push (gt "tuple" vs.toArray 0)).push (gt "list" #[] 0) };dsimp only;have fin:∀p:Array Nat,Pm vs.9 p->R p->jy (js prog w) A (do
   let x:=(<- seqEpoch a) != q
   Builtin.List.listUpdate (.ref a) λ_=>(p.toList.map λi=>vs.getD i Jz).toArray
   if x then rule "list.sort.modified";raiseError "ValueError" "list modified during sort"
   ret .none) P E { s with heap:=((s.1.update a (qR λ_=>(#[]:Array Jw))).push (gt "tuple" vs.toArray 0)).push (gt "list" #[] 0) }:=λp X Z=>by
  have hl:p.toList.9=vs.length:=by have:=X.size_eq;simpa using this
  refine QA (seqEpoch_at g rfl (QA (Hw g rfl ?_ (Q5 _) (by rw[QT,QF];omega))));simp only[bne_self_eq_false,qF,if_false];exact QH (k p X Z)
 by_cases K:vs.9<2;have z:vs.toArray.size<2:=by rw[QT];exact K
 rw[hQ z,hQ z];refine QA (QH ?_);rw[StateT.run_pure];refine QA (QH ?_);have e:(arrOf (QDL general' (vs.toArray.zip vs.toArray) #[] 7 Js)).map (·.2)=vs.toArray:=by show(vs.toArray.zip vs.toArray).map (·.2)=_;apply QAu.mp;simp[QAw]
 dsimp only;rw[e];have r:=fin (Wb (Qm vs.9)) (QDz _) (B K);rw[show((Wb (Qm vs.9)).toList.map λi=>vs.getD i Jz)=vs from EL vs Jz]at r;exact r;have z:¬ vs.toArray.size<2:=by rw[QT];exact K
 rw[hI z,hI z];refine QA (kind () _ kept _ ?_);have C:QDL κ (vs.toArray.zip vs.toArray) #[] 7 Js=kas_st κ (Hz vs) (Wb (Qm vs.9)):=by have e:=kas_range (Hz vs);rw[pairsOf_size]at e;show QDL κ (Hz vs) #[] 7 Js=QDL κ ((Wb (Qm vs.9)).map (kas_item (Hz vs))) #[] 7 Js;rw[e]
 have h:=h () _ kept;rw[kas_ask_eq]at h;have v:=kas_runs (prog:=prog) (w:=w) (A:=A) (E:=E) (Q:=λ_ y s'=>∃p:Array Nat,p.size=vs.9/\arrOf y=p.map (kas_item (Hz vs))/\failedOf y=Js/\s'={ s with heap:=((s.1.update a (qR λ_=>(#[]:Array Jw))).push (gt "tuple" vs.toArray 0)).push (gt "list" #[] 0) }/\Pm vs.9 p/\R p)
  () W (λI y s' O N M L=>#[I,O,N,M,L]) h
 rw[<- C]at v;refine QA (WD v ?_ λ_ _ e=>e);rintro⟨⟨⟩,y⟩ s' ⟨p,X,Y,J,rfl,G,Z⟩;dsimp only;have f:(arrOf y).map (·.2)=Wb (p.toList.map λi=>vs.getD i Jz):=by apply QAu.mp;rw[Y,Array.map_map,Array.toList_map];exact qV λi _=>by show(kas_item (Hz vs) i).2=_;rw[kas_item_eq]
 rw[f,J];exact fin p G Z
theorem E5{κ:Hy}(hl:s.1.IsList l vs.toArray)(e:vs.9<64)
  (kind:2<=vs.9->∀h:j0,(∀b o,s.1.get? b=Jr o->h.get? b=Jr o)->∀Q:Hy->jx->Prop,Q κ { s with heap:=h }->jy (js prog w) A.in1.in1 (Hs vs.toArray) Q E { s with heap:=h })
  (x:2<=vs.9->∀h:j0,(∀b o,s.1.get? b=Jr o->h.get? b=Jr o)->(kas_sort vs.9).kasWp (kas_ask prog w A.in1.in1 κ vs) (λp s'=>s'={ s with heap:=h }/\Pm vs.9 p/\R p) { s with heap:=h })
  (g:vs.9<2->R (Wb (Qm vs.9)))
  (k:∀p:Array Nat,Pm vs.9 p->R p->Q (.ref (s.1.1.size+1)) { s with heap:=sortedAll s.1 vs (p.toList.map λi=>vs.getD i Jz).toArray }):jy (js prog w) A (Xw (.builtin "sorted") [.ref l]) Q E s:=by
 refine QAF QD0 QDX QDY (QDZ _) ?_;unfold Builtin.«sorted»;refine QA (m:=Zs "sorted" 1 1 _) (QH (QA (collect_list hl ?_ ())));refine QA (QBw ?_ (by show vs.9<=_;omega));have z:((s.1.push (gt "list" #[] 0)).update s.1.1.size (qR (·++vs.toArray))).1.size=s.1.1.size+1:=by rw[Heap.size_update,QEC]
 have u:(((s.1.push (gt "list" #[] 0)).update s.1.1.size (qR (·++vs.toArray))).push (gt "list" vs.toArray 0)).get? (s.1.1.size+1)=Jr (gt "list" vs.toArray 0):=by rw[<- z];exact QO _ rfl
 have v:∀b o,s.1.get? b=Jr o->(((s.1.push (gt "list" #[] 0)).update s.1.1.size (qR (·++vs.toArray))).push (gt "list" vs.toArray 0)).get? b=Jr o:=λb o q=>by have a:b<s.1.1.size:=QR q;refine QJ _ ?_;rw[Heap.get?_update_ne _ _ _ _ (Qc a)];exact QJ _ q
 show jy _ _ _ _ _ { s with heap:=((s.1.push (gt "list" #[] 0)).update s.1.1.size (qR (·++vs.toArray))).push (gt "list" vs.toArray 0) };rw[z];refine QA (qG (Q6 QCk #[_,u,rfl] QCL ?body (QCl _)))
 case body=>have j:∀h:j0,(∀b o,b≠s.1.1.size+1->(((s.1.push (gt "list" #[] 0)).update s.1.1.size (qR (·++vs.toArray))).push (gt "list" vs.toArray 0)).get? b=Jr o->h.get? b=Jr o)->∀b o,s.1.get? b=Jr o->h.get? b=Jr o:=λh y b o q=>y b o (Qc (qh (QR q))) (v b o q);exact u1 (s:={ s with heap:=((s.1.push (gt "list" #[] 0)).update s.1.1.size (qR (·++vs.toArray))).push (gt "list" vs.toArray 0) }) u e (λf h y=>kind f h (j h y)) (λf h y=>x f h (j h y)) g λp n r=>#[_,rfl,QH #[_,rfl,k p n r]]
theorem JU{p:Array Nat}(h:Pm vs.9 p):(p.toList.map λi=>vs.getD i Jz).Perm vs:=by refine((QBN.mp h).map λi=>vs.getD i Jz).trans ?_;show((Qm vs.9).map λi=>vs.getD i Jz).Perm vs;rw[EL]
theorem A5(hl:s.1.IsList l vs.toArray)(f:vs.9<64)(Y:∀v∈vs,∃b o,v=.ref b/\s.1.get? b=Jr o/\o.cls=.type "list")
  (g:∀h:j0,(∀b o,s.1.get? b=Jr o->h.get? b=Jr o)->∀x∈vs,∀y∈vs,∀C:Bool->jx->Prop,(∀k,C k { s with heap:=h })->jy (js prog w) A.in1.in1 (keyLt' Hr x y) C (λ_ _=>False) { s with heap:=h })
  (k:∀out:LW,out.Perm vs->Q (.ref (s.1.1.size+1)) { s with heap:=sortedAll s.1 vs out.toArray }):jy (js prog w) A (Xw (.builtin "sorted") [.ref l]) Q E s:=by
 refine E5 (κ:=Hr) (R:=λ_=>True) hl f (λm h z Q q=>oj m (λv hv=>?_) q) (λm h z=>?_) (λ_=>trivial) λp u _=>k _ (JU u);let#[b,o,rfl,e,c]:=Y v hv;exact#[o,z b o e,c];have r:∀i,i<vs.9->vs.getD i Jz∈vs:=λi a=>by
  have:vs.getD i Jz=vs[i]:=by simp[a]
  rw[this];exact QB2 _
 exact MC.wp (λi j a X C Z=>g _ z _ (r i a) _ (r j X) C Z) (λp u=>#[rfl,u,trivial]) (kR (n:=vs.9) ())
end
end
section
variable{prog:jt}{w:jw}{A:j2}
theorem lf(Z:A.handled=Js)(j:jv)(z:Src)(m:z.adr≠j)(y:Array Jw)(c:Nat) :
  Draws prog w A j [j,z.adr] (c+y.size) (λi v=>∃k,i=c+k/\y[k]?=Jr v) (λi h=>∃k,i=c+k/\GD h j z k/\FB h z y) where
 live:=λ_ _ #[_,_,p,_]=>let#[o,e,_]:=p.obj;#[o,e]
 frame:=λ_ h f #[k,e,p,q] u=>#[k,e,p.keep λo x=>u j (by simp) o x,by
  cases z with|l a=>exact QDx.at q λo x=>u a (by simp[Src.adr]) o x|t a=>let#[o,Y,X]:=q;exact#[o,u a (by simp[Src.adr]) o Y,X]]
 item:=λi s Q E W #[k,e,p,q] n=>by
  have hk:k<y.size:=()
  exact K7 p q (x:=y[k]) (by simp[hk]) λf g b=>n _ f s.toks #[k,e,by simp[hk]] #[k+1,(),g,Nc q b m] b
 done:=λs Q E #[k,e,p,q] r=>by
  have hk:k=y.size:=()
  exact OZ Z p q (by simp[hk]) r
theorem mf(r:A.handled=Js)(j:jv)(z:Src)(y:Array Jw)(n k:Nat)(v:y[k]?=Js) :
  Draws prog w A j [j,z.adr] n (λ_ _=>False) (λi h=>i=n/\GD h j z k/\FB h z y) where
 live:=λ_ _ #[_,p,_]=>let#[o,e,_]:=p.obj;#[o,e]
 frame:=λ_ h Y #[e,p,q] u=>#[e,p.keep λo x=>u j (by simp) o x,by
  cases z with|l a=>exact QDx.at q λo x=>u a (by simp[Src.adr]) o x|t a=>let#[o,m,g]:=q;exact#[o,u a (by simp[Src.adr]) o m,g]]
 item:=λi s Q E b #[e,_,_] X=>h7 b ()
 done:=λs Q E #[_,p,q] f=>OZ r p q v f
def Yq(K:QE)(z:Src)(c:Nat):It :=
  #[λi H=>∃h x,FX K H z h/\h[i]?=Jr x,
   λi H v y=>∃p x,H p=Js/\v=.ref p/\y=XA H p (.tup [.int ((c+i:Nat):Int),x])/\∀h,FX K H z h->h[i]?=Jr x,
   λi H=>∃h,FX K H z h/\h.9<=i]
def XT(e j:jv)(z:Src)(c i:Nat)(h:j0):Prop:=(∃x,IsEnum h e j ((c+i:Nat):Int) x)/\GD h j z i
theorem SV{P:jt}{K:QE}{es:List Expr}{kk:Nat}{pp:Pos}{e j:jv}{z:Src}{c:Nat}(L:e≠j)(n2:z.adr≠e)(n3:z.adr≠j) :
  Turn P w K (.Tuple es kk pp) (Yq K z c) [e,j] e (XT e j z c) where
 mem:=by simp
 obj:=λi h st b hb=>by let#[#[a,g],n]:=st;simp only[QK,WF,or_false]at hb;rcases hb with rfl|rfl;exact#[_,g,λv q=>by cases(show Data.fields _=Data.cell v from q)];exact n.obj
 keep:=λi h h' st k=>by let#[#[a,g],n]:=st;exact#[#[a,k e (by simp) _ g],n.keep λo x=>k j (by simp) o x]
 item:=by
  intro X O M Q hc i r s σ H E I B st N;subst O M Q;let#[xs,x,C,ex]:=N;let#[f,J,F,_]:=I.src C;let#[u,hu,ru]:=J.get ex;let#[#[a,g],n]:=st;have hi:i<f.toArray.size:=by have:=(Qd.mp hu).1;simpa using this
  refine wpAny_pyNext_enum_itemD (lf (show X.A.in1.handled=Js from I.ok.hd hc) j z n3 f.toArray c) g #[i,rfl,n,F] () L (by simp[L,qC n2]) λy h' W #[k,ek,hy] b1 b2 b3 b4 b5=>?_;have ek:k=i:=()
  subst ek;have ey:y=u:=by
   have:f.toArray[k]?=Jr u:=by simpa using hu
   rw[this]at hy;exact(Q1 hy).symm
  subst ey;refine#[_,rfl,wpAny_letOwnedTupleGo_enum b1 λp c1 G=>?_];let#[k2,Z,b2,b2']:=b2;have Z:k2=k+1:=()
  subst Z;have hp:=I.hok.fresh (QX s.1.1.size);have Y:e<s.1.1.size:=QR g;have m:∀b∈[e,j],b<s.1.1.size:=λb hb=>by simp only[QK,WF,or_false]at hb;rcases hb with rfl|rfl;exact Y;exact n.lt
  have kept:∀b o,b∉[e,j]->s.1.get? b=Jr o->p.get? b=Jr o:=λb o hb q=>by simp only[QK,WF,or_false,not_or]at hb;exact(G.2 b hb.1).trans (b5 b o hb.1 hb.2 q)
  have l:p.get? s.1.1.size=Jr { cls:=.type "tuple",data:=.seq (Wb [.int ((c+k:Nat):Int) W,y]) }:=(G.2 _ (wa Y)).trans b3;have I1:=I.pair (x:=.int ((c+k:Nat):Int)) (h':=s.1.push { cls:=.type "tuple",data:=.seq (Wb [.int ((c+k:Nat):Int) W,y]) }) (t':=W+1) (λb o e=>QJ _ e) (QX _) (QO _ rfl) #[_,rfl] ru;have I2:=I1.turnedL (h':=p) (t':=W+1) (ch:=[e,j]) (λb o hb e=>by
   rcases QCY e with⟨q1,q2⟩| q;subst q1 q2;exact l;exact kept b o hb q) λb hb=>by
   let#[f0,f1,f2,f3,S,R]:=B b hb;exact#[by rw[xA (Qc (m b hb))];exact f0,f1,f2,f3,S,R]
  refine#[.ref s.1.1.size,_,I2,rfl,#[s.1.1.size,x,hp,rfl,rfl,λxs' g1=>?_],#[#[y,?_],b2.keep λo q=>(G.2 _ (qC L)).trans q],λb hb=>?_];rw[I.src_inj g1 C];exact ex;have:(((c+(k+1):Nat)):Int)=((c+k:Nat):Int)+1:=()
  rw[this];exact c1;rw[xA (Qc (m b hb))];exact(B b hb).1
 done:=by intro X O M Q hc i r s σ H E I B st N;subst O M Q;let#[xs,C,en]:=N;let#[f,J,F,_]:=I.src C;let#[#[a,g],n]:=st;have l1:=J.9;let#[f0,f1,f2,f3,S,R]:=B j (by simp);exact wpAny_pyNext_enum_endD (mf (show X.A.in1.handled=Js from I.ok.hd hc) j z f.toArray 0 i (by simp;omega)) g #[rfl,n,F] λh' eb=>#[rfl,I.turned (t':=s.toks) (λb o hb e=>eb b o hb e) f0 f1 f3 S R]
 self:=λ_ _ _ _ _ st h=>by let#[#[a,g],_]:=st;exact QDM g h
end
theorem cX(z:Src)(xs:Array Jw):Meets (Builtin.«enumerate.__new__» #[[.type "enumerate",.ref z.adr],[]]) (λ_ R s=>FB s.1 z xs /\
   R (.ok (.ret (.ref (s.1.push z.it).1.size))) { s with heap:=(s.1.push z.it).push { cls:=.type "enumerate",data:=.fields (Wb [.none,.bool Ju,.ref s.1.1.size,Kz 0,.none,.none]) } }) :=
 .of_wp λy w A R s h=>by
  let#[b,g,d,v,a]:=s;let#[k,h]:=h;have u:=sub_enumerate;have x:FB (Shared.heap #[b,g,d,v,a]) z xs:=k;wp_walk;refine wpAny_stack_any λst=>QH ?_;split;rename_i cl _ _ _ _ _;cases(cl==Value.type "enumerate")<;>(wp_walk using fP x;exact#[_,rfl,h])
  wp_walk using fP x;exact#[_,rfl,h]
section
variable{prog:jt}{w:jw}{A:j2}{E:ZB}{s:jx}
theorem oV{h:j0}{z:Src}{n:Int}:IsEnum ((h.push z.it).push { cls:=.type "enumerate",data:=.fields (Wb [.none,.bool Ju,.ref h.1.size,Kz n,.none,.none]) }) (h.1.size+1) h.1.size n .none:=by have:=QO (h.push z.it) (o:={ cls:=.type "enumerate",data:=.fields (Wb [.none,.bool Ju,.ref h.1.size,Kz n,.none,.none]) }) rfl;rw[wt]at this;exact this
theorem aT{z:Src}{xs:Array Jw}{Q:ZB}(y:FB s.1 z xs)
  (h:∀h',XT (s.1.1.size+1) s.1.1.size z 0 0 h'->(∀c o,s.1.get? c=Jr o->h'.get? c=Jr o)->Q (.ref (s.1.1.size+1)) { s with heap:=h' }):jy (js prog w) A (Xw (.type "enumerate") [.ref z.adr]) Q E s:=by
 refine callType_new PySem.F.called_enumerate (by decide) (PySem.F.typeCall_enumerate_1 _) (PySem.F.newCall_enumerate_1 _) (λobj=>PySem.F.args_object_init_2 obj _) PySem.F.entry_enumerate_new (cX z xs) #[y,?_];show _/\_;rw[wt];exact#[#[_,oV,rfl],h _ #[#[.none,oV],(S5 s.1 z).keep λo e=>QJ _ e] λc o x=>QJ _ (QJ _ x)]
end
theorem jr{a b:Nat}(h:a≠b):((a:jv)≠(b:jv)):=h
end L2.L3
namespace L2
open PySem PySem.Spec PyProof.Rows PySem.SeqAt
inductive NK where
 |s (x:Str)|t (xs:List NK)
noncomputable instance:DecidableEq NK:=λ_ _=>Classical.propDecidable _
mutual
def jH(h:j0):NK->Jw->Prop
 | .s x,v=>∃t,v=.str x t|.t ks,v=>∃a y,v=.ref a/\h.IsTuple a y/\NKvs h ks y.toList
def NKvs(h:j0):List NK->LW->Prop
 |[],vs=>vs=[]|k::ks,vs=>∃v r,vs=v::r/\jH h k v/\NKvs h ks r
end
mutual
def DN:NK->Nat
 | .s _=>0|.t h=>nkds h+1
def nkds:List NK->Nat
 |[]=>0|k::ks=>max (DN k) (nkds ks)
end
mutual
def MI(w:jw):NK->Int
 | .s x=>hashStr w x|.t h=>reduceHash (QBY (nkhs w h))
def nkhs(w:jw):List NK->LJ
 |[]=>[]|k::ks=>MI w k::nkhs w ks
end
mutual
def ae:NK->Nat
 | .s _=>1|.t h=>nkts h+1
def nkts:List NK->Nat
 |[]=>0|k::ks=>ae k+nkts ks
end
theorem MT{h:j0}{a:jv}{xs x:Array Jw}(p:h.IsTuple a xs)(q:h.IsTuple a x):xs=x:=by let#[o,e,_,n,d]:=p;let#[u,y,_,v,z]:=q;cases e.symm.trans y;cases d.symm.trans z;rfl
mutual
theorem FN{h:j0}:∀{k l:NK}{v:Jw},jH h k v->jH h l v->k=l
 | .s x,.s y,v,#[t,e],#[u,e']=>by subst e;cases e';rfl|.s x,.t ls,v,#[t,e],#[_,_,e',_]=>by subst e;cases e'|.t ks,.s y,v,#[_,_,e,_],#[_,e']=>by subst e;cases e'|.t ks,.t ls,v,#[a,its,e,p,q],#[b,jts,e',p',q']=>by subst e;cases e';cases MT p p';rw[nks_inj q q']
theorem nks_inj{h:j0}:∀{ks ls:List NK}{vs:LW},NKvs h ks vs->NKvs h ls vs->ks=ls
 |[],[],_,_,_=>rfl|[],_::_,_,e,#[_,_,e',_]=>by cases(show _=[] from e).symm.trans e'|_::_,[],_,#[_,_,e',_],e=>by cases(show _=[] from e).symm.trans e'|k::ks,l::ls,_,#[v,r,e,p,q],#[v',r',e',p',q']=>by cases e.symm.trans e';rw[FN p p',nks_inj q q']
end
mutual
theorem kE{h h':j0}(k:∀a its,h.IsTuple a its->h'.IsTuple a its):∀{x:NK}{v:Jw},jH h x v->jH h' x v
 | .s x,v,e=>e|.t ks,v,#[a,its,e,p,q]=>#[a,its,e,k a its p,nks_keeps k q]
theorem nks_keeps{h h':j0}(k:∀a its,h.IsTuple a its->h'.IsTuple a its):∀{xs:List NK}{vs:LW},NKvs h xs vs->NKvs h' xs vs
 |[],_,e=>e|x::xs,_,#[v,r,e,p,q]=>#[v,r,e,kE k p,nks_keeps k q]
end
section
variable{prog:jt}{w:jw}{E:ZB}
mutual
theorem MU:∀(k:NK) (v:Jw) (A:j2) (s:jx) (Q:Int->jx->Prop),jH s.1 k v->A.units+DN k<kx->Q (MI w k) { s with toks:=s.toks+ae k }->jy (js prog w) A (pyHash v) Q E s
 | .s x,v,A,s,Q,#[t,e],_,q=>by subst e;exact QDe q|.t ks,v,A,s,Q,#[a,its,e,#[o,ho,hc,n,hd],hi],h,q=>by subst e;have h:A.units+(nkds ks+1)<cLine:=h;refine PySem.W.pyHash_slot (T:="tuple") #[o,ho,hc] QDN F.entry_tuple_hash (F.args_tuple_hash_1 _) (beq_builtin_none _) (.inr ()) ?_;show jy _ _ (QBM (.ref a) >>= _) _ _ s;refine QA (wpAny_tupleItemsOf ho hd ?_);refine QA ?_;rw[<- QAV];refine nk_loop ks its.toList A.in1 s #[] _ hi (by rw[QB3];omega) λb hb=>?_;show jy _ _ (retInt (QBY b.toList)) _ _ _;rw[hb];exact QA (wpAny_mkInt (QH #[_,_,rfl,by rw[Nat.add_assoc];exact q]))
theorem nk_loop:∀(ks:List NK) (vs:LW) (A:j2) (s:jx) (b:Array Int) (Q:Array Int->jx->Prop),NKvs s.1 ks vs->A.units+nkds ks<kx ->
  (∀y,y.toList=b.toList++nkhs w ks->Q y { s with toks:=s.toks+nkts ks }) ->
  jy (js prog w) A (forIn vs b λx r=>do let h <- pyHash x;hT PUnit.unit;hT (ForInStep.yield (r.push h))) Q E s
 |[],vs,A,s,b,Q,e,_,q=>by subst e;exact QH (q b (wH _).symm)|k::ks,vs,A,s,b,Q,#[v,r,e,p,p'],z,q=>by subst e;have z:A.units+max (DN k) (nkds ks)<cLine:=z;rw[QAS];refine QA (QA (MU k v A s _ p () ?_));refine QA (QH (QH ?_));refine nk_loop ks r A _ _ Q p' () λy hb=>?_;have e:s.toks+ae k+nkts ks=s.toks+(ae k+nkts ks):=Nat.add_assoc _ _ _;have:=q y (by rw[hb,W5,qg];rfl);show Q y { s with toks:=s.toks+ae k+nkts ks };rw[e];exact this
end
end
theorem cg{ks ls:List NK}{n m:Nat}(x:n=ks.9)(hm:m=ls.9):((Qm (min n m)).all (λj=>decide (ks[j]?=ls[j]?))&&n==m)=decide (NK.t ks=NK.t ls):=by subst x hm;rw[qd,Fy,Qe,qN,beq_iff_eq];constructor;rintro⟨y,u⟩;congr 1;refine wV λj=>?_;by_cases z:j<ks.9;exact Fx (y j (Q8.mpr ()));rw[qL (),qL ()];intro h;injection h with h;subst h;exact#[λ_ _=>dT rfl,rfl]
theorem YH{h:j0}:∀{ks:List NK}{vs:LW},NKvs h ks vs->vs.9=ks.9
 |[],_,e=>by cases(show _=[] from e);rfl|_::_,_,#[v,r,e,_,q]=>by rw[e,QL,QL,YH q]
mutual
theorem IZ:∀(k l:NK) (v u:Jw) (A:j2) (s:jx),jH s.1 k v->jH s.1 l u->A.units+DN k<kx->EqAt A s v u (decide (k=l))
 | .s x,.s y,v,u,A,s,#[t,e],#[t',e'],_=>by
  subst e e';have:=EqAt.str_str (A:=A) (s:=s) x t y t';have z:(x==y)=decide (NK.s x=NK.s y):=by rw[qd,Fy,beq_iff_eq];exact#[λh=>h▸rfl,λh=>by injection h]
  rw[<- z];exact this
 | .s x,.t ls,v,u,A,s,#[t,e],#[b,jts,e',p,_],f=>by subst e e';rw[dF λh=>by cases h];exact EqAt.str_tuple x t p ()|.t ks,.s y,v,u,A,s,#[a,its,e,p,_],#[t,e'],f=>by subst e e';rw[dF λh=>by cases h];exact EqAt.tuple_str y t p ()|.t ks,.t ls,v,u,A,s,#[a,its,e,p,q],#[b,jts,e',p',q'],f=>by subst e e';by_cases w:a=b;subst w;cases MT p p';rw[nks_inj q q',dT rfl];exact EqAt.same _;have f:A.units+(nkds ks+1)<cLine:=f;refine EqAt.of_refs w ?_;have i:=YH q;have g:=YH q';rw[QN]at i g;rw[<- cg i g];refine RcAt.tuples p p' () λj n m=>?_;have:=nks_eq ks ls its.toList jts.toList A.in1 s q q' (by rw[QB3];omega) j (by rw[QN];exact n) (by rw[QN];exact m);simpa using this
theorem nks_eq:∀(ks ls:List NK) (vs us:LW) (A:j2) (s:jx),NKvs s.1 ks vs->NKvs s.1 ls us->A.units+nkds ks<kx->∀j (y:j<vs.9) (x:j<us.9),EqAt A s vs[j] us[j] (decide (ks[j]?=ls[j]?))
 |[],_,vs,us,A,s,e,_,_,j,y,_=>by cases(show vs=[] from e);cases y|_::_,[],vs,us,A,s,_,e,_,j,_,x=>by cases(show us=[] from e);cases x|k::ks,l::ls,_,_,A,s,#[v,r,e,p,q],#[v',r',e',p',q'],u,j,y,x=>by
  subst e e';have u:A.units+max (DN k) (nkds ks)<cLine:=u;cases j with|zero=>have:=IZ k l v v' A s p p' ();have z:decide (k=l)=decide ((k::ks)[0]?=(l::ls)[0]?):=decide_eq_decide.mpr #[λh=>by rw[h];rfl,λh=>Q1 h];rw[<- z];exact this|succ j=>exact nks_eq ks ls r r' A s q q' () j (wO y) (wO x)
end
section
variable{prog:jt}{w:jw}{A:j2}{E:ZB}{s:jx}
mutual
theorem nF:∀(k:NK) (v:Jw) (n:Nat) (Q:Bool->jx->Prop),jH s.1 k v->DN k<=n->Q Jt s->jy (js prog w) A (Yw n v) Q E s
 | .s x,v,n,Q,#[t,e],_,q=>by subst e;rw[eqIsQuiet_byValue _ rfl];exact QH q|.t ks,v,n,Q,#[a,its,e,#[o,ho,hc,m,hd],hi],g,q=>by
  subst e;have g:nkds ks+1<=n:=g;obtain⟨n,rfl⟩:∃m,n=m+1:=#[n - 1,()]
  have i:s.TypeIs (.ref a) "tuple":=#[o,ho,hc]
  unfold Yw;refine QA (QBF i F.slot_tuple_eq.lookup ?_);show jy _ _ (isInstance (.ref a) (.type "tuple") >>= _) _ _ s;refine QA (Wi i isSubtype_tuple_tuple ?_);simp only[QA6,qF,if_false];refine QA (QAD ho hd ?_);refine QA ?_;show jy _ _ (forIn its _ _) _ _ s;rw[<- QAV];refine QB4 _ (λh r z=>r.1=Js/\z=s/\∀v∈h,∀Q:Bool->jx->Prop,Q Jt s->jy (js prog w) A (Yw n v) Q E s) _ ?_ ?_ _ _ #[rfl,rfl,nks_quiet ks its.toList n hi ()];rintro v h r z ⟨f,rfl,y⟩;refine QA (y v QD _ ?_);simp only[QA6,qF,if_false];exact QH #[rfl,rfl,λu b=>y u (QC _ b)];rintro⟨j,l⟩ z ⟨f,rfl,_⟩;cases(show j=Js from f);exact QH q
theorem nks_quiet:∀(ks:List NK) (vs:LW) (n:Nat),NKvs s.1 ks vs->nkds ks<=n->∀v∈vs,∀Q:Bool->jx->Prop,Q Jt s->jy (js prog w) A (Yw n v) Q E s
 |[],vs,n,e,_,v,hv,Q,q=>by cases(show vs=[] from e);cases hv|k::ks,vs,n,#[x,r,e,p,p'],h,v,hv,Q,q=>by subst e;have h:max (DN k) (nkds ks)<=n:=h;rcases QK.mp hv with rfl|hv;exact nF k v n Q p () q;exact nks_quiet ks r n p' () v hv Q q
end
end
end L2
namespace L2.L3
open PySem
noncomputable def xB{α:Type}(f:α->α):Nat->α->α
 |0,x=>x|n+1,x=>xB f n (f x)
theorem TB{α:Type}(f:α->α):∀(n m:Nat) (x:α),xB f (n+m) x=xB f m (xB f n x)
 |0,m,x=>by rw[Wt];rfl|n+1,m,x=>by rw[Nat.add_right_comm];exact TB f n m (f x)
theorem vV{α:Type}(f:α->α)(n:Nat)(x:α):xB f (n+1) x=f (xB f n x):=TB f n 1 x
def gM(m x:Nat):Nat:=(x * 5+1) % (m+1)
noncomputable def Lm(m:Nat):Nat->Nat->LN
 |0,_=>[]|n+1,x=>x::Lm m n (gM m x)
theorem sZ{m:Nat}:∀(n x e:Nat),e∈Lm m n x->∃k,k<n/\xB (gM m) k x=e
 |0,_,_,h=>by cases h|n+1,x,e,h=>by rcases QK.mp h with rfl|h;exact#[0,QAO _,rfl];let#[k,hk,e]:=sZ n _ _ h;exact#[k+1,QDm hk,e]
def gX(m:Nat):Bool:=(Qm (m+1)).all (λe=>(Lm m (m+1) 0).contains e)&&xB (gM m) (m+1) 0==0
theorem Cj:gX 7=true:=by decide +kernel
theorem Zf:gX 31=true:=by decide +kernel
theorem B8:gX 127=true:=by decide +kernel
theorem U8:gX 511=true:=by decide +kernel
def FV(m:Nat):Prop:=m=7∨m=31∨m=127∨m=511
theorem FV.cyc{m:Nat}(h:FV m):gX m=true:=by rcases h with rfl|rfl|rfl|rfl;exact Cj;exact Zf;exact B8;exact U8
theorem X8{m:Nat}(h:FV m){i e:Nat}(v:i<=m)(y:e<=m):∃n,n<=m/\xB (gM m) n i=e:=by have c:=h.cyc;unfold gX at c;rw[Qe,qN,beq_iff_eq]at c;let#[f,w]:=c;have x:∀e,e<=m->∃k,k<m+1/\xB (gM m) k 0=e:=λe y=>sZ _ _ _ (by simpa using f e (Q8.mpr (QBk y)));let#[a,g,u]:=x i v;let#[b,hb,z]:=x e y;by_cases c:a<=b;refine#[b - a,(),?_];rw[<- u,<- TB,show a+(b - a)=b by omega,z];refine#[(m+1 - a)+b,(),?_];rw[<- u,<- TB,show a+((m+1 - a)+b)=(m+1)+b by omega,TB,w,z]
def KS(m:Nat)(x:Nat×Nat):Nat×Nat:=QAW m x.1 x.2
theorem AU(m:Nat):∀(n:Nat) (x:Nat×Nat),(xB (KS m) n x).2=x.2 / 32 ^ n
 |0,x=>by rw[Nat.pow_zero,Nat.div_one];rfl|n+1,x=>by show(xB (KS m) n (KS m x)).2=_;rw[AU m n];show x.2 / 32 / 32 ^ n=_;rw[Nat.div_div_eq_div_mul,Nat.pow_succ,Nat.mul_comm]
theorem TU(m:Nat):∀(n i:Nat),xB (KS m) n (i,0)=(xB (gM m) n i,0)
 |0,_=>rfl|n+1,i=>by
  show xB (KS m) n (KS m (i,0))=_;have e:KS m (i,0)=(gM m i,0):=by show((i * 5+1+0 / 32) % (m+1),0 / 32)=_;rw[Nat.zero_div];rfl
  rw[e,TU m n];rfl
theorem J1{m:Nat}(h:FV m){x:Nat×Nat}(v:x.2<2 ^ 64){e:Nat}(w:e<=m):∃n,n<=m+13/\(xB (KS m) n x).1=e:=by
 have z:(xB (KS m) 13 x).2=0:=by rw[AU];exact Nat.div_eq_of_lt (Qt v (by decide))
 have u:(xB (KS m) 13 x).1<=m:=by rw[vV (KS m) 12];exact qu (QBC _ (QAO _))
 let#[n,a,k]:=X8 h u w;refine#[13+n,(),?_];rw[TB];generalize xB (KS m) 13 x=y at *;let#[i,p]:=y;have z:p=0:=z;subst z;rw[TU];exact k
def Lo(m:Nat)(p:wY):Prop:=p.j=p.i/\p.more=qm m p.i - p.i
theorem Rc(m i:Nat):qm m i - i<=9:=by unfold qm;split<;>omega
section
variable{t:j1}
theorem FO:∀(k:Nat) (p:wY),p.more=k->xB t.advance (k+1) p={ p with j:=(QAW t.mask p.i p.perturb).1,more:=qm t.mask (QAW t.mask p.i p.perturb).1 - (QAW t.mask p.i p.perturb).1,i:=(QAW t.mask p.i p.perturb).1,perturb:=(QAW t.mask p.i p.perturb).2 }
 |0,p,e=>by show t.advance p=_;unfold Wj;rw[hI ()]|k+1,p,e=>by
  show xB t.advance (k+1) (t.advance p)=_;have h:t.advance p={ p with j:=p.j+1,more:=p.more - 1 }:=by unfold Wj;rw[hQ ()]
  rw[h,FO k _ (by show p.more - 1=k;omega)]
theorem xR:∀(r:Nat) (p:wY),Lo t.mask p->∃k,k<=10 * r/\Lo t.mask (xB t.advance k p)/\((xB t.advance k p).i,(xB t.advance k p).perturb)=xB (KS t.mask) r (p.i,p.perturb)/\(xB t.advance k p).dummy=p.dummy
 |0,p,h=>#[0,QX _,h,rfl,rfl]|r+1,p,h=>by have e:=FO (t:=t) p.more p rfl;have u:=Rc t.mask p.i;have hm:=h.2;let#[k,hk,z,y,x]:=xR r (xB t.advance (p.more+1) p) (by rw[e];exact#[rfl,rfl]);refine#[p.more+1+k,(),?_];rw[TB];refine#[z,?_,?_];rw[y,e];rfl;rw[x,e]
theorem AX(h:FV t.mask)(x:Int){e:Nat}(y:e<=t.mask):∃k,k<=10 * (t.mask+13)/\(xB t.advance k (t.probeStart x)).j=e/\(xB t.advance k (t.probeStart x)).dummy=none:=by
 have hb:qD x<2 ^ 64:=by unfold qD;have:=Qk x (show(0:Int)<2 ^ 64 by decide);have:=Qn x (show(2 ^ 64:Int)≠0 by decide);omega
 let#[n,a,w]:=J1 h (x:=((t.probeStart x).i,(t.probeStart x).perturb)) hb y;let#[k,hk,v,u,z]:=xR n (t.probeStart x) #[rfl,rfl];refine#[k,(),?_,z];rw[v.1,<- w,<- u]
end
section
variable{t:j1}{j m n:Nat}{u:Array (Option Nat)}
theorem OL{i:Nat}(h:t.slot j=.live i):t.place[i]?=Jr j:=by unfold QBx at h;dsimp only at h;split at h;rename_i c;injection h with h;rw[<- h];exact beq_iff_eq.mp c;split at h<;>cases h
theorem NR(x:t.dummies=#[])(h:j∉t.place.toList):t.slot j=.empty:=by unfold QBx;dsimp only;rw[hI λc=>h (by have:=beq_iff_eq.mp c;rw[<- QY]at this;exact Qq this)];rw[hI];intro c;unfold QCM at c;rw[x]at c;have:=beq_iff_eq.mp c;simp at this
theorem PJ(h:t.dummies=#[])(j:Nat):t.slot j=.empty∨∃i,t.slot j=.live i:=by
 unfold QBx;dsimp only;split;exact .inr #[_,rfl];rw[hI]
 ·exact .inl rfl
 intro c;unfold QCM at c;rw[h]at c;have:=beq_iff_eq.mp c;simp at this
theorem AM:∀(l y:LN),l.Nodup->(∀x∈l,x∈y)->l.9<=y.9
 |[],_,_,_=>Q5 _|a::l,y,nd,h=>by let#[k,w]:=Qa.mp nd;have v:=h a QD;have:=AM l (y.erase a) w λx z=>(W9 (λe:x=a=>k (by rw[<- e];exact z))).mpr (h x (QC _ z));rw[WW v]at this;have:=wP v;rw[QL];omega
theorem JZ{l:LN}(h:l.9<=m):∃e,e<=m/\e∉l:=by refine qW λn=>?_;have all:∀e,e∈Qm (m+1)->e∈l:=λe x=>qW λz=>n #[e,qu (Q8.mp x),z];have:=AM _ _ QAz all;rw[qM]at this;omega
structure TbO(t:j1)(n:Nat):Prop where
 m:FV t.mask
 d:t.dummies=#[]
 s:t.place.size=n
 f:n<=t.mask
def Y5(t:j1)(ha:Nat->Int)(x:Int)(p:wY):Prop:=∃i,t.slot p.j=.live i/\ha i≠x
theorem bV{t:j1}(b:t.dummies=#[]){ha:Nat->Int}{x:Int}:∀(n f:Nat) (p:wY),n<f->p.dummy=Js->t.slot (xB t.advance n p).j=.empty ->
  (∃k,k<=n/\QAh t ha x f p=Jr (.empty (xB t.advance k p).j Js)/\t.slot (xB t.advance k p).j=.empty/\∀m,m<k->Y5 t ha x (xB t.advance m p))∨∃k i,k<n/\QAh t ha x f p=Jr (.candidate (xB t.advance k p).j i (xB t.advance (k+1) p))/\t.slot (xB t.advance k p).j=.live i/\∀m,m<k->Y5 t ha x (xB t.advance m p)
 |n,0,_,h,_,_=>h7 h (wg _)|0,f+1,p,_,hp,h=>by refine .inl #[0,QX _,?_,h,λm hm=>h7 hm (wg _)];have h:t.slot p.j=.empty:=h;unfold QAh;rw[h];show Jr (SetTable.Met.empty p.j p.dummy)=_;rw[hp];rfl|n+1,f+1,p,hf,hp,h=>by
  unfold QAh;rcases PJ b p.j with e|⟨i,e⟩
  refine .inl #[0,Q5 _,?_,e,λm hm=>h7 hm (wg _)];rw[e];show Jr (SetTable.Met.empty p.j p.dummy)=_;rw[hp];rfl;rw[e];dsimp only;split;exact .inr #[0,i,QAO _,rfl,e,λm hm=>h7 hm (wg _)];rename_i c;have g:(t.advance p).dummy=none:=by unfold Wj;split;exact hp;exact hp
  have l:Y5 t ha x p:=#[i,e,λz=>c (beq_iff_eq.mpr z)]
  have a:∀k,(∀m,m<k->Y5 t ha x (xB t.advance m (t.advance p)))->∀m,m<k+1->Y5 t ha x (xB t.advance m p):=λk hk m hm=>by
   cases m with|zero=>exact l|succ m=>exact hk m (wO hm)
  rcases bV b (ha:=ha) (x:=x) n f (t.advance p) (wO hf) g h with⟨k,hk,w,v,y⟩| ⟨k,i,hk,w,v,y⟩
  exact .inl #[k+1,QDj hk,w,v,a k y];exact .inr #[k+1,i,QDm hk,w,v,a k y]
theorem zS(h:TbO t n)(x:Int):∃N,N<=10 * (t.mask+13)/\∀(ha:Nat->Int) k,k<=N ->
  (∃q,k<=q/\q<=N/\t.probe ha x (xB t.advance k (t.probeStart x))=Jr (.empty (xB t.advance q (t.probeStart x)).j Js)/\t.slot (xB t.advance q (t.probeStart x)).j=.empty/\∀m,k<=m->m<q->Y5 t ha x (xB t.advance m (t.probeStart x))) ∨
  ∃q i,k<=q/\q<N/\t.probe ha x (xB t.advance k (t.probeStart x))=Jr (.candidate (xB t.advance q (t.probeStart x)).j i (xB t.advance (q+1) (t.probeStart x)))/\t.slot (xB t.advance q (t.probeStart x)).j=.live i/\∀m,k<=m->m<q->Y5 t ha x (xB t.advance m (t.probeStart x)):=by
 let#[e,r,p]:=JZ (l:=t.place.toList) (m:=t.mask) (by rw[QN,h.s];exact h.f);let#[N,X,Y,_]:=AX h.m x r;refine#[N,X,λha k hk=>?_];have o:∀k,(xB t.advance k (t.probeStart x)).dummy=none:=λk=>by
  induction k with|zero=>rfl|succ k g=>rw[vV];unfold Wj;split;exact g;exact g
 have v:=bV h.d (ha:=ha) (x:=x) (N - k) (10 * wZ t.mask) (xB t.advance k (t.probeStart x)) (by unfold wZ;omega) (o k) (by rw[<- TB,show k+(N - k)=N by omega,Y];exact NR h.d p);have b:∀q,(∀m,m<q->Y5 t ha x (xB t.advance m (xB t.advance k (t.probeStart x))))->∀m,k<=m->m<k+q->Y5 t ha x (xB t.advance m (t.probeStart x)):=λq w m z y=>by have:=w (m - k) ();rw[<- TB,show k+(m - k)=m by omega]at this;exact this
 rcases v with⟨q,w,z,y,a⟩| ⟨q,i,w,z,y,a⟩
 rw[<- TB]at z y;exact .inl #[k+q,(),(),z,y,b q a];rw[<- TB,<- TB]at z;rw[<- TB]at y;exact .inr #[k+q,i,(),(),z,y,b q a]
theorem rM{m:Nat}(hm:FV m){u:Array (Option Nat)}(hs:u.size=m+1){e:Nat}(v:e<=m)(y:u[e]?=Jr Js):∀(n f:Nat) (x:Nat×Nat),n<f->(xB (KS m) n x).1=e->x.1<=m->∃j,qJ m u f x.1 x.2=Jr j/\j<=m/\u[j]?=Jr Js
 |n,0,_,h,_,_=>h7 h (wg _)|n,f+1,x,hf,h,hx=>by
  unfold qJ;have rl:∀k,k∈Qm (qm m x.1+1 - x.1)->x.1+k<=m:=λk hk=>by have:=Q8.mp hk;unfold qm at this;split at this<;>omega
  cases c:(Qm (qm m x.1+1 - x.1)).find? (λk=>(u.getD (x.1+k) (Jr 0)).isNone) with
  |some k =>
   have hk:=rl k (List.mem_of_find?_eq_some c);refine#[x.1+k,rfl,hk,?_];have:=List.find?_some c;have lt:x.1+k<u.size:=()
   have z:u.getD (x.1+k) (Jr 0)=u[x.1+k]:=by simp[QDJ,lt]
   rw[z]at this;rw[Qp lt];rw[QBZ]at this;rw[this]
  |none =>
   cases n with
   |zero =>
    have h:x.1=e:=h;have:=QC5.mp c 0 (Q8.mpr (by unfold qm;split<;>omega));refine h7 ?_ this;rw[Nat.add_zero,h];have lt:e<u.size:=()
    have z:u.getD e (Jr 0)=u[e]:=by simp[QDJ,lt]
    rw[Qp lt]at y;rw[z,Q1 y];rfl
   |succ n=>have:=rM hm hs v y n f (KS m x) (wO hf) h (qu (QBC _ (QAO _)));exact this
structure OwO(m:Nat)(u:Array (Option Nat))(n:Nat):Prop where
 s:u.size=m+1
 c:∀k:Nat,k<n->∃j:Nat,j<=m/\u[j]?=Jr (Jr k)
 l:∀(j k:Nat),u[j]?=Jr (Jr k)->k<n
 i:∀(j j' k:Nat),u[j]?=Jr (Jr k)->u[j']?=Jr (Jr k)->j=j'
theorem R6(h:OwO m u n)(r:n<=m):∃e,e<=m/\u[e]?=Jr none:=by
 refine qW λz=>?_;have all:∀e,e<=m->∃k,u[e]?=Jr (Jr k):=λe v=>by
  have lt:e<u.size:=by rw[h.s];omega
  cases c:u[e]'lt with|none=>exact h7 #[e,v,by rw[Qp lt,c]] z|some k=>exact#[k,by rw[Qp lt,c]]
 have f:∀e,∃k,e<=m->u[e]?=Jr (Jr k):=λe=>by by_cases c:e<=m;let#[k,hk]:=all e c;exact#[k,λ_=>hk];exact#[0,λz=>h7 z c]
 let#[f,y]:=Classical.axiomOfChoice f;have nd:((Qm (m+1)).map f).Nodup:=by refine WB.mpr (QAi.mpr ((WB.mp QAz).imp_of_mem λ{a b} p hb g e=>g ?_));have w:=y a (qu (Q8.mp p));have q:=y b (qu (Q8.mp hb));rw[e]at w;exact h.i a b _ w q
 have:=AM _ (Qm n) nd λx o=>by let#[e,v,rfl]:=QV.mp o;exact Q8.mpr (h.l e _ (y e (qu (Q8.mp v))))
 rw[QF,qM,qM]at this;omega
theorem Od(h:OwO m u n)(v:j<=m)(w:u[j]?=Jr Js):OwO m (u.setIfInBounds j (Jr n)) (n+1):=by
 have hs:=h.s;have lt:j<u.size:=()
 have e:∀a,(u.setIfInBounds j (Jr n))[a]?=if j=a then Jr (Jr n) else u[a]?:=λa=>by rw[Ws];split;rename_i c;subst c;rfl;rfl
 refine#[by rw[Array.size_setIfInBounds,hs],λk hk=>?_,λa k x=>?_,λa b k x hb=>?_];by_cases c:k=n
 ·exact#[j,v,by rw[e,hQ rfl,c]]
 let#[a,x,y]:=h.c k ();refine#[a,x,?_];rw[e,hI λz=>by subst z;rw[w]at y;cases y];exact y;rw[e]at x;split at x;cases x;omega;have:=h.l a k x;omega;rw[e]at x hb;split at x;rename_i c1;cases x;split at hb;rename_i c2;exact c1.symm.trans c2;have:=h.l b _ hb;omega;split at hb
 ·cases hb
  have:=h.l a _ x;omega
 exact h.i a b k x hb
theorem NG{m:Nat}(hm:FV m):∀(hs:LJ) (u:Array (Option Nat)) (n:Nat),OwO m u n->n+hs.length<=m->∃y,(hs.foldl (λz h=>do
  let(owner,k) <- z
  let j <- qJ m owner (wZ m) (qD h % (m+1)) (qD h)
  hT (owner.setIfInBounds j (Jr k),k+1)) (Jr (u,n)))=Jr (y,n+hs.length)/\OwO m y (n+hs.length)
 |[],u,n,h,_=>#[u,rfl,h]|x::hs,u,n,h,hl=>by
  rw[QL]at hl;let#[e,v,b]:=R6 h ();have hb:qD x<2 ^ 64:=by unfold qD;have:=Qk x (show(0:Int)<2 ^ 64 by decide);have:=Qn x (show(2 ^ 64:Int)≠0 by decide);omega
  let#[q,o,l]:=J1 hm (x:=(qD x % (m+1),qD x)) hb v;let#[j,i,g,f]:=rM hm h.s v b q (wZ m) (qD x % (m+1),qD x) (by unfold wZ;omega) l (qu (QBC _ (QAO _)));let#[y,a,w]:=NG hm hs _ (n+1) (Od h g f) ();refine#[y,?_,by rw[QL,show n+(hs.length+1)=n+1+hs.length by omega];exact w];rw[wc,QL,show n+(hs.length+1)=n+1+hs.length by omega,<- a];congr 1;show(qJ m u (wZ m) (qD x % (m+1)) (qD x) >>= λj=>hT (u.setIfInBounds j (Jr n),n+1))=_;rw[i];rfl
theorem OW{f v:Nat}{l p:Bool}{hs:Array Int}(hm:FV m)(hl:hs.size<=m):∃t o,QAX m f v l p hs=Jr (t,o)/\TbO t hs.size/\t.mask=m/\t.led=l/\t.plain=p/\o.toList.Perm (Qm hs.size):=by
 have r:∀j k:Nat,(QAY (m+1) (none:Option Nat))[j]?≠Jr (Jr k):=λj k h=>by rw[QBl]at h;split at h<;>cases h
 have h0:OwO m (QAY (m+1) Js) 0:=#[QCZ,λk hk=>h7 hk (wg _),λj k h=>h7 h (r j k),λj _ k h=>h7 h (r j k)]
 let#[u,e,g]:=NG hm hs.toList _ 0 h0 (by rw[QN];omega);rw[Wt,QN]at e g;have K:W6 m hs=Jr u:=by unfold W6;rw[<- QC6,e];rfl
 have w:∀j k:Nat,u.getD j Js=Jr k↔u[j]?=Jr (Jr k):=λj k=>by
  rw[wL];cases c:u[j]? with|none=>exact#[λz=>(by cases z),λz=>(by cases z)]|some y=>exact#[λz=>(by rw[show y=Jr k from z]),λz=>Q1 z]
 have W:(((Qm (m+1)).filterMap λj=>(u.getD j Js).map (j,·)).map (·.2))=(Qm (m+1)).filterMap λj=>u.getD j none:=by rw[QC7];congr 1;funext j;cases u.getD j Js<;>rfl
 have q:(((Qm (m+1)).filterMap λj=>(u.getD j Js).map (j,·)).map (·.2)).Perm (Qm hs.size):=by rw[W];refine(W7 ?_ QAz).mpr λk=>?_;refine WB.mpr (QBy.mpr ((WB.mp QAz).imp λ{a b} s x Y y X e=>s ?_));subst e;exact g.i a b x ((w a x).mp Y) ((w b x).mp X);rw[QAR,Q8];constructor;rintro⟨j,_,h⟩;exact g.l j k ((w j k).mp h);intro h;let#[j,Z,e]:=g.c k h;exact#[j,Q8.mpr (QBk Z),(w j k).mpr e]
 refine#[_,_,by unfold QAX;rw[K];rfl,#[hm,rfl,?_,hl],rfl,rfl,rfl,?_];have:=q.length_eq;rw[QF,qM]at this;show(Wb _).size=_;rw[QT,QF];exact this;exact q
end
open PySem.Spec PyProof.Rows PySem.SeqAt
variable{Pv:Jw->Prop}
section
variable{prog:jt}{w:jw}{A:j2}{E:ZB}{s:jx}
mutual
theorem oF:∀(k:NK) (v:Jw) (n:Nat) (Q:Bool->jx->Prop),jH s.1 k v->DN k<=n->Q Ju s->jy (js prog w) A (Vu n v) Q E s
 | .s x,v,n,Q,#[t,e],_,q=>by subst e;cases n<;>exact QH q|.t ks,v,n,Q,#[a,its,e,#[o,ho,hc,m,hd],hi],g,q=>by
  subst e;have g:nkds ks+1<=n:=g;obtain⟨n,rfl⟩:∃m,n=m+1:=#[n - 1,()]
  have j:s.TypeIs (.ref a) "tuple":=#[o,ho,hc]
  unfold Vu;refine QA (Wu j ?_);dsimp only;rw[hQ (by decide)];refine QA (QH ?_);simp only[QA6,qF,if_false];refine QA (QAD ho hd ?_);dsimp only;refine QA ?_;rw[<- QAV];refine QB4 _ (λh r z=>r.1=Js/\z=s/\∀v∈h,∀Q:Bool->jx->Prop,Q Ju s->jy (js prog w) A (Vu n v) Q E s) _ ?_ ?_ _ _ #[rfl,rfl,nks_class ks its.toList n hi ()];rintro v h r z ⟨f,rfl,y⟩;refine QA (y v QD _ ?_);simp only[qF,if_false];exact QH #[rfl,rfl,λu b=>y u (QC _ b)];rintro⟨i,l⟩ z ⟨f,rfl,_⟩;cases(show i=Js from f);exact QH q
theorem nks_class:∀(ks:List NK) (vs:LW) (n:Nat),NKvs s.1 ks vs->nkds ks<=n->∀v∈vs,∀Q:Bool->jx->Prop,Q Ju s->jy (js prog w) A (Vu n v) Q E s
 |[],vs,n,e,_,v,hv,Q,q=>by cases(show vs=[] from e);cases hv|k::ks,vs,n,#[x,r,e,p,p'],h,v,hv,Q,q=>by subst e;have h:max (DN k) (nkds ks)<=n:=h;rcases QK.mp hv with rfl|hv;exact oF k v n Q p () q;exact nks_class ks r n p' () v hv Q q
end
theorem JW{k:NK}{x:Jw}(f:jH s.1 k x)(hk:DN k<=6){j:LW}(o:∀y∈j,∃l,jH s.1 l y/\DN l<=6){Q:Bool->jx->Prop}(q:Q Ju s):jy (js prog w) A (Yu x j) Q E s:=by
 unfold Yu;refine QA ?_;refine QB4 _ (λz r a=>r.1=Js/\a=s/\∀y∈z,∃l,jH s.1 l y/\DN l<=6) _ ?_ ?_ _ _ #[rfl,rfl,o];rintro y z r a ⟨i,rfl,b⟩;let#[l,hl,X]:=b y QD;have e:r.1=Js/\a=a/\∀y∈z,∃l,jH a.1 l y/\DN l<=6:=#[i,rfl,λu g=>b u (QC _ g)]
 dsimp only;have v:∀{m:ForInStep (Option Bool×Unit)->jx->Prop},m (.yield (Js,Unit.unit)) a->jy (js prog w) A (hT (ForInStep.yield (Js,Unit.unit))) m E a:=λh=>QH h;split<;>split;exact v #[rfl,rfl,e.2.2];refine QA (nF k _ 8 _ f () ?_);rw[hI (by decide)];refine QA (nF l _ 8 _ hl () ?_);rw[hI (by decide)];refine QA (oF k _ 8 _ f () ?_);rw[hI (by decide)];refine QA (oF l _ 8 _ hl () ?_);rw[hI (by decide)];exact v #[rfl,rfl,e.2.2];exact v #[rfl,rfl,e.2.2];refine QA (nF k x 8 _ f () ?_);rw[hI (by decide)];refine QA (nF l y 8 _ hl () ?_);rw[hI (by decide)];refine QA (oF k x 8 _ f () ?_);rw[hI (by decide)];refine QA (oF l y 8 _ hl () ?_);rw[hI (by decide)];exact v #[rfl,rfl,e.2.2];rintro⟨n,p⟩ a ⟨i,rfl,_⟩;cases(show n=Js from i);exact QH q
def Ek(Pv:Jw->Prop)(x:jw)(h:j0)(e:Int×Jw)(k:NK):Prop:=jH h k e.2/\e.1=MI x k/\(∃a,e.2=.ref a)/\DN k<=6/\Pv e.2
structure TsO(Pv:Jw->Prop)(wd:jw)(h:j0)(es:Array (Int×Jw))(t:j1)(ks:List NK):Prop where
 e:Kv (Ek Pv wd h) es.toList ks
 t:TbO t es.size
theorem dJ{t:j1}{n:Nat}(h:TbO t n):t.fits n=true:=by unfold SetTable.fits QC8;rw[h.s,h.d,beq_self_eq_true];exact dT (by have:=h.f;show n+0<=_;omega)
theorem Ue{m:Nat}(h:FV m):(m % 2==0)=false:=by rcases h with rfl|rfl|rfl|rfl<;>decide
theorem iU{α u:Type}{R:α->u->Prop}:∀{l:List α}{m:List u},Kv R l m->∀(i:Nat) (x:α),l[i]?=Jr x->∃y,y∈m/\R x y
 |_,_,.nil,i,x,h=>by cases h|_,_,.cons r t,0,x,h=>by cases h;exact#[_,QD,r]|_,_,.cons r t,i+1,x,h=>by let#[y,v,z]:=iU t i x h;exact#[y,QC _ v,z]
def Sn(t:j1)(h:j0)(es:Array (Int×Jw))(k:NK)(p:wY):Prop:=∃i,t.slot p.j=.live i/\∀e,es[i]?=Jr e->¬ jH h k e.2
theorem PR{a:jv}{x:Jw}{k:NK}{es:Array (Int×Jw)}{ep:Nat}{t:j1}{ks:List NK}{Q:SetFound->jx->Prop}(hu:A.units+8<kx)(J:s.1.get? a=Jr { cls:=.type "set",dict:=Js,data:=.set es ep t,slots:=#[] })(u:TsO Pv w s.1 es t ks)
  (r:jH s.1 k x) (hk:DN k<=6) (O:k∈ks->Q (.there Js) s) (q2:∀q,t.slot (xB t.advance q (t.probeStart (MI w k))).j=.empty->(∀m,m<q->Sn t s.1 es k (xB t.advance m (t.probeStart (MI w k))))->Q (.free (xB t.advance q (t.probeStart (MI w k))).j Ju) s):jy (js prog w) A (setSearch a x (MI w k) Jt) Q E s:=by
 have B:=dJ u.t;let#[N,hN,pr]:=zS u.t (MI w k);have P:∀p,Y5 t (λi=>(es[i]?.map (·.1)).getD 0) (MI w k) p->Sn t s.1 es k p:=λp #[i,I,G]=>#[i,I,λe h z=>G (by let#[l,_,g1,g2,_]:=iU u.e i e (by rw[QY];exact h);dsimp only;rw[h,FN z g1];exact g2)]
 have o:∀(d f j:Nat) (st:Option wY),N - j=d->j<=N->d<f->(∀m,m<j->Sn t s.1 es k (xB t.advance m (t.probeStart (MI w k))))->st.getD (t.probeStart (MI w k))=xB t.advance j (t.probeStart (MI w k))->jy (js prog w) A (Gy a x (MI w k) Jt f st) Q E s:=by
  intro d;induction d using Nat.strongRecOn with
  |_ d H =>
   intro f j st hd hj hf2 L X;obtain⟨f,rfl⟩:∃m,f=m+1:=#[f - 1,()]
   unfold Gy;refine QA (qa J rfl B ?_);dsimp only;rw[show t.gaveWay=Ju from Ue u.t.m,hI (by decide)];rw[X];rcases pr (λi=>(es[i]?.map (·.1)).getD 0) j hj with⟨q,Z,Y,W,hs,g⟩| ⟨q,i,Z,Y,W,hs,g⟩
   generalize hm:QD5 t _ (MI w k) (xB t.advance j (t.probeStart (MI w k)))=M;have F:M=_:=hm.symm.trans W;rw[F];exact QH (q2 q hs λm hm=>if z:m<j then L m z else P _ (g m (QB1 z) hm));generalize hm:QD5 t _ (MI w k) (xB t.advance j (t.probeStart (MI w k)))=M;have F:M=_:=hm.symm.trans W;rw[F];dsimp only;have hi:=OL hs;have K:i<es.size:=by have:=(WC.mp hi).1;rw[u.t.s]at this;exact this
   have h:es[i]?=Jr es[i]:=Qp K;let#[l,S,hl,_,#[b,hb],hld]:=iU u.e i es[i] (by rw[QY];exact h);have R:l≠k->∀m,m<q+1->Sn t s.1 es k (xB t.advance m (t.probeStart (MI w k))):=λc m hm =>
    if z:m<j then L m z else if y:m<q then P _ (g m (QB1 z) y) else by
     obtain rfl:m=q:=()
     exact#[i,hs,λe C z=>c (by cases h.symm.trans C;exact FN hl z)]
   have sm:t.sameMemory t.moves t.mask=Jr true:=by unfold SetTable.sameMemory;rw[beq_self_eq_true,hQ rfl]
   split;refine QA (JW r hk (λy hy=>?_) ?_)
   ·let#[e,v,rfl]:=QV.mp hy
    rw[W8,Array.mem_filter]at v;let#[n,hn]:=WI.mp (W8.mpr v.1);let#[l,_,I,_,_,G,_]:=iU u.e n e hn;exact#[l,I,G]
   rw[hI (by decide)];exact(by rw[h];dsimp only;refine QA (qG (IZ l k es[i].2 x A s hl r () prog w E _ ?_));refine QA (qa J rfl B ?_);dsimp only;by_cases c:l=k;rw[hQ (by rw[dT c];rfl)];exact QH (O (c▸S));rw[hI (by rw[dF c];decide),sm];dsimp only;rw[hQ rfl,hs];dsimp only;rw[h];dsimp only;rw[hb];refine QA (QCN (QA (QH ?_)));rw[hQ rfl];dsimp only;rw[hI (by rw[dF c];decide)];exact H (N - (q+1)) () f (q+1) _ rfl () () (R c) rfl);exact(by rw[h];dsimp only;refine QA (qG (IZ l k es[i].2 x A s hl r () prog w E _ ?_));refine QA (qa J rfl B ?_);dsimp only;by_cases c:l=k;rw[hQ (by rw[dT c];rfl)];exact QH (O (c▸S));rw[hI (by rw[dF c];decide),sm];dsimp only;rw[hQ rfl,hs];dsimp only;rw[h];dsimp only;rw[hb];refine QA (QCN (QA (QH ?_)));rw[hQ rfl];dsimp only;rw[hI (by rw[dF c];decide)];exact H (N - (q+1)) () f (q+1) _ rfl () () (R c) rfl)
 exact o N 100000 0 Js rfl (Q5 _) (by have:=u.t.m;unfold FV at this;omega) (λm hm=>h7 hm (wg _)) rfl
end
end L2.L3
namespace L2.L3
open PySem PySem.Spec PyProof.Rows
def dU:Jw->Str
 | .str z _=>z|_=>#[#[]]
def TH(u:jt)(z:jw)(h:j0)(a:jv)(b:Bool)(y:LS):Prop :=
 ∃x v t,h.get? a=Jr { cls:=.type "set",dict:=Js,data:=.set x v t,slots:=#[] }/\yz (strKind u z) x.toList/\x.toList.map (λe=>dU e.2)=y/\y.Nodup/\t.fits x.size=Jt/\t.led=b/\(x.size=0∨t.plain=Ju)
theorem TH.at{u:jt}{z:jw}{h h':j0}{a:jv}{b:Bool}{y:LS}(x:TH u z h a b y)(k:∀o,h.get? a=Jr o->h'.get? a=Jr o):TH u z h' a b y:=by let#[v,w,t,e,r]:=x;exact#[v,w,t,k _ e,r]
theorem E7(t:j1)(es:Array (Int×Jw))(h:Int)(x:Jw):(layNew t es h x).2.1.led=t.led:=by
 unfold layNew;cases t.freeSlot h with|none=>rfl|some p=>show(QC9 _ _).led=_;unfold QC9;split<;>rfl
theorem D1{m f v:Nat}{l p:Bool}{hs:Array Int}{t:j1}{o:Array Nat}(e:QAX m f v l p hs=Jr (t,o)):t.led=l/\t.plain=p:=by
 unfold QAX at e;cases c:W6 m hs with|none=>rw[c]at e;cases e|some w=>rw[c]at e;cases e;exact#[rfl,rfl]
theorem kW(t:j1)(es:Array (Int×Jw))(n:Nat)(h:t.plain=Ju):(Xy t es n).2.1.led=t.led/\(Xy t es n).2.1.plain=false:=by unfold Xy;split;rename_i t' o e;have:=D1 e;show(if _ then _ else _:Array (Int×Jw)×j1×Bool).2.1.led=_/\(if _ then _ else _:Array (Int×Jw)×j1×Bool).2.1.plain=_;split;exact#[this.1,this.2.trans h];exact#[rfl,rfl];exact#[rfl,rfl]
section
variable{w:jt}{v:jw}{d:j2}{Er:ZB}{sh:jx}
section
variable{es:Array (Int×Jw)}{e:Int×Jw}{u:LS}{z:Str}{b:Bool}{a:jv}
theorem K3{es:List (Int×Jw)}(y:yz (strKind w v) es)(x:e∈es):∃t,e.2=.str (dU e.2) t:=by let#[#[k,hk,_],_]:=y e x;let#[t,h]:=QCn hk;exact#[t,by rw[h];rfl]
theorem ga{es:List (Int×Jw)}(k:yz (strKind w v) es)(x:e∈es)(z:Str):(strKind w v).is z e.2=Jt↔dU e.2=z:=by let#[t,h]:=K3 k x;rw[h];generalize dU e.2=y;show(y==z)=Jt↔y=z;exact beq_iff_eq
theorem sV(y:yz (strKind w v) es.toList)(k:es.toList.map (λe=>dU e.2)=u):(es.toList.findIdx? (λe=>(strKind w v).is z e.2)=Js)↔z∉u:=by
 rw[List.findIdx?_eq_none_iff,<- k,QV];constructor;rintro h ⟨e,x,rfl⟩;have:=h e x;rw[(ga y x _).mpr rfl]at this;cases this;intro h e x;cases c:(strKind w v).is z e.2 with|false=>rfl|true=>exact(h #[e,x,(ga y x z).mp c]).elim
theorem fV{Q:Unit->jx->Prop}(h:Q Unit.unit sh):jy (js w v) d (match b with|true=>rule "set.scan.the-table-gave-way"|false=>hT Unit.unit) Q Er sh:=by
 cases b with|false=>exact QH h|true=>exact QBB h
theorem sJ{h:j0}{es':Array (Int×Jw)}{ep:Nat}{t t':j1}(e:h.get? a=Jr { cls:=.type "set",dict:=Js,data:=.set es ep t,slots:=#[] }):(h.update a (QBD es' t')).get? a=Jr { cls:=.type "set",dict:=Js,data:=.set es' (ep+1) t',slots:=#[] }:=Q3 (QBD es' t') e rfl
theorem k6{i:Tok}{Q:Bool->jx->Prop}(S:TH w v sh.1 a b u)(hr:u.9+1<4096)
  (k:∀r h' m,qS a sh.1 h'->TH w v h' a b m->(∀s,s∈m↔s∈u∨s=z)->m.9<=u.9+1->Q r { sh with heap:=h',toks:=sh.toks+1 }):jy (js w v) d (Zt a (.str z i)) Q Er sh:=by
 have hk:(strKind w v).is z (.str z i)=true:=strKind_is _ _ _ _;unfold Zt;refine qG (QA ((strKind w v).pyHash (k:=z) hk ?_));let#[es,ep,t,G,W,F,nd,hf,hb,hp]:=id S;have sz:es.size=u.length:=by rw[<- F,QF,QN]
 have bd:es.size<scanBound:=by show es.size<4096;omega
 unfold setAddHashed v1;refine qG (QA (qa (s:={ sh with toks:=sh.toks+1 }) G rfl hf ?_));dsimp only;rw[byScan_of (knd:=strKind w v) (x:=.str z i) rfl bd W,hQ rfl];unfold setAddByScan;refine QA (QA (QBB (QA (wpAny_setScan_of hk (s:={ sh with toks:=sh.toks+1 }) G rfl hf W ?_))));cases H:es.toList.findIdx? (λe=>(strKind w v).is z e.2) with
 |some j =>
  have mz:z∈u:=qW λn=>by rw[(sV W F).mpr n]at H;cases H
  dsimp only;exact QH (QH (k _ sh.1 u (QBi _ _) S (λs=>#[.inl,λo=>o.elim id λe=>e▸mz]) (wm _)))
 |none =>
  have nz:=(sV W F).mp H;dsimp only;have Z:=layNew_perm t es ((strKind w v).hash z) (.str z i);have E:=layNew_fits t es ((strKind w v).hash z) (.str z i);have B:=E7 t es ((strKind w v).hash z) (.str z i);generalize layNew t es ((strKind w v).hash z) (.str z i)=L at Z E B ⊢;let#[h,J,I,gv]:=L;dsimp only at Z E B ⊢;rw[W5]at Z;have el1:yz (strKind w v) h.toList:=(W.push hk rfl).perm Z;have pz:(h.toList.map λe=>dU e.2).Perm (u++[z]):=by have:=Z.map λe:Int×Jw=>dU e.2;rw[Qb,F]at this;exact this
  have n1:h.size=u.9+1:=by rw[<- QN,<- QF (f:=λe:Int×Jw=>dU e.2),pz.length_eq,QM];rfl
  have M:(u++[z]).Nodup:=qH.mpr #[nd,Qa.mpr #[WF,Qo],λx hx y hy=>by rw[QI.mp hy];exact λe=>nz (e▸hx)];have b1:h.size<=sizeLine:=by rw[qU];omega
  have fin:∀(X:Array (Int×Jw)) (g:j1) (h':j0) (q:Nat),X.toList.Perm h.toList->g.fits X.size=Jt->g.led=b->g.plain=Ju->qS a sh.1 h'->h'.get? a=Jr { cls:=.type "set",dict:=Js,data:=.set X q g,slots:=#[] }->Q Jt { sh with heap:=h',toks:=sh.toks+1 }:=λX g h' q p2 f2 C K sb g2=>by have p:=(p2.map λe:Int×Jw=>dU e.2).trans pz;refine k Jt h' _ sb #[X,q,g,g2,el1.perm p2,rfl,p.nodup_iff.mpr M,f2,C,.inr K] (λs=>?_) ?_;rw[p.mem_iff,QW,QI];rw[p.length_eq,QM];exact QX _
  have l:∀g:j1,g.fits h.size=Jt->g.led=b->g.plain=Ju->jy (js w v) d (do
    gL a h g
    if(!I&&g.tooFull)=Jt then do
      (match (Xy g h (qX h.size)).2.2 with|true=>rule "set.scan.the-table-gave-way"|false=>hT Unit.unit)
      gL a (Xy g h (qX h.size)).1 (Xy g h (qX h.size)).2.1
      hT (Jr Jt)
     else hT (Jr Jt)) (λx s'=>jy (js w v) d (match x with|some r=>hT r|none=>v1 a (.str z i) ((strKind w v).hash z) 99999) Q Er s') Er { sh with toks:=sh.toks+1 }:=λg f2 C K=>by
   refine QA (QAj (s:={ sh with toks:=sh.toks+1 }) G rfl ?_ b1);have O:=sJ (es':=h) (t':=g) G;have Y:=qP sh.1 a (QBD h g);split;have pr:=relayAll_perm g h (qX h.size);have P:=relayAll_fits g h (qX h.size);have A:=kW g h (qX h.size) K;generalize Xy g h (qX h.size)=R at pr P A ⊢;let#[X,t3,g3]:=R;dsimp only at pr P A ⊢;refine QA (fV (QA (QAj (s:={ sh with heap:=sh.1.update a (QBD h g),toks:=sh.toks+1 }) O rfl (QH (QH ?_)) ?_)));exact fin X t3 _ _ pr P (A.1.trans C) A.2 (Y.trans (qP _ a _)) (sJ O);rw[<- QN,pr.length_eq,QN];exact b1;exact QH (QH (fin h g _ _ (Wn _) f2 C K Y O))
  refine QA (fV ?_);cases N:J.plain with|true=>rw[hQ rfl];refine QA ?_;rw[hashByValue_scannable 8 (x:=.str z i) rfl];exact QH (l { J with plain:=Ju } (SetTable.fits_plain_off E) (B.trans hb) rfl)|false=>rw[hI QG];exact QA (QH (l J E (B.trans hb) N))
end
end
theorem IM{vs:LW}{ss:LS}(h:gA vs ss):vs.9=ss.9/\∀(i:Nat) (v:Jw),vs[i]?=Jr v->∃z t,v=.str z t/\ss[i]?=Jr z:=by
 induction h with
 |nil=>exact#[rfl,λi v e=>by cases e]|cons y t _ x =>
  refine#[Fz Nat.succ x.1,λi v e=>?_];cases i with|zero=>cases e;exact#[y,t,rfl,rfl]|succ i=>exact x.2 i v e
section
variable{y:jt}{x:jw}{u:j2}{Er:ZB}{sh:jx}
section
variable{l:jv}{b:Bool}{xs:Array Jw}{ss:LS}{Q:ZB}
theorem JY{S it:jv}{R:Result->jx->Prop}(hd:u.handled=Js)(N:l≠it)(L:S∉[it,l])(hs:gA xs.toList ss)(bd:xs.size+1<4096) :
  ∀(n i:Nat) (sh:jx) (f:LS),xs.size - i=n->i<=xs.size->(sh.1.IsListIter it l i/\sh.1.IsList l xs)->TH y x sh.1 S b f->(∀s,s∈f↔s∈ss.take i)->f.9<=i ->
   (∀s' h,Moved [S,it] (λa b=>b=a) sh s'->TH y x s'.1 S b h->(∀s,s∈h↔s∈ss)->h.9<=xs.size->R (.ok (.ret .none)) s') ->
   Xz (js y x) u (.builtin "set.update.loop" #[[.ref S,.ref it],[]]) R sh:=by
 have W:=(QDI (prog:=y) (w:=x) (A:=u.in1) hd it l N xs).toS;let#[hl,hx]:=IM hs;rw[QN]at hl;have sub:∀c∈[it],c∈[S,it]:=λc hc=>QC _ hc;have J:S∉[it]:=λz=>L (QK.mpr (.inl (QI.mp z)));intro n;induction n with
 |zero =>
  intro i sh f en H j g p len k;obtain rfl:i=xs.size:=()
  refine qf We ?_;rw[qQ wM _];refine QA (m:=Vs (.ref it)) (W.done sh _ _ j λs' Y=>QH (k s' f (Y.mono sub) (g.at λo e=>Y.1 S o J e) ?_ len));intro s;rw[p,hl,QDn]
 |succ n ih =>
  intro i sh f en H j g p len k;have lt:i<xs.size:=()
  refine qf We ?_;rw[qQ wM _];refine QA (m:=Vs (.ref it)) (W.item i sh _ _ lt j λv s' M C Y=>?_);let#[z,G,rfl,ez]:=hx i v (by rw[QY];exact M);have B:TH y x s'.1 S b f:=g.at λo e=>Y.1 S o J e;refine QA (m:=Yx [Value.str z G] (Zt S (.str z G))) (qG (k6 B () λr h' h I K P l3=>QH #[WH wM _,?_]));refine ih (i+1) _ h () lt (W.frame _ s' _ _ C (wm _) λc hc o e=>?_) K (λs=>?_) () λE X F Z O l4=>k E X (Moved.trans W.gtrans ((Y.mono sub).then_heap (wm _) λc o hc e=>?_) F) Z O l4;rw[I.2 c λq=>L (q▸hc)];exact e;rw[P,p,List.take_succ,ez,QW];simp;rw[I.2 c λq=>hc (q▸QD)];exact e
noncomputable abbrev rF(b:Bool):Obj:={ cls:=.type "set",dict:=Js,data:=.set #[] 0 (.fresh 0 0 b) }
theorem OU{v:Jw}(q:Q (.ref sh.1.1.size) { sh with heap:=sh.1.push (rF (!x.params.followText "set-order")) }):Xz (js y x) u (.call (.builtin "set.__new__") #[[.type "set",v],[]]) (wants Q Er) sh:=by refine QCO ?_;show jy _ u.in1 (checkBuiltinCall "set.__new__" #[[.type "set",v],[]] >>= λ_=>again (.builtin "set.__new__" #[[.type "set",v],[]])) _ _ sh;refine QA (QAJ (F.newCall_set_1 v) (QH #[WH QD1 _,qf F.entry_set_new ?_]));rw[qQ QD1 _];unfold Builtin.«set.__new__» Builtin.Frozenset.newClass;have sub:=sub_set_self;let#[w,k,a,h,z]:=sh;dsimp only;wp_walk;refine Wk (QH ?_);dsimp only;simp only[newObj];exact QA (wpAny_alloc (QH (QH q)))
theorem d0{h:j0}{a:jv}(e:h.get? a=Jr (rF b)):TH y x h a b []:=#[#[],0,_,e,λ_ z=>(nomatch z),rfl,Qo,by cases b<;>decide,rfl,.inl rfl]
theorem tG(J:u.handled=Js)(hl:sh.1.IsList l xs)(hs:gA xs.toList ss)(N:xs.size+1<4096)
  (k:∀(h':j0) (a:Nat) (h:LS),TH y x h' sh.1.1.size (!x.params.followText "set-order") h->(∀s,s∈h↔s∈ss)->h.9<=xs.size->(∀b o,sh.1.get? b=Jr o->h'.get? b=Jr o)->Q (.ref sh.1.1.size) { sh with heap:=h',toks:=a }) :
  jy (js y x) u (Xw (.type "set") [.ref l]) Q Er sh:=by
 generalize hb:(!x.params.followText "set-order")=b at k;generalize hn:sh.1.1.size=n at k;let#[c,tl,mr]:=qp.mro;have md:=qp.made;have sb:=qp.sub;have c1:=qp.notType;have c2:=qp.canCreate;have c3:=QDo (.ref l);refine QD8 (QCO ?_);show jy _ _ (callAny (.type "set") _) _ _ _;refine QH #[QDA _ (by decide +kernel),qf QDO ?_];rw[QDB (QCP "set" [.ref l] []) rfl]
 repeat (any_goals (first|assumption|wp_step))
 refine QAL (OU (v:=.ref l) (Er:=Er) (Q:=λp q=>p=.ref n/\q={ sh with heap:=sh.1.push (rF b) }) #[by rw[hn],by rw[hb]]) λr q g=>?_;cases r with
 |error e=>exact g|ok fl =>
  cases fl with
  |ret obj =>
   let#[rfl,rfl]:=g;have C:(sh.1.push (rF b)).get? n=Jr (rF b):=hn▸QO _ rfl;have ty:QDC { sh with heap:=sh.1.push (rF b) } (.ref n) "set":=#[_,C,rfl]
   have li:=qp.init.lookup;have bi:=qp.init.bind (.ref n)
   repeat (any_goals (first|assumption|wp_step))
   refine QAL (QCa (R:=wants (λr q=>r=.none/\∃h' a h,q={ sh with heap:=h',toks:=a }/\TH y x h' n b h/\(∀s,s∈h↔s∈ss)/\h.9<=xs.size/\∀c o,sh.1.get? c=Jr o->h'.get? c=Jr o) Er) qp.init.plain QDp (QDq ty ?body)) ?after
   case after =>
    intro r q g;cases r with
    |error e=>exact g|ok fl =>
     cases fl with
     |ret r =>
      let#[rfl,h',a,h,rfl,H,S,P,O]:=g
      repeat (any_goals (first|assumption|wp_step))
      exact k h' a h H S P O
     |_=>exact g.elim
   case body =>
    let#[G,B,M,W,L]:=hl;let#[Z,f,X,w]:=G;cases M;cases L;have Y:(sh.1.push (rF b)).get? l=Jr { cls:=.type "list",dict:=f,data:=.seq xs W,slots:=w }:=QJ _ B;have t1:=F.sub_list_set;have t2:=QCb;have t3:(Value.type "list" == Value.type "dict")=false:=by decide
    have A:(sh.1.push (rF b)).IsList l xs:=#[_,Y,rfl,W,rfl]
    unfold Builtin.«set.__init__» noKeywords QA8;generalize hi:vu=it;wp_walk;subst hi;refine WU A (QA (QBa ?_));have lt:l<sh.1.1.size:=QR B;have sz:(sh.1.push (rF b)).1.size=n+1:=by rw[wt,hn]
    rw[hn]at lt;refine JY (b:=b) (ss:=ss) (by simp[J]) (show l≠_ by rw[sz];exact Qc (qh lt)) (λz=>?_) hs N xs.size 0 _ [] (QDa _) (Q5 _) #[#[_,QO _ rfl,rfl,rfl],A.push _] (d0 (QJ _ C)) (λs=>?_) (QX _) λE j i st m I=>?_;rw[sz]at z;rcases QK.mp z with z|z;exact Qc (QAH _) z;exact wa lt (QI.mp z);rw[List.take_zero];let#[h',gs,dr,a,oo]:=E;cases i.gens;cases i.drawn;cases i.os;refine QH ?_;refine QH #[rfl,h',a,j,rfl,st,m,I,λc o e=>?_];have K:c<n:=hn▸QR e;refine i.1 c o (λz=>?_) (QJ _ (QJ _ e));rw[sz]at z;rcases QK.mp z with z|z;exact Qc K z;exact Qc (qh K) (QI.mp z)
  |_=>exact g.elim
end
end
def GX(xs:Array Nat):Prop:=∀(i k x y:Nat),i<k->xs[i]?=Jr x->xs[k]?=Jr y->x<y
theorem uL{xs:Array Nat}{j:Nat}(h:GX xs):∀(f u y:Nat),u<=y->y<=xs.size->y - u<=f->(∀i x:Nat,i<u->xs[i]?=Jr x->x<j)->(∀i x:Nat,y<=i->xs[i]?=Jr x->j<=x) ->
  WX xs j f u y<=xs.size/\(∀i x:Nat,i<WX xs j f u y->xs[i]?=Jr x->x<j)/\∀i x:Nat,WX xs j f u y<=i->xs[i]?=Jr x->j<=x
 |0,u,y,h1,h2,h3,a,b=>by
  obtain rfl:u=y:=()
  exact#[h2,a,b]
 |f+1,u,y,h1,h2,h3,a,b=>by
  unfold WX;by_cases c:u<y;rw[hQ c];dsimp only;have k:(u+y) / 2<xs.size:=()
  have e:xs[(u+y) / 2]?=Jr (xs.getD ((u+y) / 2) j):=by rw[wL,Qp k];rfl
  by_cases d:xs.getD ((u+y) / 2) j<j;rw[hQ d];refine uL h f ((u+y) / 2+1) y () h2 () (λi x w v=>?_) b;by_cases z:i=(u+y) / 2;rw[z,e]at v;cases v;exact d;exact QDW (h i _ _ _ () v e) d;rw[hI d];refine uL h f u ((u+y) / 2) () () () a λi x w v=>?_;by_cases z:i=(u+y) / 2;rw[z,e]at v;cases v;omega;have:=h _ i _ _ (show(u+y) / 2<i by omega) e v;omega;rw[hI c];obtain rfl:u=y:=()
  exact#[h2,a,b]
theorem xL{xs:Array Nat}(h:GX xs)(j:Nat):Qz xs j<=xs.size/\(∀i x:Nat,i<Qz xs j->xs[i]?=Jr x->x<j)/\∀i x:Nat,Qz xs j<=i->xs[i]?=Jr x->j<=x :=
 uL h xs.size 0 xs.size (Q5 _) (QX _) () (λi x y=>h7 y (wg _)) λi x y z=>by have:=(WC.mp z).1;omega
theorem fJ{t:j1}(h:GX t.place){i j:Nat}(e:t.place[i]?=Jr j):t.slot j=.live i:=by
 let#[v,u,z]:=xL h j;have y:Qz t.place j=i:=by rcases QDP (Qz t.place j) i with c|c|c;have lt:=(WC.mp e).1;have x:t.place[Qz t.place j]?=Jr (t.place[Qz t.place j]'()):=Qp _;have:=h _ _ _ _ c x e;have:=z _ _ (QX _) x;omega;exact c;have:=u _ _ c e;omega
 unfold QBx;dsimp only;rw[y,e,hQ (beq_self_eq_true _)]
theorem PY{t:j1}(h:GX t.place){j:Nat}(e:∀i:Nat,t.place[i]?≠Jr j):GX (t.put j).1.place:=by
 let#[r,g,o]:=xL h j;have a:∀k:Nat,(t.put j).1.place[k]?=if k<Qz t.place j then t.place[k]? else if k=Qz t.place j then Jr j else t.place[k - 1]?:=λk=>by
  show(wW t.place (Qz t.place j) j)[k]?=_;rw[<- QY,QBm];generalize Qz t.place j=p at r;have lt:(t.place.toList.take p).9=p:=by rw[WE,QN];omega
  split;rename_i c;rw[qK (),QAM c,QY];rw[Q0 (),lt];split;rename_i c;rw[c,QBQ];rfl;obtain⟨d,m⟩:∃d,k - p=d+1:=#[k - p - 1,()]
  rw[m,qq,QBR,QY];congr 1;omega
 intro i k x y w v u;rw[a]at v u;have b:∀{n z:Nat},Qz t.place j<=n->t.place[n]?=Jr z->j<z:=λl f=>Nat.lt_of_le_of_ne (o _ _ l f) λq=>e _ (q▸f);split at v;rename_i c1;split at u;exact h _ _ _ _ w v u;split at u
 ·cases u
  exact g _ _ c1 v
 exact QDW (g _ _ c1 v) (b () u);split at v
 ·cases v
  rw[hI (),hI ()]at u;exact b () u
 rw[hI (),hI ()]at u;exact h _ _ _ _ () v u
open PySem.SeqAt
variable{Pv:Jw->Prop}
theorem mJ{α w:Type}{R:α->w->Prop}{l k:List α}(p:k.Perm l):∀{m:List w},Kv R l m->∃z,z.Perm m/\Kv R k z:=by
 induction p with
 |nil=>exact λh=>#[_,.refl _,h]|cons x _ g =>
  intro m h;cases h with|cons r t=>let#[z,p,h]:=g t;exact#[_::z,p.cons _,.cons r h]
 |swap x y l =>
  intro m h;cases h with
  |cons r t =>
   cases t with|cons a t=>exact#[_,QEJ.swap _ _ _,.cons a (.cons r t)]
 |trans _ _ v u=>intro m h;let#[n,e,j]:=u h;let#[f,b,i]:=v j;exact#[f,b.trans e,i]
theorem i8{α:Type}{o:Array Nat}{es:Array α}(h:o.toList.Perm (Qm es.size)):(o.filterMap (es[·]?)).toList.Perm es.toList:=by
 rw[QCA];refine(h.filterMap _).trans ?_;rw[show(Qm es.size).filterMap (es[·]?)=es.toList from ?_];refine wV λi=>?_;have:(Qm es.size).filterMap (es[·]?)=(Qm es.toList.9).filterMap (es.toList[·]?):=by rw[QN];congr 1;funext i;exact QY.symm
 rw[this];generalize es.toList=l;congr 1;induction l with|nil=>rfl|cons x l y=>rw[QL,List.range_succ_eq_map,wQ];show x::_=_;rw[QC3];exact Fz _ y
section
variable{prog:jt}{w:jw}{A:j2}{E:ZB}{s:jx}
section
variable{n:Nat}{t:j1}{h:j0}{es:Array (Int×Jw)}
theorem y0{x:Str}{l:List NK}{v:Jw}{Q:Bool->jx->Prop}(h:jH s.1 (.t (.s x::l)) v)(q:Q Ju s):jy (js prog w) A (hashByValue (n+2) v) Q E s:=by
 let#[a,y,e,#[o,z,hc,m,u],#[g,r,f,#[i,b],_]]:=h;subst e;have k:s.TypeIs (.ref a) "tuple":=#[o,z,hc]
 unfold hashByValue;refine QA (QBF k QDN.lookup ?_);show jy _ _ (seqItems? (.ref a) >>= _) _ _ s;refine QA (QAD z u ?_);refine QA ?_;show jy _ _ (forIn y _ _) _ _ s;rw[<- QAV,f,b,QAS];exact QA (QA (QH (QH (QH (QH q)))))
def Dk(t:j1)(n:Nat):Prop:=n * 5<t.mask * 3
theorem jd{j:Nat}(h:TbO t n)(r:Dk t n):TbO (t.put j).1 (n+1)/\(t.put j).1.mask=t.mask:=by
 have x:(t.put j).1.dummies=#[]:=by show(if QCM t.dummies j then _ else t.dummies)=_;rw[h.d,hI];intro c;unfold QCM at c;have:=beq_iff_eq.mp c;simp at this
 refine#[#[h.m,x,?_,?_],rfl];have:=(QCB t.place (Qz t.place j) j).length_eq;rw[W5,QM,QN,QN,h.s]at this;exact this;show n+1<=t.mask;have:=h.m;unfold Dk at r;unfold FV at this;omega
theorem z6:wk (qX 5)=32/\wk (qX 19)=128/\wk (qX 77)=512:=by decide
theorem G2(h:TbO t n)(r:n * 5 ≥ t.mask * 3)(r':(n - 1) * 5<t.mask * 3)(u:n<307):FV (wk (qX n) - 1)/\n * 5<(wk (qX n) - 1) * 3/\wk (qX n)<=512:=by
 let#[z,y,x]:=z6;rcases h.m with e|e|e|e<;>rw[e]at r r';obtain rfl:n=5:=()
 rw[z];exact#[.inr (.inl rfl),by decide,by decide];obtain rfl:n=19:=()
 rw[y];exact#[.inr (.inr (.inl rfl)),by decide,by decide];obtain rfl:n=77:=()
 rw[x];exact#[.inr (.inr (.inr rfl)),by decide,by decide];omega
theorem UQ{h':j0}{a:jv}{o:Obj}{ep:Nat}(f:h.get? a=Jr o)(g:o.data=.set es ep t)(hs:qS a h h'){e:Int×Jw}{k:NK}(x:Ek Pv w h e k):Ek Pv w h' e k :=
 #[kE (λb v #[u,e,c,n,y]=>#[u,(hs.2 b λz=>by subst z;cases e.symm.trans f;cases g.symm.trans y).trans e,c,n,y]) x.1,x.2]
def YX(t:j1)(es:Array (Int×Jw)):Prop:=∀(i j:Nat) (e:Int×Jw),t.place[i]?=Jr j->es[i]?=Jr e->∃q,(xB t.advance q (t.probeStart e.1)).j=j/\∀m,m<q->t.slot (xB t.advance m (t.probeStart e.1)).j≠.empty
theorem yZ{α z:Type}{R:α->z->Prop}:∀{l:List α}{m:List z},Kv R l m->∀y∈m,∃(i:Nat) (x:α),l[i]?=Jr x/\R x y
 |_,_,.nil,y,h=>by cases h|_,_,.cons r t,y,h=>by rcases QK.mp h with rfl|h;exact#[0,_,rfl,r];let#[i,x,a,b]:=yZ t y h;exact#[i+1,x,a,b]
theorem iW{ks:List NK}{k:NK}{q:Nat}(b:TsO Pv w h es t ks)(r:GX t.place)(X:YX t es)(v:t.slot (xB t.advance q (t.probeStart (MI w k))).j=.empty)(l:∀m,m<q->Sn t h es k (xB t.advance m (t.probeStart (MI w k)))):k∉ks:=λz=>by let#[i,e,x,Z,Y,_]:=yZ b.e k z;rw[QY]at x;have lt:=(WC.mp x).1;rw[<- b.t.s]at lt;have a:t.place[i]?=Jr t.place[i]:=Qp lt;let#[u,g,f]:=X i _ e a x;rw[Y]at g f;have y:=fJ r a;rw[<- g]at y;rcases QDP u q with c|c|c;let#[W,p,o]:=l u c;cases y.symm.trans p;exact o e x Z;subst c;cases y.symm.trans v;exact f q c v
end
end
end L2.L3
namespace L2.L3
open PySem
section
variable{p i n j f m:Nat}{t:j1}{x:Int}{u:Array (Option Nat)}
theorem AN{α:Type}{xs:Array α}{x:α}(y:p<=xs.size)(k:Nat):(wW xs p x)[k]?=if k<p then xs[k]? else if k=p then Jr x else xs[k - 1]?:=by
 rw[<- QY,QBm];have lt:(xs.toList.take p).9=p:=by rw[WE,QN];omega
 split;rename_i c;rw[qK (),QAM c,QY];rw[Q0 (),lt];split;rename_i c;rw[c,QBQ];rfl;obtain⟨d,h⟩:∃d,k - p=d+1:=#[k - p - 1,()]
 rw[h,qq,QBR,QY];congr 1;omega
theorem c8{α:Type}{xs:Array α}{x:α}(z:p<=xs.size){y:α}(h:xs[i]?=Jr y):∃k:Nat,(wW xs p x)[k]?=Jr y:=by by_cases c:i<p;exact#[i,by rw[AN z,hQ c];exact h];exact#[i+1,by rw[AN z,hI (),hI ()];exact h]
theorem d6{q:Nat}{es:Array (Int×Jw)}{v:Jw}(h:TbO t n)(B:es.size=n)(X:GX t.place)(A:YX t es)(W:t.slot (xB t.advance q (t.probeStart x)).j=.empty)(K:∀m,m<q->t.slot (xB t.advance m (t.probeStart x)).j≠.empty) :
  GX (t.put (xB t.advance q (t.probeStart x)).j).1.place/\YX (t.put (xB t.advance q (t.probeStart x)).j).1 (wW es (t.put (xB t.advance q (t.probeStart x)).j).2 (x,v)):=by
 generalize hj:(xB t.advance q (t.probeStart x)).j=j at W ⊢;have F:∀i:Nat,t.place[i]?≠Jr j:=λi z=>by cases W.symm.trans (fJ X z)
 have o:=PY X F;have Z:=(xL X j).1;have I:Qz t.place j<=es.size:=by rw[B,<- h.s];exact Z
 have G:(t.put j).1.advance=t.advance:=rfl;have Y:∀y,(t.put j).1.probeStart y=t.probeStart y:=λ_=>rfl;have g:∀m,t.slot m≠.empty->(t.put j).1.slot m≠.empty:=λm hm=>by
  rcases PJ h.d m with e|⟨i,e⟩
  exact h7 e hm;let#[k,hk]:=c8 (x:=j) Z (OL e);rw[fJ o (show(t.put j).1.place[k]?=Jr m from hk)];exact QAG
 refine#[o,λi k e l w=>?_];rw[G,Y];have l:(wW t.place (Qz t.place j) j)[i]?=Jr k:=l;have w:(wW es (Qz t.place j) (x,v))[i]?=Jr e:=w;rw[AN Z]at l;rw[AN I]at w;have r:∀i:Nat,t.place[i]?=Jr k->es[i]?=Jr e->∃q,(xB t.advance q (t.probeStart e.1)).j=k/\∀m,m<q->(t.put j).1.slot (xB t.advance m (t.probeStart e.1)).j≠.empty:=λi E C=>by let#[q,a,b]:=A i k e E C;exact#[q,a,λm hm=>g _ (b m hm)]
 split at l;rename_i c;rw[hQ c]at w;exact r i l w;rename_i c;rw[hI c]at w;split at l;rename_i c2;rw[hQ c2]at w;cases l;cases w;exact#[q,hj,λm hm=>g _ (K m hm)];rename_i c2;rw[hI c2]at w;exact r _ l w
theorem GO{t:j1}:∀(k:Nat) (p:wY),k<=p.more->(xB t.advance k p).j=p.j+k
 |0,p,_=>rfl|k+1,p,h=>by
  show(xB t.advance k (t.advance p)).j=_;have y:t.advance p={ p with j:=p.j+1,more:=p.more - 1 }:=by unfold Wj;rw[hQ ()]
  rw[y,GO k _ (by show k<=p.more - 1;omega)];show p.j+1+k=_;omega
theorem pM{t:j1}{u:Array (Option Nat)}{j:Nat}:∀(f:Nat) (P:wY),Lo t.mask P->qJ t.mask u f P.i P.perturb=Jr j->∃q,(xB t.advance q P).j=j/\∀m,m<q->(u.getD (xB t.advance m P).j (Jr 0)).isNone=Ju
 |0,P,_,h=>by cases h|f+1,P,pr,h=>by
  unfold qJ at h;have y:qm t.mask P.i+1 - P.i=P.more+1:=by have:=pr.2;unfold qm at this ⊢;split at this;rw[hQ (by assumption)];omega;rw[hI (by assumption)];omega
  rw[y]at h;cases c:(Qm (P.more+1)).find? (λk=>(u.getD (P.i+k) (Jr 0)).isNone) with|some k=>rw[c]at h;let#[g,v,b]:=List.find?_range_eq_some.mp c;have v:=Q8.mp v;cases h;refine#[k,by rw[GO k P (),pr.1],λm hm=>?_];rw[GO m P (),pr.1];have:=b m hm;simpa using this|none=>rw[c]at h;have e:=FO (t:=t) P.more P rfl;let#[q,a,w]:=pM f (xB t.advance (P.more+1) P) (by rw[e];exact#[rfl,rfl]) (by rw[e];exact h);refine#[P.more+1+q,by rw[TB];exact a,λm hm=>?_];by_cases z:m<P.more+1;rw[GO m P (),pr.1];have:=QC5.mp c m (Q8.mpr z);exact QBn.mpr this;have:=w (m - (P.more+1)) ();rw[<- TB,show P.more+1+(m - (P.more+1))=m by omega]at this;exact this
def Ml(t:j1)(u:Array (Option Nat))(hl:LJ):Prop:=∀j k:Nat,u[j]?=Jr (Jr k)->∃h,hl[k]?=Jr h/\∃q,(xB t.advance q (t.probeStart h)).j=j/\∀m,m<q->(u.getD (xB t.advance m (t.probeStart h)).j (Jr 0)).isNone=Ju
theorem oP{a:Nat}(h:(u.getD a (Jr 0)).isNone=Ju):((u.setIfInBounds j (Jr n)).getD a (Jr 0)).isNone=false:=by rw[wL]at h ⊢;rw[Ws];split;split<;>rfl;exact h
theorem P6{hl:LJ}(h:Ml t u hl)(e:qJ t.mask u f (qD x % (t.mask+1)) (qD x)=Jr j):Ml t (u.setIfInBounds j (Jr hl.length)) (hl++[x]):=by intro a k z;rw[Ws]at z;split at z;rename_i c;split at z;cases z;refine#[x,by rw[Q0 (QX _),QBQ];rfl,?_];let#[q,w,v]:=pM f (t.probeStart x) #[rfl,rfl] e;exact#[q,w.trans c,λm hm=>oP (v m hm)];cases z;let#[y,b,q,w,v]:=h a k z;exact#[y,by rw[qK (Qd.mp b).1];exact b,q,w,λm hm=>oP (v m hm)]
theorem tM{α h:Type}(g:Option α->h->Option α)(y:∀b,g Js b=Js):∀l:List h,l.foldl g Js=Js
 |[]=>rfl|b::l=>by rw[wc,y,tM g y l]
theorem eM{t:j1}:∀(hs hl:LJ) (u:Array (Option Nat)) (r:Array (Option Nat)×Nat),Ml t u hl->(hs.foldl (λy h=>do
  let(owner,k) <- y
  let j <- qJ t.mask owner (wZ t.mask) (qD h % (t.mask+1)) (qD h)
  hT (owner.setIfInBounds j (Jr k),k+1)) (Jr (u,hl.length)))=Jr r->Ml t r.1 (hl++hs)
 |[],hl,u,r,h,e=>by cases e;rw[wH];exact h|x::hs,hl,u,r,h,e=>by
  rw[wc]at e;cases c:qJ t.mask u (wZ t.mask) (qD x % (t.mask+1)) (qD x) with|none=>have e:hs.foldl _ ((qJ t.mask u (wZ t.mask) (qD x % (t.mask+1)) (qD x)) >>= λj=>hT (u.setIfInBounds j (Jr hl.length),hl.length+1))=Jr r:=e;rw[c]at e;exact h7 ((tM _ (λ_=>rfl) hs).symm.trans e) (λz=>by cases z)|some j=>have e:hs.foldl _ ((qJ t.mask u (wZ t.mask) (qD x % (t.mask+1)) (qD x)) >>= λj=>hT (u.setIfInBounds j (Jr hl.length),hl.length+1))=Jr r:=e;rw[c]at e;have:=eM hs (hl++[x]) _ r (P6 h c) (by rw[QM];exact e);rw[qg]at this;exact this
theorem UY(h:i<=m):i+(qm m i - i)<=m:=by unfold qm;split<;>omega
theorem yU{t:j1}:∀(n:Nat) (p:wY),p.j+p.more<=t.mask->(xB t.advance n p).j<=t.mask
 |0,p,h=>by show p.j<=_;omega|n+1,p,h=>by show(xB t.advance n (t.advance p)).j<=_;refine yU n _ ?_;unfold Wj;split;show p.j+1+(p.more - 1)<=_;omega;exact UY (qu (QBC _ (QAO _)))
theorem lY(t:j1)(x:Int):(t.probeStart x).j+(t.probeStart x).more<=t.mask:=UY (qu (QBC _ (QAO _)))
theorem C1{v:Nat}{l p:Bool}{hs:Array Int}(hm:FV m)(hl:hs.size<=m){o:Array Nat}(e:QAX m f v l p hs=Jr (t,o)) :
  GX t.place/\∀i j:Nat,t.place[i]?=Jr j->∃(k:Nat) (h:Int),o[i]?=Jr k/\hs[k]?=Jr h/\∃q,(xB t.advance q (t.probeStart h)).j=j/\∀n,n<q->t.slot (xB t.advance n (t.probeStart h)).j≠.empty:=by
 have A:∀j k:Nat,(QAY (m+1) (none:Option Nat))[j]?≠Jr (Jr k):=λj k h=>by rw[QBl]at h;split at h<;>cases h
 have h0:OwO m (QAY (m+1) Js) 0:=#[QCZ,λk hk=>h7 hk (wg _),λj k h=>h7 h (A j k),λj _ k h=>h7 h (A j k)]
 let#[u,O,ho]:=NG hm hs.toList _ 0 h0 (by rw[QN];omega);have ec:W6 m hs=Jr u:=by unfold W6;rw[<- QC6,O];rfl
 unfold QAX at e;rw[ec]at e;generalize hL:((Qm (m+1)).filterMap λj=>(u.getD j Js).map (j,·))=L;have e:Jr (({ mask:=m,place:=(((Qm (m+1)).filterMap λj=>(u.getD j Js).map (j,·)).map (·.1)).toArray,dummies:=#[],finger:=f,led:=l,moves:=v,plain:=p }:j1),(((Qm (m+1)).filterMap λj=>(u.getD j Js).map (j,·)).map (·.2)).toArray)=Jr (t,o):=e;rw[hL]at e;have F:=(Prod.mk.inj (Q1 e)).1;have eo:=(Prod.mk.inj (Q1 e)).2;have G:t.mask=m:=by rw[<- F]
 have tp:t.place.toList=L.map (·.1):=by rw[<- F]
 have td:t.dummies=#[]:=by rw[<- F]
 have S:o.toList=L.map (·.2):=by rw[<- eo]
 have w:=eM (t:=t) hs.toList [] (QAY (m+1) Js) (u,0+hs.toList.9) (λj k h=>h7 h (A j k)) (by rw[G];exact O);rw[Qy]at w;have X:∀j k:Nat,u.getD j Js=Jr k↔u[j]?=Jr (Jr k):=λj k=>by
  rw[wL];cases c:u[j]? with|none=>exact#[λz=>(by cases z),λz=>(by cases z)]|some y=>exact#[λz=>(by rw[show y=Jr k from z]),λz=>Q1 z]
 have g:∀j k:Nat,(j,k)∈L↔j<=m/\u[j]?=Jr (Jr k):=λj k=>by rw[<- hL,QAR];constructor;rintro⟨a,r,E⟩;let#[b,h3,h4]:=w9.mp E;cases h4;exact#[qu (Q8.mp r),(X _ _).mp h3];rintro⟨r,E⟩;exact#[j,Q8.mpr (QBk r),by rw[(X _ _).mpr E];rfl]
 have P:(L.map (·.1)).Pairwise (· < ·):=by rw[<- hL,QAi,QBy];refine QCC.imp λ{a b} ab x W y Z=>?_;let#[_,_,rfl]:=w9.mp W;let#[_,_,rfl]:=w9.mp Z;exact ab
 have I:GX t.place:=λi k x y ik W Z=>by rw[<- QY,tp]at W Z;let#[l1,rfl]:=Qd.mp W;let#[H,rfl]:=Qd.mp Z;exact List.pairwise_iff_getElem.mp P i k l1 H ik
 refine#[I,λi j M=>?_];rw[<- QY,tp,Qi]at M;let#[#[j',k],N,rfl]:=w9.mp M;let#[jm,g2]:=(g _ _).mp (Qq N);let#[h,r,q,R,Q]:=w _ _ g2;refine#[k,h,by rw[<- QY,S,Qi,N];rfl,by rw[<- QY];exact r,q,R,λn hn=>?_];have K:=yU (t:=t) n _ (lY t h);have Y:=Q n hn;generalize (xB t.advance n (t.probeStart h)).j=a at K Y ⊢;rw[G]at K;have J:a<u.size:=by rw[ho.s];omega
 rw[wL,Qp J]at Y;cases c:u[a]with|none=>rw[c]at Y;cases Y|some b=>have B:=(g a b).mpr #[K,by rw[Qp J,c]];let#[i2,C]:=WI.mp B;rw[fJ I (i:=i2) (by rw[<- QY,tp,Qi,C];rfl)];exact QAG
end
open PySem.Spec PyProof.Rows PySem.SeqAt
variable{Pv:Jw->Prop}
theorem xa{α x:Type}{f:α->Option x}:∀{l:List α},(∀k∈l,(f k).isSome=Jt)->∀i:Nat,(l.filterMap f)[i]?=(l[i]?).bind f
 |[],_,i=>rfl|a::l,h,i=>by
  let#[b,hb]:=QBf.mp (h a QD);rw[wQ,hb];cases i with|zero=>exact hb.symm|succ i=>exact xa (λk hk=>h k (QC _ hk)) i
section
variable{prog:jt}{w:jw}{A:j2}{E:ZB}{s:jx}
def tR(Pv:Jw->Prop)(w:jw)(h:j0)(a:jv)(b:Bool)(ks:List NK):Prop:=∃x y t,h.get? a=Jr { cls:=.type "set",dict:=Js,data:=.set x y t,slots:=#[] }/\TsO Pv w h x t ks/\Dk t x.size/\t.led=b/\(x.size=0∨t.plain=Ju)/\GX t.place/\YX t x/\ks.Nodup
theorem PZ{a:jv}{x:Jw}{k:NK}{ks:List NK}{Q:Bool->jx->Prop}{b:Bool}(ht:∃z l,k=.t (.s z::l))(hu:A.units+8<kx)(h0:tR Pv w s.1 a b ks)(hn:ks.9<306)(I:jH s.1 k x)(hk:DN k<=6)(hP:Pv x)
  (q:∀r h' B,qS a s.1 h'->tR Pv w h' a b B->(B.Perm (ks++[k])∨k∈ks/\B=ks)->Q r { s with heap:=h' }):jy (js prog w) A (v1 a x (MI w k) 100000) Q E s:=by
 let#[z,l,ht]:=ht;have hc:∃c,x=.ref c:=by subst ht;let#[c,_,e,_]:=I;exact#[c,e]
 let#[c,S]:=hc;let#[g,ep,t,F,Z,rm,ld,pl,rs,rc,nd]:=h0;have hf:=dJ Z.t;have hz:g.size=ks.length:=by rw[<- QN];exact Z.e.9
 rw[show(100000:Nat)=99999+1 from rfl];unfold v1;refine QA (qa F rfl hf ?_);dsimp only;rw[hI (by subst S;exact QDr)];refine QA (PR hu F Z I hk (λc=>?_) λq0 hj sn=>?_);exact QH (q Ju s.1 ks (QBi _ _) #[g,ep,t,F,Z,rm,ld,pl,rs,rc,nd] (.inr #[c,rfl]));dsimp only;have kn:=iW Z rs rc hj sn;have K:=d6 (v:=x) Z.t rfl rs rc hj λm hm=>by let#[i,h,_]:=sn m hm;rw[h];exact QAG
 generalize hj0:(xB t.advance q0 (t.probeStart (MI w k))).j=j at hj K ⊢;refine QA (qa F rfl hf ?_);dsimp only;let#[tp,mp]:=jd (j:=j) Z.t rm;have pe:=QCB g (t.put j).2 (MI w k,x);rw[W5]at pe;have Y:(wW g (t.put j).2 (MI w k,x)).size=g.size+1:=by have:=pe.length_eq;rw[QM,QN,QN]at this;exact this
 let#[k1,p1,h1]:=mJ pe (Z.e.snoc (show Ek Pv w s.1 (MI w k,x) k from#[I,rfl,#[c,S],hk,hP]));have n1:k1.Nodup:=p1.nodup_iff.mpr (qH.mpr #[nd,Qa.mpr #[WF,Qo],λx I y hy=>by rw[QI.mp hy];exact λe=>kn (e▸I)]);generalize wW g (t.put j).2 (MI w k,x)=e1 at pe Y h1 K ⊢;have l0:(t.put j).1.led=b:=ld;generalize (t.put j).1=t1 at tp mp l0 K ⊢;have sz:g.size+1<=sizeLine:=by rw[qU];omega
 have X:∀u:j1,TbO u (g.size+1)->u.mask=t.mask->u.led=b->u.plain=Ju->GX u.place->YX u e1->jy (js prog w) A (do
   gL a e1 u
   if(!Ju&&u.tooFull)=Jt then setRelay a (qX (g.size+1))
   hT Jt) Q E s:=λu W m2 R N rs2 rc2=>by
  refine QA (QAj F rfl ?_ (by rw[Y];exact sz));have J:=sJ (es':=e1) (t':=u) F;have o:=qP s.1 a (QBD e1 u);have C:=h1.mono λ_ _ z=>UQ F rfl o z;generalize s.1.update a (QBD e1 u)=hp1 at J o C ⊢;have o1:TsO Pv w hp1 e1 u k1:=#[C,by rw[Y];exact W]
  by_cases c:u.tooFull=Jt;dsimp only;rw[c,hQ (by rfl)];have H:(g.size+1) * 5 ≥ u.mask * 3:=by unfold QDs QC8 at c;rw[W.s,W.d]at c;exact Fx c
  let#[g2,g3,g4]:=G2 W H (by rw[m2];exact rm) ();refine QA ?_;unfold setRelay;refine QA (qa (s:={ s with heap:=hp1 }) J rfl (dJ o1.t) ?_);dsimp only;rw[hI (by rw[qU];omega)];let#[G,O,l1,l2,l3,l5,l6,l4]:=OW (f:=u.finger) (v:=u.movedTo (wk (qX (g.size+1)) - 1)) (l:=u.led) (p:=u.plain) (hs:=e1.map (·.1)) g2 (by rw[QCm,Y];omega);rw[show u.relaid (e1.map (·.1)) (qX (g.size+1))=Jr (G,O) from l1];rw[QCm]at l2 l4;have pf:=i8 l4;let#[rs3,rc3]:=C1 g2 (by rw[QCm,Y];omega) l1;have M:YX G (O.filterMap (e1[·]?)):=λi j e hi he=>by let#[k,h,a1,a2,a3]:=rc3 i j hi;rw[<- QY,QCA,xa (λk hk=>by have:=Q8.mp (l4.mem_iff.mp hk);rw[Qp this];rfl),QY,a1]at he;have he:e1[k]?=Jr e:=he;rw[Array.getElem?_map,he]at a2;cases a2;exact a3
  have P:(O.filterMap (e1[·]?)).size=e1.size:=by have:=pf.length_eq;rw[QN,QN]at this;exact this
  refine QA ?_;show jy _ _ (do
   let es':=O.filterMap (e1[·]?)
   if es'.size != e1.size then unsupported "internal:set-table-lost-an-element"
   hT (es',G)) _ _ _
  dsimp only;rw[P,hI (by rw[bne_self_eq_false];exact QDr)];refine QA (QH (QH ?_));dsimp only;generalize O.filterMap (e1[·]?)=e2 at pf P M ⊢;refine QAj (s:={ s with heap:=hp1 }) J rfl (QH ?_) (by rw[P,Y];exact sz);have gg:=sJ (es':=e2) (t':=G) J;have L:=qP hp1 a (QBD e2 G);let#[k2,p2,W]:=mJ pf C;refine q Jt _ k2 (o.trans L) #[e2,_,G,gg,#[W.mono λ_ _ z=>UQ J rfl L z,by rw[P];exact l2],?_,l5.trans R,.inr (l6.trans N),rs3,M,p2.nodup_iff.mpr n1] (.inl (p2.trans p1));unfold Dk;rw[P,Y,l3];exact g3;dsimp only;rw[QBn.mpr c,hI (by decide)];refine QH ?_;refine q Jt _ k1 o #[e1,_,u,J,o1,?_,R,.inr N,rs2,rc2,n1] (.inl p1);unfold Dk;rw[Y];refine Nat.lt_of_not_le λz=>c ?_;unfold QDs QC8;rw[W.s,W.d];exact dT z
 split;subst ht;refine QA (y0 (n:=6) I ?_);exact X { t1 with plain:=Ju } #[tp.m,tp.d,tp.s,tp.f] mp l0 rfl K.1 K.2;rename_i c;exact QA (QH (X t1 tp mp l0 (QBn.mpr c) K.1 K.2))
end
end L2.L3
namespace L2.L3
open PySem PySem.Spec PyProof.Rows
variable{Pv:Jw->Prop}
section
variable{w:jw}{h h':j0}{a:jv}{b:Bool}{ks:List NK}
theorem aS{h:j0}:∀{ks:List NK}{vs:LW},NKvs h ks vs->∀(i:Nat) (v:Jw),vs[i]?=Jr v->∃k,ks[i]?=Jr k/\jH h k v
 |[],vs,e,i,v,hv=>by cases(show vs=[] from e);cases hv|k::ks,vs,#[x,r,e,p,p'],i,v,hv=>by
  subst e;cases i with|zero=>cases hv;exact#[k,rfl,p]|succ i=>exact aS p' i v hv
theorem tR.at(x:tR Pv w h a b ks)(u:∀o,h.get? a=Jr o->h'.get? a=Jr o)(y:∀b its,h.IsTuple b its->h'.IsTuple b its):tR Pv w h' a b ks:=by let#[v,k,t,e,#[p,q],r]:=x;exact#[v,k,t,u _ e,#[p.mono λ_ _ z=>#[kE y z.1,z.2],q],r]
theorem B7(e:h.get? a=Jr (rF b)):tR Pv w h a b []:=#[#[],0,_,e,#[.nil,.inl rfl,rfl,rfl,Q5 _],(by decide:0 * 5<7 * 3),rfl,.inl rfl,λi _ x _ _ h _=>h7 (show(#[]:Array Nat)[i]?=Jr x from h) (by simp),λi j _ h _=>h7 (show(#[]:Array Nat)[i]?=Jr j from h) (by simp),Qo]
theorem N5{r:Bool}(x:tR Pv w h a r ks)(u:qS a h h')(b:jv)(its:Array Jw):h.IsTuple b its->h'.IsTuple b its:=by rintro⟨v,e,c,n,y⟩;let#[f,g,t,k,_]:=x;exact#[v,(u.2 b λz=>by subst z;cases e.symm.trans k;cases y).trans e,c,n,y]
end
section
variable{u:jt}{h:jw}{y:j2}{Er:ZB}{sh:jx}
section
variable{l:jv}{xs:Array Jw}{ss:List NK}
theorem RZ{a:jv}{x:Jw}{k:NK}{ks:List NK}{r:Bool}{Q:Bool->jx->Prop}(g:y.units+8<kx)(h0:tR Pv h sh.1 a r ks)(j:ks.9<306)(w:jH sh.1 k x)(hk:DN k<=6)(i:∃z l,k=.t (.s z::l))(n:Pv x)
  (q:∀b h' v,qS a sh.1 h'->tR Pv h h' a r v->(∀s,s∈v↔s∈ks∨s=k)->v.9<=ks.9+1->Q b { sh with heap:=h',toks:=sh.toks+ae k }):jy (js u h) y (Zt a x) Q Er sh:=by
 unfold Zt;refine qG (QA (MU k x _ _ _ w () ?_));unfold setAddHashed;refine qG (PZ (s:={ sh with toks:=sh.toks+ae k }) i g h0 j w hk n λb h' v f st m=>q b h' v f st (λs=>?_) ?_);rcases m with p|⟨m,rfl⟩
 ·rw[p.mem_iff,QW,QI]
 exact#[.inl,λz=>z.elim id λe=>e▸m];rcases m with p|⟨m,rfl⟩
 ·rw[p.length_eq,QM];exact QX _
 exact wm _
theorem eW{S it:jv}{b:Bool}{R:Result->jx->Prop}(hd:y.handled=Js)(hu:y.in1.units+8<kx)(ne:l≠it)(H:S∉[it,l])(hk:∀k∈ss,DN k<=6/\∃z l,k=.t (.s z::l))(bd:xs.size<306)(hP:∀v∈xs.toList,Pv v) :
  ∀(n i:Nat) (sh:jx) (j:List NK),xs.size - i=n->i<=xs.size->(sh.1.IsListIter it l i/\sh.1.IsList l xs)->tR Pv h sh.1 S b j->NKvs sh.1 ss xs.toList->(∀s,s∈j↔s∈ss.take i)->j.9<=i ->
   (∀s' x,Moved [S,it] (λa b=>b=a) sh s'->tR Pv h s'.1 S b x->(∀s,s∈x↔s∈ss)->x.9<=xs.size->R (.ok (.ret .none)) s') ->
   Xz (js u h) y (.builtin "set.update.loop" #[[.ref S,.ref it],[]]) R sh:=by
 have W:=(QDI (prog:=u) (w:=h) (A:=y.in1) hd it l ne xs).toS;have sub:∀c∈[it],c∈[S,it]:=λc hc=>QC _ hc;have Q:S∉[it]:=λz=>H (QK.mpr (.inl (QI.mp z)));have N:∀{sh s':jx}{i:Nat},sh.1.IsListIter it l i->Moved [it] (λa b=>b=a) sh s'->∀b Y,sh.1.IsTuple b Y->s'.1.IsTuple b Y:=by rintro sh s' i ⟨o1,e1,c1,_⟩ g b Y ⟨P,e,c,n,dt⟩;exact#[P,g.1 b P (λz=>by cases QI.mp z;cases e1.symm.trans e;have:=Value.type.inj (c1.symm.trans c);exact h7 this (by decide)) e,c,n,dt]
 intro n;induction n with
 |zero =>
  intro i sh j en li f p hs X len k;obtain rfl:i=xs.size:=()
  refine qf We ?_;rw[qQ wM _];refine QA (m:=Vs (.ref it)) (W.done sh _ _ f λs' g=>QH (k s' j (g.mono sub) (p.at (λo e=>g.1 S o Q e) (N f.1 g)) ?_ len));intro s;have hl:=YH hs;rw[QN]at hl;rw[X,hl,QDn]
 |succ n ih =>
  intro i sh j en li f p hs X len k;have lt:i<xs.size:=()
  refine qf We ?_;rw[qQ wM _];refine QA (m:=Vs (.ref it)) (W.item i sh _ _ lt f λv s' O F g=>?_);have kp:=N f.1 g;have B:=nks_keeps kp hs;let#[z,ez,hz]:=aS B i v (by rw[QY];exact O);let#[M,L]:=hk z (Qq ez);have K:tR Pv h s'.1 S b j:=p.at (λo e=>g.1 S o Q e) kp;refine QA (m:=Yx [v] (Zt S v)) (qG (RZ hu K () hz M L (hP v (Qq (by rw[QY];exact O))) λr h' x G E m3 l3=>QH #[WH wM _,?_]));refine ih (i+1) _ x () lt (W.frame _ s' _ _ F (QB5 _ _) λc hc o e=>?_) E (nks_keeps (N5 K G) B) (λs=>?_) () λI Z J C m4 l4=>k I Z (Moved.trans W.gtrans ((g.mono sub).then_heap (QB5 _ _) λc o hc e=>?_) J) C m4 l4;rw[G.2 c λq=>H (q▸hc)];exact e;rw[m3,X,List.take_succ,ez,QW];simp;rw[G.2 c λq=>hc (q▸QD)];exact e
theorem sO{Q:ZB}(J:y.handled=Js)(hl:sh.1.IsList l xs)(hs:NKvs sh.1 ss xs.toList)(hk:∀k∈ss,DN k<=6/\∃z l,k=.t (.s z::l))(hu:y.units+40<kx)(O:xs.size<306)(L:∀v∈xs.toList,Pv v)
  (k:∀(h':j0) (a:Nat) (x:List NK),tR Pv h h' sh.1.1.size (!h.params.followText "set-order") x->(∀s,s∈x↔s∈ss)->x.9<=xs.size->(∀b o,sh.1.get? b=Jr o->h'.get? b=Jr o)->Q (.ref sh.1.1.size) { sh with heap:=h',toks:=a }) :
  jy (js u h) y (Xw (.type "set") [.ref l]) Q Er sh:=by
 generalize hb:(!h.params.followText "set-order")=b at k;generalize hn:sh.1.1.size=n at k;let#[c,tl,mr]:=qp.mro;have md:=qp.made;have sb:=qp.sub;have c1:=qp.notType;have c2:=qp.canCreate;have c3:=QDo (.ref l);refine QD8 (QCO ?_);show jy _ _ (callAny (.type "set") _) _ _ _;refine QH #[QDA _ (by decide +kernel),qf QDO ?_];rw[QDB (QCP "set" [.ref l] []) rfl]
 repeat (any_goals (first|assumption|wp_step))
 refine QAL (OU (v:=.ref l) (Er:=Er) (Q:=λp q=>p=.ref n/\q={ sh with heap:=sh.1.push (rF b) }) #[by rw[hn],by rw[hb]]) λr q g=>?_;cases r with
 |error e=>exact g|ok fl =>
  cases fl with
  |ret obj =>
   let#[rfl,rfl]:=g;have C:(sh.1.push (rF b)).get? n=Jr (rF b):=hn▸QO _ rfl;have ty:QDC { sh with heap:=sh.1.push (rF b) } (.ref n) "set":=#[_,C,rfl]
   have li:=qp.init.lookup;have bi:=qp.init.bind (.ref n)
   repeat (any_goals (first|assumption|wp_step))
   refine QAL (QCa (R:=wants (λr q=>r=.none/\∃h' a x,q={ sh with heap:=h',toks:=a }/\tR Pv h h' n b x/\(∀s,s∈x↔s∈ss)/\x.9<=xs.size/\∀c o,sh.1.get? c=Jr o->h'.get? c=Jr o) Er) qp.init.plain QDp (QDq ty ?body)) ?after
   case after =>
    intro r q g;cases r with
    |error e=>exact g|ok fl =>
     cases fl with
     |ret r =>
      let#[rfl,h',a,x,rfl,a1,H,S,P]:=g
      repeat (any_goals (first|assumption|wp_step))
      exact k h' a x a1 H S P
     |_=>exact g.elim
   case body =>
    let#[G,B,N,W,M]:=hl;let#[Z,f,X,w]:=G;cases N;cases M;have Y:(sh.1.push (rF b)).get? l=Jr { cls:=.type "list",dict:=f,data:=.seq xs W,slots:=w }:=QJ _ B;have t1:=F.sub_list_set;have t2:=QCb;have t3:(Value.type "list" == Value.type "dict")=false:=by decide
    have A:(sh.1.push (rF b)).IsList l xs:=#[_,Y,rfl,W,rfl]
    unfold Builtin.«set.__init__» noKeywords QA8;generalize hi:vu=it;wp_walk;subst hi;refine WU A (QA (QBa ?_));have lt:l<sh.1.1.size:=QR B;have sz:(sh.1.push (rF b)).1.size=n+1:=by rw[wt,hn]
    rw[hn]at lt;refine eW (ss:=ss) (by simp[J]) (by simp only[QB3];omega) (show l≠_ by rw[sz];exact Qc (qh lt)) (λz=>?_) hk O L xs.size 0 _ [] (QDa _) (Q5 _) #[#[_,QO _ rfl,rfl,rfl],A.push _] (B7 (QJ _ C)) (nks_keeps (λ_ _ z=>z.push _) (nks_keeps (λ_ _ z=>z.push _) hs)) (λs=>?_) (QX _) λE j i st m I=>?_;rw[sz]at z;rcases QK.mp z with z|z;exact Qc (QAH _) z;exact wa lt (QI.mp z);rw[List.take_zero];let#[h',gs,dr,a,oo]:=E;cases i.gens;cases i.drawn;cases i.os;refine QH ?_;refine QH #[rfl,h',a,j,rfl,st,m,I,λc o e=>?_];have K:c<n:=hn▸QR e;refine i.1 c o (λz=>?_) (QJ _ (QJ _ e));rw[sz]at z;rcases QK.mp z with z|z;exact Qc K z;exact Qc (qh K) (QI.mp z)
  |_=>exact g.elim
end
end
end L2.L3
namespace L2.L3
open PySem PySem.Spec PyProof.Rows
section
variable{u:jt}{z:jw}{M:Model}{y:j2}{Er:ZB}{sh:jx}
theorem NM{src:Source}{n:Nat}{Q:Nat->jx->Prop}(x:n≠0)(h:∀i d,i<n->Q i { sh with drawn:=d }):jy M y (choose src n) Q Er sh:=λ_ _ _=>by unfold choose;rw[Sem.wp_choose];exact#[x,by rw[Sem.wp_pure];exact h _ _ (QBC _ (Nat.pos_of_ne_zero x))]
theorem RK{α:Type}{xs:List α}{i:Nat}(h:i<xs.9):(xs[i]::xs.eraseIdx i).Perm xs:=by rw[List.eraseIdx_eq_take_drop_succ];refine List.perm_middle.symm.trans ?_;rw[<- WO h,QCQ]
theorem V3{α:Type}:∀(n:Nat) (xs:List α) (sh:jx) {Q:List α->jx->Prop},xs.9=n->(∀L d,L.Perm xs->Q L { sh with drawn:=d })->jy M y (drawOrder n xs) Q Er sh:=by
 intro n;induction n with
 |zero=>intro xs sh Q hl k;obtain rfl:=qw.mp hl;exact QH (k [] sh.drawn (Wn _))|succ n v =>
  intro xs sh Q hl k;cases xs with|nil=>cases hl|cons x r=>unfold drawOrder;refine QA (NM (by rw[hl];exact Nat.succ_ne_zero n) λi d h=>?_);rw[qA h];refine QA (v ((x::r).eraseIdx i) _ (by rw[QBO h,hl];rfl) λL w p=>QH (k _ w ((p.cons _).trans (RK h))))
theorem fW{α:Type}(f:Nat->Nat):∀(n k:Nat) (xs:List α) (out:Array α),xs.9=n->(pickOrder.go f n k xs out).toList.Perm (out.toList++xs):=by
 intro n;induction n with|zero=>intro k xs out hl;obtain rfl:=qw.mp hl;rw[wH];exact Wn _|succ n x=>intro k xs out hl;have h:f k % xs.9<xs.length:=QBC _ ();unfold pickOrder.go;rw[qA h];refine(x (k+1) _ _ (by rw[QBO h,hl];rfl)).trans ?_;rw[W5,qg];exact(RK h).append_left _
end
namespace F
theorem GP:Manifest.owners.lookup (String.ofList ['r','o','t','a','r','e','t','i','_','t','e','s'].reverse)=Jr Manifest.sig_set_iterator:=by kernel_rfl
theorem slot_si:Slot "set_iterator" "__next__" "set_iterator.__next__":=.of (owner:="set_iterator") (n:="__next__") (by rw[yy,QCR];kernel_rfl) (by decide +kernel) (by decide +kernel) (by decide +kernel) (by first|exact .inl (by decide +kernel)|exact .inr (by decide +kernel)) (by rw[QBb];kernel_rfl)
theorem entry_si:gN table "set_iterator.__next__"=Jr Builtin.«set_iterator.__next__»:=entryFor_of_tree (by kernel_rfl)
theorem args_si(a:Jw):argsOk "set_iterator.__next__" #[[a],[]]:=by unfold argsOk;rw[signature?_of (id:="set_iterator.__next__") (n:=['_','_','t','x','e','n','_','_']) (o:=['r','o','t','a','r','e','t','i','_','t','e','s']) (by kernel_rfl) GP];kernel_rfl
theorem entry_set_iter:gN table "set.__iter__"=Jr Builtin.«frozenset.__iter__»:=Zu (id':="frozenset.__iter__") (by kernel_rfl) rfl (by decide +kernel) (by kernel_rfl)
end F
def DM(h:j0)(j a:jv)(f:Jw)(i n ep:Nat):Prop:=∃o,h.get? j=Jr o/\o.cls=.type "set_iterator"/\o.data=.fields (Wb [f,Kz i,.ref a,Kz n,Kz ep])
theorem DM.ty{sh:jx}{j a:jv}{f:Jw}{i n ep:Nat}(x:DM sh.1 j a f i n ep):sh.TypeIs (.ref j) "set_iterator":=let#[o,e,c,_]:=x;#[o,e,c]
noncomputable abbrev setO(es:Array (Int×Jw))(ep:Nat)(t:j1):Obj:={ cls:=.type "set",dict:=Js,data:=.set es ep t,slots:=#[] }
section
variable{u:jt}{y:jw}{z:j2}{Er:ZB}{sh:jx}{j a:jv}{es:Array (Int×Jw)}{ep:Nat}{t:j1}
section
variable{Q:Option Jw->jx->Prop}{h:j0}{f:Jw}{i i' n s:Nat}
theorem jU{P:QEI->jx->Prop}{x:ZB}(v:z.handled=Js)(k:∀e h',QDC { sh with heap:=h' } e "StopIteration"->(∀b o,sh.1.get? b=Jr o->h'.get? b=Jr o)->x e { sh with heap:=h' }) :
  jy (js u y) z.in1 (do Yt (<- x2 (.type "StopIteration") []):Sem QEI) P x sh:=by
 simp only[x2,Ys,Yt];refine QA (QA (Qx ?_ (by size_fits)));refine QA (m:=kv _ _) (QAJ (a:=Jz) (by first|rfl | (rw[kv];rfl)) (Qx ?_ (by size_fits)));refine QA (QBv ?_);rw[show z.in1.handled=Js from v];refine QA (QH (QCr (k _ _ ?_ ?_)));exact#[_,QO _ rfl,rfl];exact λb o e=>QJ _ (QJ _ e)
theorem cP{e:Jw}(ty:sh.TypeIs e "StopIteration")(q:Q Js sh):jy (js u y) z (do if <- isInstance e (.type "StopIteration") then hT Js else throw e) Q Er sh:=by refine QA (Wi (T:="StopIteration") (b:=Jt) ty (by kernel_rfl) ?_);rw[hQ rfl];exact QH q
theorem DM.put{v:Jw}(it:DM h j a f i n ep):DM ((h.update j (wC (·.setIfInBounds 0 v))).update j (wC (·.setIfInBounds 1 (Kz i')))) j a v i' n ep:=by let#[o,k,hc,x]:=it;have b:=Q3 (wC (·.setIfInBounds 0 v)) k (wF (qI x _));have w:=qI x (·.setIfInBounds 0 v);refine#[_,Q3 _ b (wF (qI w _)),(W4 ..).trans ((W4 ..).trans hc),?_];rw[qI w];simp
theorem DM.put1(it:DM h j a f i n ep):DM (h.update j (wC (·.setIfInBounds 1 (Kz i')))) j a f i' n ep:=by let#[o,v,hc,x]:=it;refine#[_,Q3 _ v (wF (qI x _)),(W4 ..).trans hc,?_];rw[qI x];simp
theorem eY{r:Option (Jw×Nat)}(Y:z.handled=Js)(it:DM sh.1 j a (Kz s) i n ep)(W:sh.1.get? a=Jr (setO es ep t))(X:t.fits es.size=Jt)(m:n=es.size)
  (nx:∀{A:j2}{E:ZB}{q:Option (Jw×Nat)->jx->Prop},q r sh->jy (js u y) A (Xr a s i ep) q E sh)
  (l:∀x s' h',r=Jr (x,s')->DM h' j a (Kz s') (i+1) n ep->(∀b o,b≠j->sh.1.get? b=Jr o->h'.get? b=Jr o)->Q (Jr x) { sh with heap:=h' })
  (g:r=Js->∀h',(∀b o,b≠j->sh.1.get? b=Jr o->h'.get? b=Jr o)->Q Js { sh with heap:=h' }) :
  jy (js u y) z (Vs (.ref j)) Q Er sh:=by
 have ty:=it.ty;let#[o,w,hc,v]:=id it;unfold Vs;refine QA (QAU (qT (name:=Ql "__next__") ty F.slot_si (Q6 F.slot_si ty F.entry_si ?_ (F.args_si _))));unfold Builtin.«set_iterator.__next__»;refine QA (QAJ (a:=(Jv j,[])) rfl (QA (QAE w v ?_)));show jy _ _ (setEntries a >>= _) _ _ _;refine QA (QBG W rfl X ?_);rw[hI (show ¬ (((es.size:Nat):Int) != ((n:Nat):Int))=Jt by rw[m];simp)];show jy _ _ (Xr a s i ep >>= _) _ _ _;refine QA (nx ?_);cases r with|some p=>let#[x,s']:=p;refine QA (wX w v (by simp) ?_);have Z:=Q3 (wC (·.setIfInBounds 0 (Kz s'))) w (wF (qI v _));refine QA (wX (s:={ sh with heap:=sh.1.update j (wC (·.setIfInBounds 0 (Kz s'))) }) Z (qI v _) (by simp) ?_);refine QH #[x,rfl,QH (l x s' _ rfl ?_ λb o hb e=>?_)];exact it.put (i':=i+1);rw[qB _ _ (qC hb),qB _ _ (qC hb)];exact e|none=>refine QA (wX w v (by simp) ?_);exact jU (sh:={ sh with heap:=sh.1.update j (wC (·.setIfInBounds 2 Jz)) }) Y λe h' ty k=>cP (sh:={ sh with heap:=h' }) ty (g rfl h' λb o hb e=>k b o (by rw[qB _ _ (qC hb)];exact e))
theorem aY{p:jv}{L:LN}{g:Obj}{c:Nat}(A:z.handled=Js)(it:DM sh.1 j a (.ref p) i n ep)(r:sh.1.get? a=Jr (setO es ep t))(l:t.fits es.size=Jt)(K:n=es.size)
  (E:sh.1.get? p=Jr g) (I:g.data=.seq (L.map λi=>Kz (i:Nat)).toArray c) (B:∀m∈L,m<es.size)
  (W:∀m x h',L[i]?=Jr m->es[m]?=Jr x->DM h' j a (.ref p) (i+1) n ep->(∀b o,b≠j->sh.1.get? b=Jr o->h'.get? b=Jr o)->Q (Jr x.2) { sh with heap:=h' })
  (Z:L[i]?=Js->∀h',(∀b o,b≠j->sh.1.get? b=Jr o->h'.get? b=Jr o)->Q Js { sh with heap:=h' }) :
  jy (js u y) z (Vs (.ref j)) Q Er sh:=by
 have ty:=it.ty;let#[o,w,hc,v]:=id it;unfold Vs;refine QA (QAU (qT (name:=Ql "__next__") ty F.slot_si (Q6 F.slot_si ty F.entry_si ?_ (F.args_si _))));unfold Builtin.«set_iterator.__next__»;refine QA (QAJ (a:=(Jv j,[])) rfl (QA (QAE w v ?_)));show jy _ _ (setEntries a >>= _) _ _ _;refine QA (QBG r rfl l ?_);rw[hI (show ¬ (((es.size:Nat):Int) != ((n:Nat):Int))=Jt by rw[K];simp)];show jy _ _ (seqItems? (.ref p) >>= _) _ _ _;refine QA (QAD E I ?_);have C:(L.map λi=>Kz (i:Nat)).toArray[i]?=(L[i]?).map λi=>Kz (i:Nat):=by rw[List.getElem?_toArray,Qi]
 show jy _ _ (match (L.map λi=>Kz (i:Nat)).toArray[i]? with|some (Value.int place _)=>_|some _=>_|none=>_) _ _ _;rw[C];cases k:L[i]? with
 |some m=>have X:=B m (Qq k);have q:es[m]?=Jr es[m]:=Qp X;show jy _ _ (setNextDrawn a m ep >>= _) _ _ _;unfold setNextDrawn;refine QA (QA (qa r rfl l ?_));show jy _ _ (if(ep != ep)=Jt then _ else _) _ _ _;rw[hI (by simp)];show jy _ _ (match es[m]? with|some (_,x)=>_|_=>_) _ _ _;rw[q];refine QH (QA (wX w v (by simp) ?_));refine QH #[_,rfl,QH (W m _ _ k q ?_ λb o hb e=>?_)];exact it.put1 (i':=i+1);rw[qB _ _ (qC hb)];exact e
 |none=>show jy _ _ (gV (.ref j) 0 (Kz 0) >>= _) _ _ _;refine QA (wX w v (by simp) ?_);have G:=Q3 (wC (·.setIfInBounds 0 (Kz 0))) w (wF (qI v _));refine QA (wX (s:={ sh with heap:=sh.1.update j (wC (·.setIfInBounds 0 (Kz 0))) }) G (qI v _) (by simp) ?_);exact jU (sh:={ sh with heap:=(sh.1.update j (wC (·.setIfInBounds 0 (Kz 0)))).update j (wC (·.setIfInBounds 2 Jz)) }) A λe h' ty Y=>cP (sh:={ sh with heap:=h' }) ty (Z k h' λb o hb e=>Y b o (by rw[qB _ _ (qC hb),qB _ _ (qC hb)];exact e))
theorem YW{Q:Option (Jw×Nat)->jx->Prop}(hb:y.params.followText "set-order"=Jt)(v:sh.1.get? a=Jr (setO es ep t))(x:t.fits es.size=Jt)(q:Q (((Gs (y.params.setOrder a ep) es)[i]?).map λe=>(e.2,0)) sh):jy (js u y) z (Xr a 0 i ep) Q Er sh:=by unfold Xr setWalk Zw;refine QA (qa v rfl x (QA (QA (Wk (QH ?_)))));rw[hQ (by exact hb)];show jy _ _ (if(ep != ep)=Jt then _ else _) _ _ _;rw[hI (by simp)];refine QA (QA (qa v rfl x (QA (QA (Wk (QH ?_))))));rw[hQ (by exact hb)];exact QA (Wk (QH (QH q)))
theorem z0{Q:Option (Jw×Nat)->jx->Prop}(hb:y.params.followText "set-order"=Ju)(w:sh.1.get? a=Jr (setO es ep t))(v:t.fits es.size=Jt)(k:es.size<=1)(hl:t.led=Jt)
  (q:Q (match es[Qz t.place s]?,t.place[Qz t.place s]? with|some (_,x),Jr j=>Jr (x,j+1)|_,_=>Js) sh):jy (js u y) z (Xr a s i ep) Q Er sh:=by
 unfold Xr Zw;refine QA (qa w rfl v (QA (QA (Wk (QH ?_)))));rw[hI (by show ¬ y.params.followText "set-order"=Jt;rw[hb];exact QG)];show jy _ _ (if(!t.plain&&decide (es.size > 1))=Jt then _ else _) _ _ _;rw[hI (by rw[dF (),QCe];exact QG)];refine QA (m:=if(!t.led&&!es.isEmpty)=Jt then unsupported "set:maker-not-led" else hT Unit.unit) ?_;rw[hI (by rw[hl];exact QG)];exact QH (QH q)
end
end
namespace F
theorem slot_sii:Slot "set_iterator" "__iter__" "set_iterator.__iter__":=.of (owner:="set_iterator") (n:="__iter__") (by rw[yy,QCR];kernel_rfl) (by decide +kernel) (by decide +kernel) (by decide +kernel) (by first|exact .inl (by decide +kernel)|exact .inr (by decide +kernel)) (by rw[QBb];kernel_rfl)
theorem args_sii(a:Jw):argsOk "set_iterator.__iter__" #[[a],[]]:=by unfold argsOk;rw[signature?_of (id:="set_iterator.__iter__") (n:=['_','_','r','e','t','i','_','_']) (o:=['r','o','t','a','r','e','t','i','_','t','e','s']) (by kernel_rfl) GP];kernel_rfl
theorem entry_sii:gN table "set_iterator.__iter__"=Jr Builtin.«dict_keyiterator.__iter__»:=Zu (id':="dict_keyiterator.__iter__") (by kernel_rfl) (by first|rfl|decide +kernel | (unfold String.splitOn;simp +decide [String.splitOnAux])) (by decide +kernel) (by kernel_rfl)
end F
section
variable{X:jt}{l:jw}{Y:j2}{Er:ZB}{sh:jx}{j a:jv}{es:Array (Int×Jw)}{ep:Nat}{t:j1}
section
variable{f:Jw}{i n:Nat}{Q:ZB}{u:LW}{w:Array Jw}
theorem vU(it:DM sh.1 j a f i n ep)(q:Q (.ref j) sh):jy (js X l) Y (vu (.ref j)) Q Er sh:=by refine QAg it.ty F.slot_sii (Q6 F.slot_sii it.ty F.entry_sii ?_ (F.args_sii _));show jy _ _ (ret (.ref j)) _ _ sh;exact QH #[_,rfl,"set_iterator",_,it.ty,F.slot_si.lookup,q]
theorem DM.at{h h':j0}(it:DM h j a f i n ep)(k:∀o,h.get? j=Jr o->h'.get? j=Jr o):DM h' j a f i n ep:=by let#[o,e,r]:=it;exact#[o,k o e,r]
theorem TX{g:Nat->Nat}(C:Y.handled=Js)(G:a≠j)(B:t.fits es.size=Jt)(K:n=es.size)
  (nx:∀(i:Nat) (A:j2) (s:jx) (E:ZB) (q:Option (Jw×Nat)->jx->Prop),i<=u.9->s.1.get? a=Jr (setO es ep t)->q ((u[i]?).map λx=>(x,g (i+1))) s->jy (js X l) A (Xr a (g i) i ep) q E s) :
  Walks X l Y j [j,a] [j] u.9 (λi v=>u[i]?=Jr v) (λi h=>DM h j a (Kz (g i)) i n ep/\h.get? a=Jr (setO es ep t)) where
 sub:=λb hb=>QK.mpr (.inl (QI.mp hb))
 frame:=λi h y st k=>#[st.1.at λo e=>k j QD o e,k a (QC _ QD) _ st.2]
 item:=λi s Q E p st q=>eY (r:=(u[i]?).map λx=>(x,g (i+1))) C st.1 st.2 B K (λ{A W Z} h=>nx i A s W Z (QAo p) st.2 h)
  (λx F y e it m=>by rw[qA p]at e;cases e;exact q _ y s.toks (qA p) #[it,m a _ G st.2] λb o hb e=>m b o (λz=>hb (QI.mpr z)) e)
  λe=>by rw[qA p]at e;cases e
 done:=λs Q E st q=>eY (r:=(u[u.9]?).map λx=>(x,g (u.9+1))) C st.1 st.2 B K (λ{A W Z} h=>nx _ A s W Z (QX _) st.2 h)
  (λx F y e=>by rw[qL (QX _)]at e;cases e)
  λ_ y m=>q y s.toks λb o hb e=>m b o (λz=>hb (QI.mpr z)) e
 self:=λi s Q E st q=>vU st.1 q
theorem SX{p:jv}{r:Obj}{c:Nat}{L:LN}(K:Y.handled=Js)(F:a≠j)(C:p≠j)(W:t.fits es.size=Jt)(Z:n=es.size)(B:r.data=.seq (L.map λi=>Kz (i:Nat)).toArray c)(A:∀m∈L,m<es.size) :
  Walks X l Y j [j,a,p] [j] L.9 (λi v=>∃m e,L[i]?=Jr m/\es[m]?=Jr e/\v=e.2) (λi h=>DM h j a (.ref p) i n ep/\h.get? a=Jr (setO es ep t)/\h.get? p=Jr r) where
 sub:=λb hb=>QK.mpr (.inl (QI.mp hb))
 frame:=λi h g st k=>#[st.1.at λo e=>k j QD o e,k a (QC _ QD) _ st.2.1,k p (QC _ (QC _ QD)) _ st.2.2]
 item:=λi s Q E G st q=>aY K st.1 st.2.1 W Z st.2.2 B A
  (λm x g e I it y=>q _ g s.toks #[m,x,e,I,rfl] #[it,y a _ F st.2.1,y p _ C st.2.2] λb o hb e=>y b o (λz=>hb (QI.mpr z)) e)
  λe=>by rw[qA G]at e;cases e
 done:=λs Q E st q=>aY K st.1 st.2.1 W Z st.2.2 B A (λm x g e=>by rw[qL (QX _)]at e;cases e)
  λ_ g y=>q g s.toks λb o hb e=>y b o (λz=>hb (QI.mpr z)) e
 self:=λi s Q E st q=>vU st.1 q
def j5(X:jt)(l:jw)(s:jx)(j n:jv)(es:List (Int×Jw)):Prop :=
 ∃(h:List jv) (P:Nat->Jw->Prop) (St:Nat->j0->Prop),(∀A:j2,A.handled=Js->Walks X l A j h [j] es.9 P St)/\St 0 s.1/\(∀b∈h,b<s.1.1.size)/\n∉h/\∀w:Array Jw,ItemsOf P w es.9->w.toList.Perm (es.map (·.2))
theorem N1(k:n=u.9)(h:ItemsOf (λi v=>u[i]?=Jr v) w n):w.toList=u:=by let#[z,b]:=h;have z:w.toList.9=u.length:=z.trans k;refine List.ext_getElem z λi x y=>?_;have this:u[i]?=Jr w[i]:=b i w[i] (Qp x);rw[qA y]at this;exact(Q1 this).symm
theorem AW{L:LN}(h:ItemsOf (λi v=>∃m e,L[i]?=Jr m/\es[m]?=Jr e/\v=e.2) w L.9):w.toList=L.filterMap λm=>(es[m]?).map (·.2):=by
 let#[b,k]:=h;have x:w.toList.9=L.length:=b;clear b;generalize hv:w.toList=y at x;have z:∀(i:Nat) (v:Jw),y[i]?=Jr v->∃m e,L[i]?=Jr m/\es[m]?=Jr e/\v=e.2:=λi v e=>k i v (by rw[<- hv,QY]at e;exact e);clear hv k;induction y generalizing L with
 |nil=>cases L with|nil=>rfl|cons _ _=>cases x
 |cons v y g=>cases L with|nil=>cases x|cons m L=>let#[q,e,p,o,rfl]:=z 0 v rfl;cases p;rw[wQ,o];exact Fz _ (g (Nat.succ.inj x) λi v e=>z (i+1) v e)
noncomputable abbrev OR(f:Jw)(a n ep:Nat):Obj:={ cls:=.type "set_iterator",data:=.fields (Wb [f,Kz ((0:Nat):Int),.ref a,Kz n,Kz ep]) }
noncomputable abbrev RM(L:LN):Obj:={ cls:=.type "tuple",data:=.seq (L.map λi=>Kz (i:Nat)).toArray }
theorem E1{n:jv}(B:sh.1.get? a=Jr (setO es ep t))(K:t.fits es.size=Jt)(hz:es.size<=4096)(led:l.params.followText "set-order"=Ju->t.led=Jt)(pl:es.size=0∨t.plain=Ju)(na:n≠a)(H:n<sh.1.1.size)
  (k:∀s' j,(∀b o,sh.1.get? b=Jr o->s'.1.get? b=Jr o)->s'.gens=sh.gens->s'.os=sh.os->s'.toks=sh.toks->(∀b o,sh.1.get? b=Jr o->b≠j)->j5 X l s' j n es.toList->Q (.ref j) s'):jy (js X l) Y (vu (.ref a)) Q Er sh:=by
 have ty:sh.TypeIs (.ref a) "set":=#[_,B,rfl]
 have hs:jz=16777216:=qU;have la:=QR B;refine QAg ty QD2 (Q6 QD2 ty F.entry_set_iter ?_ (F.args_set_iter_1 _));unfold Builtin.«frozenset.__iter__» Builtin.Frozenset.slot0 Builtin.Frozenset.sizeOf setDrawn Zw;refine QA (QA (QAJ (a:=(Jv a,[])) rfl (QH ?_)));refine QA (QA (QBG B rfl K (QH ?_)));refine QA (QA (qa B rfl K (QA (QA (Wk (QH (QH ?_)))))));dsimp only;have fin:∀(W:jx) (f:Jw),W.gens=sh.gens->W.os=sh.os->W.toks=sh.toks->(∀b o,sh.1.get? b=Jr o->W.1.get? b=Jr o)->j5 X l { W with heap:=W.1.push (OR f a es.size ep) } W.1.1.size n es.toList ->
   jy (js X l) Y.in1 (do let e <- setEpoch a;let v <- newFields "set_iterator" [f,Kz 0,.ref a,Kz es.size,Kz e];ret v) (λfin s'=>∃v,fin=.done (.ret v)/\∃T' r,s'.TypeIs v T'/\typeLookup (.type T') (Ql "__next__")=hT (Jr r)/\Q v s') Er W:=λW f g1 g2 g3 kp gv=>by
  refine QA (wpAny_setEpoch_of (kp a _ B) rfl K (QA (Qx ?_)));refine QH #[_,rfl,"set_iterator",_,#[_,QO _ rfl,rfl],F.slot_si.lookup,k _ _ (λb o e=>QJ _ (kp b o e)) g1 g2 g3 (λb o e=>Qc (QR (kp b o e))) gv]
 have lt1:∀{W:j0}{o:Obj},∀b,b<W.1.size->b<(W.push o).1.size:=λ{W o} b h=>by rw[wt];exact qh h
 show jy _ _ (if(!l.params.followText "set-order" && (!t.plain&&decide (es.size > 1)))=Jt then _ else _) _ _ _;by_cases c:(!l.params.followText "set-order" && (!t.plain&&decide (es.size > 1)))=Jt;rw[hQ c];refine QA (V3 es.size _ sh qM λL d p=>QA (QCj ?_ (by rw[QF,p.length_eq,qM];omega)));have R:L.9=es.size:=by rw[p.length_eq,qM]
 have hL:∀m∈L,m<es.size:=λm hm=>Q8.mp (p.mem_iff.mp hm);refine fin { sh with drawn:=d,heap:=sh.1.push (RM L) } _ rfl rfl rfl (λb o e=>QJ _ e) ?_;have M:∀{b},b<sh.1.1.size->b≠(sh.1.push (RM L)).1.size:=λh=>by rw[wt];exact Qc (qh h)
 have N:=QO (o:=OR (.ref sh.1.1.size) a es.size ep) (sh.1.push (RM L)) rfl;have gP:((sh.1.push (RM L)).push (OR (.ref sh.1.1.size) a es.size ep)).get? sh.1.1.size=Jr (RM L):=QJ _ (QO _ rfl);have O:=QJ (OR (.ref sh.1.1.size) a es.size ep) (QJ (RM L) B);refine#[[(sh.1.push (RM L)).1.size,a,sh.1.1.size],λi v=>∃m e,L[i]?=Jr m/\es[m]?=Jr e/\v=e.2,λi h=>DM h (sh.1.push (RM L)).1.size a (.ref sh.1.1.size) i es.size ep/\h.get? a=Jr (setO es ep t)/\h.get? sh.1.1.size=Jr (RM L),λA hd=>?_,#[#[_,N,rfl,rfl],O,gP],λb hb=>?_,λz=>?_,λw h=>?_];rw[QN,<- R];refine SX hd (M la) (by rw[wt];exact Qc (QAH _)) K R (c:=0) rfl hL;rcases QK.mp hb with z|z
 ·rw[z];exact QR N
 rcases QK.mp z with z|z
 ·rw[z];exact QR O
 rw[QI.mp z];exact QR gP;rcases QK.mp z with z|z
 ·exact M H z
 rcases QK.mp z with z|z
 ·exact na z
 exact Qc H (QI.mp z);rw[QN,<- R]at h;rw[AW h];refine(p.filterMap _).trans ?_;rw[<- QC7,filterMap_getElem?_range];rw[hI c];have M:∀{b},b<sh.1.1.size->b≠sh.1.1.size:=λh=>Qc h;refine fin sh _ rfl rfl rfl (λ_ _ e=>e) ?_;have Z:∀(g:Nat->Nat) (u:LW),g 0=0->u.9=es.size->u.Perm (es.toList.map (·.2))->(∀(i:Nat) (A:j2) (s:jx) (E:ZB) (q:Option (Jw×Nat)->jx->Prop),i<=u.9->s.1.get? a=Jr (setO es ep t)->q ((u[i]?).map λx=>(x,g (i+1))) s->jy (js X l) A (Xr a (g i) i ep) q E s) ->
   j5 X l { sh with heap:=sh.1.push (OR (Kz 0) a es.size ep) } sh.1.1.size n es.toList:=λg u g0 S po nx=>by
  have N:=QO (o:=OR (Kz 0) a es.size ep) sh.1 rfl;have O:=QJ (OR (Kz 0) a es.size ep) B;refine#[[sh.1.1.size,a],λi v=>u[i]?=Jr v,λi h=>DM h sh.1.1.size a (Kz (g i)) i es.size ep/\h.get? a=Jr (setO es ep t),λA hd=>?_,#[#[_,N,rfl,by rw[g0];rfl],O],λb hb=>?_,λz=>?_,λw h=>?_];rw[QN,<- S];exact TX hd (M la) K S nx;rcases QK.mp hb with z|z
  ·rw[z];exact QR N
  rw[QI.mp z];exact QR O;rcases QK.mp z with z|z
  ·exact M H z
  exact na (QI.mp z);rw[N1 (by rw[QN,S]) h];exact po
 cases hb:l.params.followText "set-order" with
 |true =>
  have pp:(Gs (l.params.setOrder a ep) es).toList.Perm es.toList:=by have:=fW (l.params.setOrder a ep) es.size 0 es.toList #[] (QN ..);exact this
  refine Z (λ_=>0) ((Gs (l.params.setOrder a ep) es).toList.map (·.2)) rfl ?_ (pp.map _) λi A s E q G e J=>YW hb e K ?_;rw[QF,pp.length_eq,QN];rw[Qi,QY,Option.map_map]at J;exact J
 |false =>
  have sz:es.size<=1:=by rw[hb]at c;rcases pl with z|z;omega;rw[z]at c;simp at c;omega
  have C:t.place.size=es.size:=by unfold SetTable.fits at K;simp only[Qe,beq_iff_eq]at K;exact K.1
  refine Z (λi=>if i=0 then 0 else t.place.getD 0 0+1) (es.toList.map (·.2)) rfl (by rw[QF,QN]) (Wn _) λi A s E q G e J=>z0 hb e K sz (led hb) ?_;have q1:(match es[Qz t.place (if i=0 then 0 else t.place.getD 0 0+1)]?,t.place[Qz t.place (if i=0 then 0 else t.place.getD 0 0+1)]? with|some (_,x),Jr j=>Jr (x,j+1)|_,_=>Js)=((es.toList.map (·.2))[i]?).map λx=>(x,if i+1=0 then 0 else t.place.getD 0 0+1):=by
   rw[QF,QN]at G;rw[Qi,QY];generalize t.place=P at C ⊢;let#[P]:=P;let#[I]:=es;have C:P.9=I.length:=C;have sz:I.9<=1:=sz;have G:i<=I.length:=G;have cs:(I=[]/\P=[])∨∃h x p,I=[(h,x)]/\P=[p]:=by
    cases I with|nil=>exact .inl #[rfl,qw.mp C]|cons y r=>rw[QL]at sz C;obtain rfl:r=[]:=qw.mp ();let#[p,hp]:=QCD.mp C;exact .inr #[y.1,y.2,p,rfl,hp]
   rcases cs with⟨rfl,rfl⟩| ⟨h,x,p,rfl,rfl⟩
   obtain rfl:i=0:=Nat.le_zero.mp G;rfl;rcases Nat.le_one_iff_eq_zero_or_eq_one.mp G with rfl|rfl
   ·rfl
   have:Qz (Wb [p]) (p+1)=1:=by unfold Qz;show WX (Wb [p]) (p+1) 1 0 1=1;unfold WX;rw[hQ (by decide)];show(if p<p+1 then _ else _)=1;rw[hQ (QAH p)];rfl
   show(match ((Wb [(h,x)]):Array (Int×Jw))[Qz (Wb [p]) (p+1)]?,((Wb [p]):Array Nat)[Qz (Wb [p]) (p+1)]? with|some (_,x),Jr j=>Jr (x,j+1)|_,_=>Js)=Js;rw[this];rfl
  rw[<- q1]at J;exact J
end
end
section
noncomputable abbrev nL:Obj:={ cls:=.type "list",data:=.seq #[] }
variable{f:jt}{d:jw}{u:j2}{Er:ZB}{sh:jx}{a:jv}
theorem ET:∀{vs:LW},(∀v∈vs,∃t,v=.str (dU v) t)->gA vs (vs.map dU)
 |[],_=>.nil|v::vs,h=>by let#[t,e]:=h v QD;have r:=ET (vs:=vs) λw x=>h w (QC _ x);have:=StrsAre.cons (dU v) t r;rw[<- e]at this;exact this
theorem LQ{p:LS}{Q:LW->jx->Prop}(hd:u.handled=Js)(S:TH f d sh.1 a (!d.params.followText "set-order") p)(bd:p.9<=4000)
  (k:∀s' vs K,gA vs K->K.Perm p->(∀b o,sh.1.get? b=Jr o->s'.1.get? b=Jr o)->s'.gens=sh.gens->s'.os=sh.os->sh.1.1.size<s'.1.1.size->Q vs s'):jy (js f d) u (yt (.ref a)) Q Er sh:=by
 let#[q,ep,t,O,el,M,nd,hf,hb,hp]:=S;have sz:q.size=p.length:=by rw[<- M,QF,QN]
 have hs:jz=16777216:=qU;have I:=QR O;generalize hn:sh.1.1.size=n at I;have E:n≠a:=wa I;unfold yt;refine QA (QBa (qf QCS ?_));rw[qQ QCT _];refine QA (m:=gx []) (Qx ?_);rw[hn];refine QH #[WH QAk _,qf QDQ ?_];rw[qQ QAk _];show jy _ u.in1 (wz (.ref n) (.ref a) (.ref n)) _ _ _;have L:(sh.1.push nL).get? n=Jr nL:=hn▸QO _ rfl;have Z:(sh.1.push nL).get? a=Jr (setO q ep t):=QJ _ O;have ns:QBo (.ref n) (.ref a)=false:=beq_eq_false_iff_ne.mpr E;unfold wz QBH;refine QA (Wu (T:="set") #[_,Z,rfl] ?_);rw[hI (by simp only[ns];decide)];refine QA (E1 (sh:={ sh with heap:=sh.1.push nL }) (n:=n) Z hf () (λh=>by rw[hb,h];rfl) hp E (QR L) λi j Y g1 g2 g3 nj gv=>?_);have ty:i.TypeIs (.ref a) "set":=#[_,Y a _ Z,rfl]
 refine QA (qG (QA (QBF ty F.slot_set_len.lookup ?_)));generalize hx:("set.__len__":String)=x
 wp_delta
 rw[show splitId x=Jr ("set","__len__") by rw[<- hx];decide +kernel];subst hx;refine QA (Wi (b:=Jt) ty (by rw[QBb];kernel_rfl) ?_);show jy _ _ (gJ (.ref a) >>= _) _ _ _;refine QA (Wu ty (QH ?_));rw[hQ (by decide)];have A:=Y n _ L;refine QA (QBB (QA ?_));show jy _ u.in1 (yx n (·.push .none) >>= λ_=>yx n (·.pop)) _ _ _;refine QA (QBI A rfl ?_);have g:=Q3 (qR (·.push Jz)) A rfl;refine QBI (hz:=by seq_fits) g rfl ?_;have s:=Q3 (qR (·.pop)) g rfl;have l:∀b o,b≠n->i.1.get? b=Jr o->((i.1.update n (qR (·.push Jz))).update n (qR (·.pop))).get? b=Jr o:=λb o z e=>by rw[qB _ _ (qC z),qB _ _ (qC z)];exact e
 let#[fp,P,St,W,r,lt,C,fin]:=gv;have R:=(W u.in1 hd).toS;have lz:q.toList.9=q.size:=QN ..;refine QH #[WH QCt _,QCc R () _ C _ _ 0 _ _ _ rfl (Q5 _) (R.frame 0 i _ i.toks r (QX _) λb hb o e=>l b o (λz=>C (z▸hb)) e) s (ItemsOf.nil P) λs' w c X J it=>?_];refine QA (m:=load n) (QD7 J (QH ?_));have B:=fin w it;have q1:=X.gens;have H:=X.os;refine k s' w.toList (w.toList.map dU) (ET λv hv=>?_) ?_ (λb o e=>?_) (q1.trans g1) (H.trans g2) (hn▸QR J);let#[e,he,rfl]:=QV.mp (B.mem_iff.mp hv);exact K3 el he;have:=B.map dU;rw[Qh]at this;rw[<- M];exact this;have N:(sh.1.push nL).get? b=Jr o:=QJ _ e;have G:b<n:=hn▸QR e;exact X.1 b o (λm=>(QK.mp m).elim (Qc G) λy=>nj b o N (QI.mp y)) (l b o (Qc G) (Y b o N))
end
variable{Pv:Jw->Prop}
section
variable{f:jt}{d:jw}{u:j2}{Er:ZB}{sh:jx}{a:jv}
theorem mO{es:Array (Int×Jw)}{ep:Nat}{t:j1}{Q:LW->jx->Prop}(H:u.handled=Js)(G:sh.1.get? a=Jr (setO es ep t))(S:t.fits es.size=Jt)(hb:t.led=!d.params.followText "set-order")(R:es.size=0∨t.plain=Ju)(sz:es.size<=4000)
  (k:∀s' vs,vs.Perm (es.toList.map (·.2))->(∀b o,sh.1.get? b=Jr o->s'.1.get? b=Jr o)->s'.gens=sh.gens->s'.os=sh.os->sh.1.1.size<s'.1.1.size->Q vs s'):jy (js f d) u (yt (.ref a)) Q Er sh:=by
 have hs:jz=16777216:=qU;have A:=QR G;generalize hn:sh.1.1.size=n at A;have Z:n≠a:=wa A;unfold yt;refine QA (QBa (qf QCS ?_));rw[qQ QCT _];refine QA (m:=gx []) (Qx ?_);rw[hn];refine QH #[WH QAk _,qf QDQ ?_];rw[qQ QAk _];show jy _ u.in1 (wz (.ref n) (.ref a) (.ref n)) _ _ _;have C:(sh.1.push nL).get? n=Jr nL:=hn▸QO _ rfl;have s:(sh.1.push nL).get? a=Jr (setO es ep t):=QJ _ G;have N:QBo (.ref n) (.ref a)=false:=beq_eq_false_iff_ne.mpr Z;unfold wz QBH;refine QA (Wu (T:="set") #[_,s,rfl] ?_);rw[hI (by simp only[N];decide)];refine QA (E1 (sh:={ sh with heap:=sh.1.push nL }) (n:=n) s S () (λh=>by rw[hb,h];rfl) R Z (QR C) λw j r g1 g2 g3 O gv=>?_);have ty:w.TypeIs (.ref a) "set":=#[_,r a _ s,rfl]
 refine QA (qG (QA (QBF ty F.slot_set_len.lookup ?_)));generalize hx:("set.__len__":String)=x
 wp_delta
 rw[show splitId x=Jr ("set","__len__") by rw[<- hx];decide +kernel];subst hx;refine QA (Wi (b:=Jt) ty (by rw[QBb];kernel_rfl) ?_);show jy _ _ (gJ (.ref a) >>= _) _ _ _;refine QA (Wu ty (QH ?_));rw[hQ (by decide)];have X:=r n _ C;refine QA (QBB (QA ?_));show jy _ u.in1 (yx n (·.push .none) >>= λ_=>yx n (·.pop)) _ _ _;refine QA (QBI X rfl ?_);have v:=Q3 (qR (·.push Jz)) X rfl;refine QBI (hz:=by seq_fits) v rfl ?_;have p:=Q3 (qR (·.pop)) v rfl;have g:∀b o,b≠n->w.1.get? b=Jr o->((w.1.update n (qR (·.push Jz))).update n (qR (·.pop))).get? b=Jr o:=λb o z e=>by rw[qB _ _ (qC z),qB _ _ (qC z)];exact e
 let#[fp,P,St,W,l,lt,Y,fin]:=gv;have I:=(W u.in1 H).toS;have lz:es.toList.9=es.size:=QN ..;refine QH #[WH QCt _,QCc I () _ Y _ _ 0 _ _ _ rfl (Q5 _) (I.frame 0 w _ w.toks l (QX _) λb hb o e=>g b o (λz=>Y (z▸hb)) e) p (ItemsOf.nil P) λs' i c q B it=>?_];refine QA (m:=load n) (QD7 B (QH ?_));have M:=fin i it;have L:=q.gens;have J:=q.os;refine k s' i.toList M (λb o e=>?_) (L.trans g1) (J.trans g2) (hn▸QR B);have E:(sh.1.push nL).get? b=Jr o:=QJ _ e;have K:b<n:=hn▸QR e;exact q.1 b o (λm=>(QK.mp m).elim (Qc K) λy=>O b o E (QI.mp y)) (g b o (Qc K) (r b o E))
theorem jZ{h:j0}{w:jw}:∀{l:List (Int×Jw)}{ks:List NK},Kv (Ek Pv w h) l ks->Kv (λv k=>jH h k v) (l.map (·.2)) ks
 |_,_,.nil=>.nil|_,_,.cons r t=>.cons r.1 (jZ t)
theorem V9{h:j0}{w:jw}:∀{l:List (Int×Jw)}{ks:List NK},Kv (Ek Pv w h) l ks->∀v∈l.map (·.2),Pv v
 |_,_,.nil,_,m=>nomatch m
 |_,_,.cons r t,v,m=>(QK.mp m).elim (λe=>e▸r.2.2.2.2) (V9 t v)
theorem tS{h:j0}:∀{vs:LW}{ks:List NK},Kv (λv k=>jH h k v) vs ks->NKvs h ks vs
 |_,_,.nil=>rfl|_,_,.cons r t=>#[_,_,rfl,r,tS t]
theorem MQ{ks:List NK}{Q:LW->jx->Prop}(i:u.handled=Js)(S:tR Pv d sh.1 a (!d.params.followText "set-order") ks)(Z:ks.9<=4000)
  (k:∀s' vs h,NKvs s'.1 h vs->(∀v∈vs,Pv v)->h.Perm ks->h.Nodup->(∀b o,sh.1.get? b=Jr o->s'.1.get? b=Jr o)->s'.gens=sh.gens->s'.os=sh.os->sh.1.1.size<s'.1.1.size->Q vs s'):jy (js f d) u (yt (.ref a)) Q Er sh:=by
 let#[q,Y,t,s,x,_,g,w,_,_,nd]:=S;have X:q.size=ks.length:=by rw[<- QN];exact x.e.9
 refine mO i s (dJ x.t) g w () λs' vs p z n m l=>?_;let#[h,y,j]:=mJ p (jZ x.e);exact k s' vs h (nks_keeps (λ_ _ #[o,e,r]=>#[o,z _ _ e,r]) (tS j)) (λv hv=>V9 x.e v (p.mem_iff.mp hv)) y (y.nodup_iff.mpr nd) z n m l
end
end L2.L3
namespace L2.L3
open PySem PySem.Spec PyProof.Rows
section
variable{x:jt}{h:jw}{y:j2}{Er:ZB}{sh:jx}{a:jv}
theorem MR{u:LS}{Q:ZB}(W:y.handled=Js)(S:TH x h sh.1 a (!h.params.followText "set-order") u)(K:u.9<64)
  (k:∀s' l out v e,gA out v->v.Perm u->gu v=Jt->s'.1.get? l=Jr (gt "list" out.toArray e)->sh.1.1.size<=l->(∀b o,sh.1.get? b=Jr o->s'.1.get? b=Jr o)->s'.gens=sh.gens->s'.os=sh.os->Q (.ref l) s') :
  jy (js x h) y (Xw (.builtin "sorted") [.ref a]) Q Er sh:=by
 refine QAF QD0 QDX QDY (QDZ _) ?_;unfold Builtin.«sorted»;refine QA (m:=Zs "sorted" 1 1 _) (QH (QA (LQ W S () λi f v w r X G F ls=>?_)));have I:f.9=u.length:=(IM w).1.trans r.length_eq;refine QA (QBw ?_ ());have j:(i.1.push (gt "list" f.toArray 0)).get? i.1.1.size=Jr (gt "list" f.toArray 0):=QO _ rfl;refine QA (qG (Q6 QCk #[_,j,rfl] QCL ?body (QCl _)));refine list_sort_treeK strKind_oneLt j w.keysOf (λp n q e=>keyKind_strs (by rw[<- e];exact w)) () λz Z hs=>?_;let#[g,C,B,A]:=sorted_out_str w Z hs;let#[e,E]:=hZ (out:=(arrOf z).map (·.2)) j;refine#[_,rfl,QH #[_,rfl,k _ i.1.1.size ((arrOf z).map (·.2)).toList g e C (B.trans r) A (by rw[Array.toArray_toList];exact E) (QAo ls) (λb o Y=>?_) G F]];have s:=QR (X b o Y);rw[Ht (Qc s) (by rw[QEC];exact qh s)];exact QJ _ (X b o Y)
end
def NY(K:QE)(x:V)(H:Hp)(Q:VK):Prop:=∃p,∃y:LS,x=.ref p/\gC K H p (y.map V.str)/\y.9<4000/\∀h:LS,h.Nodup->(∀s,s∈h↔s∈y)->Q (.int h.9) H
def Ph(K:QE)(x:V)(H:Hp)(Q:VK):Prop:=∃p,∃y:LS,x=.ref p/\gC K H p (y.map V.str)/\y.9<64/\∀(l:jv) (h:LS),H l=Js->h.Nodup->(∀s,s∈h↔s∈y)->gu h=Jt->Q (.ref l) (XA H l (.lst (h.map V.str)))
theorem _root_.L2.Inv.anyd{X:Cx}{h:MB}{σ:St}{H:Hp}{s:jx}{d':Drawn}(I:Inv X h σ H s):Inv X h σ H { s with drawn:=d' }:=#[I.ok,I.os,I.bare,I.base,I.loc,I.cell,I.free,I.freeC,I.pin,I.hok,I.len]
theorem IT:∀{x:LS}{its:LW},bA (x.map V.str) its->gA its x
 |[],[],_=>.nil|y::x,u::its,h=>by
  rw[QU]at h;cases h with|cons h t=>let#[k,rfl]:=h;exact .cons _ _ (IT t)
 |_::_,[],h=>by cases h|[],_::_,h=>by cases h
theorem uh{ss:LS}{its:LW}(h:gA its ss):bA (ss.map V.str) its:=by
 induction h with|nil=>exact .nil|cons y t _ x=>exact .cons #[t,rfl] x
section
variable{X:Cx}{a:Expr}{ta:TE}{p2 y:Pos}
theorem Hc{v:MB}{s:jx}{σ:St}{H:Hp}{o:LW->jx->Prop}{R:V->Hp->Prop}(hc:X.calm=Jt)(F:Gl X "set")(B:X.mg "set"=Js)(ha:PE X a ta)(st:Ky [a] X.env=(Ju,kb a X.env)::Ky [] X.env)(I:Inv X v σ H s)(h:ta σ H R)
  (k:∀x b f,R x b->Inv X v σ b f->∃p,∃ss:LS,x=.ref p/\gC X.K b p (ss.map V.str)/\ss.9<4000/\∀i e,Inv X v σ b i->TH X.prog X.w i.1 f.1.1.size (!X.w.params.followText "set-order") e->(∀z,z∈e↔z∈ss)->e.9<=ss.9->o [.ref f.1.1.size] i) (pos:Pos) :
  jy (js X.prog X.w) X.A (xz (vv pos (Ky [.Call (.Name "set" p2) [a] [] y] X.env))) o X.xe s:=by
 show jy _ _ (xz ((Ju,kb (.Call (.Name "set" p2) [a] [] y) X.env)::[])) _ _ s;refine Wq (wI (VE I F B QCU (wJ ?_ st rfl)));rw[st];show jy _ _ (xz ((Ju,kb a X.env)::[])) _ _ s;refine Wq (LB (ha v s σ H _ I h) λu f #[x,b,g,Z,r]=>WQ ?_);let#[p,ss,rfl,E,lt,q]:=k x b f r g;cases Z;let#[j,n,W,G]:=g.list E;have hl:ss.9=j.length:=by rw[<- n.9,QF]
 refine tG (g.ok.hd hc) W.isList (by simpa using IT n) (by rw[QT];omega) λJ Y e S m l C=>WQ (q _ e (g.kept (t':=Y) C) S m (by rw[QT]at l;omega))
theorem B6{k pos:Pos}(hc:X.calm=Jt)(n:Gl X "len")(j:Gl X "set")(f:X.mg "len"=Js)(b:X.mg "set"=Js)(ha:PE X a ta)(st:Ky [a] X.env=(Ju,kb a X.env)::Ky [] X.env) :
  PE X (.Call (.Name "len" k) [.Call (.Name "set" p2) [a] [] y] [] pos) λσ H Q=>ta σ H λx u=>NY X.K x u Q:=by
 intro v s σ H Q I h;refine wI (VE I n f PySem.boot_len (Wa (Hc hc j b ha st I h (λx u A #[p,w,e,g,lt,q] F=>#[p,w,e,g,lt,λW z Z S m l=>?_]) pos) rfl rfl));let#[r,C,t,Y,E,o,nd,i,hb,B]:=S;have sz:r.size=z.length:=by rw[<- o,QF,QN]
 refine call_len_set Y #[rfl,rfl,rfl] rfl i () #[.int z.9,u,Z.tok _,#[_,by rw[sz]],q z nd m]
end
open PySem.W PySem.SeqAt
def kS(r:LS):NK:=.t (r.map NK.s)
def uS:NK->Str
 | .s x=>x|_=>#[#[]]
def uK:NK->LS
 | .t h=>h.map uS|_=>[]
theorem kH(r:LS):uK (kS r)=r:=by show(r.map NK.s).map uS=r;rw[Qh];exact(qV λ_ _=>rfl).trans (QAK _)
theorem EZ:∀l:LS,nkds (l.map NK.s)=0
 |[]=>rfl|x::l=>by show max 0 (nkds (l.map NK.s))=0;rw[EZ l];rfl
theorem EM{h:j0}:∀{ss:LS}{vs:LW},NKvs h (ss.map NK.s) vs->gA vs ss
 |[],vs,e=>by cases(show vs=[] from e);exact .nil|x::ss,vs,#[v,r,e,#[t,p],q]=>by subst e p;exact .cons _ _ (EM q)
theorem U7{h:j0}{vs:LW}{ss:LS}(st:gA vs ss):NKvs h (ss.map NK.s) vs:=by
 induction st with|nil=>exact rfl|cons x t _ y=>exact#[_,_,rfl,#[t,rfl],y]
theorem Z9{h:j0}:∀{ks:List NK}{vs:LW},NKvs h ks vs->Kv (λv k=>jH h k v) vs ks
 |[],vs,e=>by cases(show vs=[] from e);exact .nil|_::_,_,#[_,_,e,p,q]=>by subst e;exact .cons p (Z9 q)
section
variable{prog:jt}{w:jw}{A:j2}{E:ZB}{s:jx}
theorem XY{Q:Bool->jx->Prop}{fin:Bool}(q:∀b,Q b s):∀{vs us:LW}{a b:LS}{i:Nat},gA vs a->gA us b->KatLex prog w A Jt fin Q (vs.zip us) i s
 |_,_,_,_,_,.nil,_=>kat_nil (q _)|_,_,_,_,_,.cons _ _ _,.nil=>kat_nil (q _)|_,_,_,_,i,.cons x t r1,.cons y u r2=>by
  refine kat_cons (EqAt.str_str x t y u prog w _ _ ?_);cases(x==y) with
  |true=>exact kat_yes (XY q r1 r2)|false =>
   refine kat_no ?_;cases(Jt&&i==0) with
   |false=>exact kat_one _ _ (PySem.P.lt_str (q _))|true=>exact oneLt_str (q _)
theorem Nh{v u:Jw}{a b:LS}{Q:Bool->jx->Prop}(hv:jH s.1 (kS a) v)(y:jH s.1 (kS b) u)(q:∀b,Q b s):jy (js prog w) A (keyLt' (tuples' Jt) v u) Q E s:=by let#[p,x,rfl,#[o,e,c,n,d],k]:=hv;let#[i,h,rfl,#[j,f,m,l,g],z]:=y;exact kat_lt e d f g (XY q (EM k) (EM z))
theorem fU{h:j0}:∀{u:List (LS)}{vs:LW},NKvs h (u.map kS) vs->(∀r∈u,r≠[])->∃fs,KatTups h vs fs/\fs.9=vs.9/\∀f∈fs,∃x t,f=.str x t
 |[],vs,e,_=>by cases(show vs=[] from e);exact#[[],.nil,rfl,λ_ z=>(nomatch z)]
 |r::u,_,#[v,l,e,#[a,its,e2,#[o,g,c,n,d],p],q],hn=>by
  subst e e2;let#[fs,i,b,k]:=fU q λr m=>hn r (QC _ m);cases r with|nil=>exact h7 rfl (hn [] QD)|cons x r=>let#[f,Z,Y,#[t,X],_]:=p;subst X;refine#[.str x t::fs,.cons g c d (by rw[<- QY,Y];rfl) i,Fz (·+1) b,λy j=>?_];rcases QK.mp j with rfl|z;exact#[x,t,rfl];exact k y z
theorem u6{vs:LW}{h:List (LS)}{Q:Hy->jx->Prop}(u:NKvs s.1 (h.map kS) vs)(k:∀r∈h,r≠[])(b:2<=vs.9)(q:Q (tuples' Jt) s):jy (js prog w) A (Hs vs.toArray) Q E s:=by let#[fs,z,a,y]:=fU u k;exact kat_kind (T:=.type "str") z () (λv hv=>by let#[x,t,rfl]:=y v hv;exact .of_pure rfl) (by decide) q
end
section
variable{Pv:Jw->Prop}{u:jt}{x:jw}{z:j2}{Er:ZB}{sh:jx}{a:jv}
theorem lP{W:List (LS)}{Q:ZB}(hd:z.handled=Js)(S:tR Pv x sh.1 a (!x.params.followText "set-order") (W.map kS))(h64:W.9<64)(hn:∀r∈W,r≠[])
  (k:∀s' l out (Z:List (LS)) e,NKvs s'.1 (Z.map kS) out->(∀v∈out,Pv v)->Z.Perm W->Z.Nodup->s'.1.get? l=Jr (gt "list" out.toArray e)->sh.1.1.size<=l->(∀b o,sh.1.get? b=Jr o->s'.1.get? b=Jr o)->s'.gens=sh.gens->s'.os=sh.os->Q (.ref l) s') :
  jy (js u x) z (Xw (.builtin "sorted") [.ref a]) Q Er sh:=by
 refine QAF QD0 QDX QDY (QDZ _) ?_;unfold Builtin.«sorted»;refine QA (m:=Zs "sorted" 1 1 _) (QH (QA (MQ hd S (by rw[QF];omega) λw f X B pv H nd kp g1 g2 ls=>?_)));have e0:(X.map uK).map kS=X:=by rw[Qh];refine(qV λy M=>?_).trans (QAK _);let#[r,_,rfl]:=QV.mp (H.mem_iff.mp M);show kS (uK (kS r))=kS r;rw[kH]
 have E:(X.map uK).Perm W:=by have:=H.map uK;rw[Qh]at this;exact this.trans (by rw[show W.map (uK∘kS)=W from(qV λr _=>kH r).trans (QAK _)])
 generalize X.map uK=Z at e0 E;subst e0;have nd:Z.Nodup:=QA1 kS (λa b h e=>h (Fz kS e)) nd;have lv:f.9=W.length:=by rw[YH B,QF,E.length_eq]
 refine QA (QBw ?_ ());have P:(w.1.push (gt "list" f.toArray 0)).get? w.1.1.size=Jr (gt "list" f.toArray 0):=QO _ rfl;refine QA (qG (Q6 QCk #[_,P,rfl] QCL ?body (QCl _)));have J:∀g:j0,(∀b o,b≠w.1.1.size->(w.1.push (gt "list" f.toArray 0)).get? b=Jr o->g.get? b=Jr o)->∀b Y,w.1.IsTuple b Y->g.IsTuple b Y:=λg K b Y #[o,e,r]=>#[o,K b o (Qc (QR e)) (QJ _ e),r]
 have gm:∀i,i<f.9->∃r,jH w.1 (kS r) (f.getD i Jz):=λi O=>by let#[k,hk,hv]:=aS B i (f.getD i Jz) (by simp[O]);let#[r,_,rfl]:=QV.mp (Qq hk);exact#[r,hv]
 refine u1 (s:={ w with heap:=w.1.push (gt "list" f.toArray 0) }) (κ:=tuples' Jt) (R:=λ_=>True) P () (λG g K Q q=>u6 (s:={ w with heap:=g }) (nks_keeps (J g K) B) (λr hr=>hn r (E.mem_iff.mp hr)) G q) (λG g K=>?_) (λ_=>trivial) λp N _=>?_;refine MC.wp (λi j O hj C hC=>?_) (λp N=>#[rfl,N,trivial]) (kR (n:=f.9) ());let#[r1,q1]:=gm i O;let#[r2,q2]:=gm j hj;exact Nh (s:={ w with heap:=g }) (kE (J g K) q1) (kE (J g K) q2) hC;have L:=JU N;generalize (p.toList.map λi=>f.getD i Jz)=out at L;let#[e,ge]:=hZ (out:=out.toArray) P;let#[F,p2,G]:=mJ L (Z9 B);have A:∀b o,w.1.get? b=Jr o->(sortedHeap (w.1.push (gt "list" f.toArray 0)) w.1.1.size f out.toArray).get? b=Jr o:=λb o I=>by have lb:=QR I;rw[Ht (Qc lb) (by rw[QEC];exact qh lb)];exact QJ _ I
 have e1:(F.map uK).map kS=F:=by rw[Qh];refine(qV λy M=>?_).trans (QAK _);let#[r,_,rfl]:=QV.mp (p2.mem_iff.mp M);show kS (uK (kS r))=kS r;rw[kH]
 have p3:(F.map uK).Perm Z:=by have:=p2.map uK;rw[Qh]at this;exact this.trans (by rw[show Z.map (uK∘kS)=Z from(qV λr _=>kH r).trans (QAK _)])
 refine#[_,rfl,QH #[_,rfl,k _ w.1.1.size out (F.map uK) e ?_ (λv hv=>pv v (L.mem_iff.mp hv)) (p3.trans E) (p3.nodup_iff.mpr nd) ge (QAo ls) (λb o I=>A b o (kp b o I)) g1 g2]];rw[e1];exact nks_keeps (λb Y #[o,e,r]=>#[o,A b o e,r]) (tS G)
end
def yr(K:QE)(H:Hp)(x:V)(r:LS):Prop:=∃b,x=.ref b/\TC K H b (r.map V.str)
def Rh(K:QE)(x:V)(H:Hp)(Q:VK):Prop:=∃(R:V->LS->Prop) (p:jv) (v:LV) (y:List (LS)),(x=.ref p/\gC K H p v/\Kv R v y/\∀x r,R x r->yr K H x r)/\y.9<306/\(∀r∈y,r≠[]) /\
 ∀h:List (LS),h.Nodup->(∀z,z∈h↔z∈y)->h.9<64/\∀l u,H l=Js->Kv R u h->Q (.ref l) (XA H l (.lst u))
def IR(K:QE)(x:V)(H:Hp)(Q:VK):Prop:=Ph K x H Q∨Rh K x H Q
theorem LU{h:j0}{R:V->LS->Prop}:∀{xs:LV}{y:List (LS)}{its:LW},Kv R xs y->bA xs its->(∀x r u,R x r->nA x u->jH h (kS r) u)->NKvs h (y.map kS) its/\∀v∈its,∃x r,R x r/\nA x v
 |_,_,_,.nil,.nil,_=>#[rfl,λ_ z=>nomatch z]
 |_,_,_,.cons a t,.cons b u,k=>by let#[e,w]:=LU t u k;refine#[#[_,_,rfl,k _ _ _ a b,e],λv hv=>?_];rcases QK.mp hv with rfl|z;exact#[_,_,a,b];exact w v z
theorem SL{h:j0}{R:V->LS->Prop}{its:LW}(k:∀v∈its,∃x r,R x r/\nA x v/\jH h (kS r) v):∀{u:List (LS)}{out:LW},NKvs h (u.map kS) out->(∀v∈out,v∈its)->∃z,Kv R z u/\bA z out
 |[],out,e,_=>by cases(show out=[] from e);exact#[[],.nil,.nil]|y::u,_,#[v,l,e,p,q],m=>by subst e;let#[z,a,b]:=SL k q λv hv=>m v (QC _ hv);let#[x,r,c,d,f]:=k v (m v QD);have e:=Fz uK (FN f p);rw[kH,kH]at e;exact#[x::z,.cons (e▸c) a,.cons d b]
section
variable{X:Cx}{a:Expr}{ta:TE}{p2 d:Pos}
theorem vZ{p1 pos:Pos}(hu:X.A.units+66<kx)(hc:X.calm=Jt)(g1:Gl X "sorted")(g2:Gl X "set")(m1:X.mg "sorted"=Js)(m2:X.mg "set"=Js)(ha:PE X a ta)(st:Ky [a] X.env=(Ju,kb a X.env)::Ky [] X.env) :
  PE X (.Call (.Name "sorted" p1) [.Call (.Name "set" p2) [a] [] d] [] pos) λσ H Q=>ta σ H λx W=>IR X.K x W Q:=by
 intro g s σ H Q I h;refine wI (VE I g1 m1 QBp (Wa ?_ rfl rfl));show jy _ _ (xz ((Ju,kb (.Call (.Name "set" p2) [a] [] d) X.env)::[])) _ _ s;refine Wq (wI (VE I g2 m2 QCU (wJ ?_ st rfl)));rw[st];show jy _ _ (xz ((Ju,kb a X.env)::[])) _ _ s;refine Wq (LB (ha g s σ H _ I h) λu L #[x,W,n,rx,r]=>WQ ?_);rcases r with⟨p,ss,rfl,hq,lt,q⟩| ⟨R,p,xs,rs,⟨rfl,hq,pr,hR⟩,lt,hn,q⟩
 cases rx;let#[f,C,pl,hz']:=n.list hq;have hl:ss.9=f.length:=by rw[<- C.9,QF]
 refine tG (n.ok.hd hc) pl.isList (by simpa using IT C) (by rw[QT];omega) λh' i J S m l Z=>WQ ?_;have j:Inv X g σ W { L with heap:=h',toks:=i }:=n.kept (t':=i) Z;have nd:=S;let#[_,_,_,_,_,_,nd,_]:=nd;rw[QT]at l;refine MR (j.ok.hd hc) S () λs' l out B e sv Y so ge le Z g1 g2=>?_;let#[h',gs,dr,i,oo]:=s';cases g1;cases g2;have lo:=(IM sv).1;have lp:=Y.length_eq;exact#[.ref l,XA W l (.lst (B.map V.str)),(j.laid (t':=i) (h':=h') Z le (show VA X.prog X.w _ h' _ (.lst (B.map V.str)) from#[by rw[QF];omega,out,e,uh sv,ge])).anyd,rfl,q l B (j.hok.fresh le) (Y.nodup_iff.mpr nd) (λz=>(Y.mem_iff).trans (m z)) so];cases rx;let#[f,C,pl,hz']:=n.list hq;have hl:rs.9=f.length:=by rw[<- C.9,pr.length]
 have F:∀x r u,R x r->nA x u->jH L.1 (kS r) u:=λx r u a b=>by let#[c,rfl,sq]:=hR x r a;cases b;let#[G,rv2,it,_]:=n.tuple sq;exact#[c,G.toArray,rfl,it,by simpa using U7 (IT rv2)]
 let#[nk,mem]:=LU pr C F;refine sO (Pv:=λv=>v∈f) (ss:=rs.map kS) (n.ok.hd hc) pl.isList (by simpa using nk) (λk hk=>?_) () (by rw[QT];omega) (λv hv=>by simpa using hv) λh' i J S m l Z=>WQ ?_;let#[r,hr,rfl]:=QV.mp hk;refine#[by show nkds (r.map NK.s)+1<=6;rw[EZ];omega,?_];cases r with|nil=>exact h7 rfl (hn [] hr)|cons x r=>exact#[x,r.map NK.s,rfl]
 have j:Inv X g σ W { L with heap:=h',toks:=i }:=n.kept (t':=i) Z;have e0:(J.map uK).map kS=J:=by rw[Qh];refine(qV λy hy=>?_).trans (QAK _);let#[r,_,rfl]:=QV.mp ((m y).mp hy);show kS (uK (kS r))=kS r;rw[kH]
 generalize J.map uK=ws at e0;subst e0;have nd:=S;let#[_,_,_,_,_,_,_,_,_,_,nd]:=nd;have nd:ws.Nodup:=QA1 kS (λa b h e=>h (Fz kS e)) nd;have M:∀z,z∈ws↔z∈rs:=λz=>by
  have:=m (kS z);have ij:∀{l:List (LS)},kS z∈l.map kS↔z∈l:=λ{l}=>#[λh=>by let#[y,hy,e]:=QV.mp h;have e:=Fz uK e;rw[kH,kH]at e;exact e▸hy,λh=>w8 h]
  rwa [ij,ij]at this
 refine lP (j.ok.hd hc) S (q ws nd M).1 (λr hr=>hn r ((M r).mp hr)) λs' l out B e nv pv Y nd2 ge le E gg1 gg2=>?_;let#[N,gs,dr,P,oo]:=s';cases gg1;cases gg2;have kt:∀b f,L.1.IsTuple b f->N.IsTuple b f:=λb f #[o,e,r]=>#[o,E b o (Z b o e),r]
 let#[O,py,vy]:=SL (h:=N) (λv hv=>by let#[x,r,a,b]:=mem v hv;exact#[x,r,a,b,kE kt (F x r v a b)]) nv pv;have l1:=(q ws nd M).1;have l2:=Y.length_eq;have l3:=py.9;exact#[.ref l,XA W l (.lst O),(j.laid (t':=P) (h':=N) E le (show VA X.prog X.w _ N _ (.lst O) from#[(),out,e,vy,ge])).anyd,rfl,(q B nd2 λz=>Y.mem_iff.trans (M z)).2 l O (j.hok.fresh le) py]
end
inductive Bi where
 |len|any|all|list|sorted|tuple|max
 deriving DecidableEq
inductive Mt where
 |append|pop|join|setd|reverse
 deriving DecidableEq
inductive ItK where
 |val|rng1|enum|itm
 deriving DecidableEq
inductive Tg where
 |nm (i:Nat)|tp (is:LN)
 deriving DecidableEq
set_option genSizeOf false in
set_option genInjectivity false in
inductive PX where
 |xt (i:Nat)|int (i:Int)|str (x:Str)|bl (b:Bool)|non
 |glo (x:Str)|bty (x:Str) (n:String)
 |bin (op:Vy) (a b:PX)
 |cmp (op:vt) (a b:PX)|neg (a:PX)
 |and (a b:PX)|or (a b:PX)|not (a:PX)
 |call (f:Str) (as:PX)
 |bi (f:Bi) (as:PX)|isi (a c:PX)
 |mt (m:Mt) (o as:PX)
 |idx (a b:PX)|slc (a lo hi:PX)|nop
 |lst (as:PX)|tup (as:PX)|dnew (b:Bool)|dsp (a b:PX)|lset (a:PX)|sset (a:PX)
 |comp (mask:List Bool) (tgs:LS) (tg:Tg) (ik:ItK) (its cond elt:PX)
 |ny|nr (a as:PX)
structure Ev where
 sp:Str->Sp
 va:Str->V
structure W3 where
 e:TE
 t:TT
 a:TA
def never:W3:=#[λ_ _ _=>False,λ_ _ _=>False,λ_ _ _=>False]
def kF(K:QE)(x:V)(H:Hp)(Q:Bool->Hp->Prop):Prop:=match x with
 | .bl b=>Q b H|.int i=>Q (i != 0) H|.non=>Q Ju H|.str z=>z.9<=jz/\Q ((z.9:Int) != 0) H|x=>∃k,lg K x H k/\Q k H
def B4(x:V)(H:Hp)(Q:Bool->Hp->Prop):Prop:=match x with
 | .bl b=>Q b H|_=>False
def E8(K:QE):Vy->R2
 | .Add=>ai K|.Sub=>Oh|.Mult=>Ih K|.FloorDiv=>i9|.Mod=>ji|_=>λ_ _ _ _=>False
noncomputable def b8:R2:=λx y H Q=>∃b c,x=.bl b/\y=.bl c/\Q (.bl (decide (b=c))) H
def T3(K:QE):vt->R2
 | .Eq=>rEq K Ju|.NotEq=>rEq K Jt|.Lt=>uW λi j=>decide (i<j)|.LtE=>uW λi j=>decide (i<=j)|.Gt=>uW λi j=>decide (j<i)|.GtE=>uW λi j=>decide (j<=i)|.In=>VP K Ju|.NotIn=>VP K Jt|.Is=>b8|_=>λ_ _ _ _=>False
def bW(K:QE):R2:=λx y H Q=>match x,y with
 | .str z,.int i=>z.9<=jz/\∃c,pE z.cps.toList i=Jr c/\Q (.str #[(Wb [c])]) H|.ref a,.int i=>∃h v,(gC K H a h∨TC K H a h)/\pE h i=Jr v/\Q v H|.ref a,.str z=>∃v,NO K H a (.str z) (Jr v)/\Q v H|.ref a,.ref b=>∃v,NO K H a (.ref b) (Jr v)/\Q v H|_,_=>False
def f6(K:QE):LV->Hp->VK->Prop:=λx H Q=>∃p h,x=[.ref p]/\(gC K H p h∨TC K H p h)/\∀l,H l=Js->Q (.ref l) (XA H l (.lst h))
def oU(K:QE):LV->Hp->VK->Prop:=λv H Q=>∃p,v=[.ref p]/\((∃y:LS,gC K H p (y.map V.str)/\y.9<64/\∀l h,H l=Js->h.Perm y->gu h=Jt->Q (.ref l) (XA H l (.lst (h.map V.str)))) ∨
   (∃z,gC K H p z/\z.9<64/\(∀x∈z,∃a,∃y:LS,x=.ref a/\gC K H a (y.map V.str))/\∀l u,H l=Js->u.Perm z->Q (.ref l) (XA H l (.lst u))))
def MY(K:QE):LV->Hp->VK->Prop:=λx H Q=>∃p h,x=[.ref p]/\gC K H p h/\∀l,H l=Js->Q (.ref l) (XA H l (.tup h))
def ck(K:QE):Bi->LV->Hp->VK->Prop
 | .len=>yi K|.any=>xi K|.all=>ui K|.list=>f6 K|.sorted=>oU K|.tuple=>MY K|.max=>λh H Q=>∃i j,h=[.int i,.int j]/\Q (.int (if j > i then j else i)) H
def t9:V->LV->Hp->VK->Prop:=λx y H Q=>∃l i h k v,x=.ref l/\y=[.int i]/\H l=Jr (.lst h)/\AO h.9 i=Jr k/\h[k]?=Jr v/\Q v (XA H l (.lst (h.eraseIdx k)))
def e9(K:QE):V->LV->Hp->VK->Prop:=λx y H Q=>∃z b,∃h:LS,x=.str z/\y=[.ref b]/\gC K H b (h.map V.str)/\(h.map (·.length)).sum+h.9 * z.9<=16777216/\Q (.str (QA9 z h)) H
def O7(K:QE):Mt->V->LV->Hp->VK->Prop
 | .append=>pU|.pop=>t9|.join=>e9 K|.setd=>lJ K|.reverse=>KP
noncomputable def Mt.ty:Mt->String
 | .append=>"list"|.pop=>"list"|.join=>"str"|.setd=>"dict"|.reverse=>"list"
def mK(x:V)(H:Hp)(Q:Option Int->Hp->Prop):Prop:=match x with
 | .int i=>Q (Jr i) H|_=>False
inductive Item where
 |one (v:V)|tup (vs:LV)
def rC(K:QE):ItK->LV->Hp->(List Item->(Hp->Prop)->Hp->Prop)->Prop
 | .val,[.str z],H,R=>R (z.cps.toList.map λc=>.one (.str #[(Wb [c])])) (λ_=>True) H|.val,[.ref a],H,R=>(∃x,gC K H a x/\R (x.map .one) (λH=>gC K H a x) H)∨(∃x,TC K H a x/\R (x.map .one) (λH=>TC K H a x) H)∨(∃y,∃h:List KE,H a=Jr (.dT y h)/\R (h.map λp=>.one (.ref p.2.1)) (λH=>H a=Jr (.dT y h)) H)|.rng1,[.int j],H,R=>(-(2 ^ 62)<=j/\j<2 ^ 62)/\R ((Qm j.toNat).map λ(i:Nat)=>.one (.int (i:Int))) (λ_=>True) H|.enum,[.ref a],H,R=>∃z x,Src.adr z=a/\FX K H z x/\R (x.zipIdx.map λp=>.tup [.int (p.2:Int),p.1]) (λH=>FX K H z x) H|.itm,[.ref a],H,R=>∃y,∃h:List KE,H a=Jr (.dT y h)/\R (h.map λp=>.tup [.ref p.2.1,p.2.2]) (λH=>H a=Jr (.dT y h)) H|_,_,_,_=>False
noncomputable def yB:LN->LV->St->Option St
 |[],[],σ=>Jr σ|i::is,v::vs,σ=>yB is vs (σ.set i (Jr v))|_,_,_=>Js
def dE(K:QE):Tg->TG
 | .nm i=>λv x H Q=>Q (x.set i (Jr v)) H|.tp z=>λv x H Q=>match v with
  | .ref p=>∃y h,TC K H p y/\yB z y x=Jr h/\Q h H|_=>False
def bindI(K:QE)(z:Tg):Item->St->Hp->(St->Hp->Prop)->Prop
 | .one v=>dE K z v|.tup y=>λx H Q=>match z with
  | .tp w=>∀u,Same H u->∃h,yB w y x=Jr h/\Q h u|.nm i=>∀p,H p=Js->Q (x.set i (Jr (.ref p))) (XA H p (.tup y))
def Dj(K:QE)(xs:List Item)(st:Hp->Prop)(bind:Item->St->Hp->(St->Hp->Prop)->Prop)(tc:TT)(te:TE)(σ:St)(H:Hp)(Q:VK):Prop :=
 ∃W:Nat->LV->Hp->Prop,W 0 [] H/\(∀i h H,i<=xs.9->W i h H->st H) /\
  (∀i x h H,xs[i]?=Jr x->W i h H->bind x σ H λz u=>tc z u λb v=>if b=Jt then te z v λy w=>h.9<jz/\W (i+1) (h++[y]) w else W (i+1) h v) /\
  ∀h u,W xs.9 h u->h.9<=jz/\∀p,u p=Js->Q (.ref p) (XA u p (.lst h))
structure Yields(J:It)(xs:List Item)(st:Hp->Prop):Prop where
 go:∀i H,st H->i<xs.9->J.go i H
 yld:∀i H x H',st H->i<xs.9->J.yld i H x H'->∃it,xs[i]?=Jr it/\match it with
  | .one v=>x=v/\H'=H|.tup vs=>∃p,H p=Js/\x=.ref p/\H'=XA H p (.tup vs)
 stop:∀i H,st H->xs.9<=i->J.stop i H
def Fj(J:It)(g:TG)(tc:TT)(te:TE)(k:St)(l:Hp)(Q:VK):Prop:=∃W:Nat->Nat->LV->St->Hp->Prop,(∃m,W 0 m [] k l) /\
 ∀i m h v u,W i m h v u->(J.stop i u/\h.9<=jz/\∀p,u p=Js->Q (.ref p) (XA u p (.lst h))) ∨
  (J.go i u/\∀x e,J.yld i u x e->g x v e λz j=>tc z j λb a=>if b=Jt then te z a λy f=>h.9<jz/\∃w,w < m/\W (i+1) w (h++[y]) z f else ∃w,w < m/\W (i+1) w h z a)
def GV(K:QE)(xs:List Item)(st:Hp->Prop)(x:Tg)(tc:TT)(te:TE)(h:St)(H:Hp)(Q:VK):Prop:=∀J,Yields J xs st->Fj J (dE K x) tc te h H Q
def isNop:PX->Bool
 | .nop=>Jt|_=>Ju
def wp(K:QE)(Γ:Ev):PX->XK->W3
 | .xt i,E=>let e:TE:=λh H Q=>match h[i]? with
   |some (Jr v)=>Q v H|_=>False
  #[e,λh H Q=>e h H λx z=>kF K x z Q,never.a]
 | .int i,E=>#[λ_ H Q=>Q (.int i) H,λ_ H Q=>Q (i != 0) H,never.a]|.str x,E=>#[λ_ H Q=>Q (.str x) H,never.t,never.a]|.bl b,E=>#[λ_ H Q=>Q (.bl b) H,λ_ H Q=>Q b H,never.a]|.non,E=>#[λ_ H Q=>Q .non H,λ_ H Q=>Q Ju H,never.a]|.glo x,E=>#[λ_ H Q=>Q (Γ.va x) H,λ_ H Q=>kF K (Γ.va x) H Q,never.a]|.bty _ n,E=>#[λ_ H Q=>Q (.ty n) H,never.t,never.a]|.bin op a b,E=>let e:TE:=λh H Q=>(wp K Γ a E).e h H λx z=>(wp K Γ b E).e h z λy w=>E8 K op x y w Q
  #[e,λh H Q=>e h H λx z=>kF K x z Q,never.a]
 | .cmp op a b,E=>let e:TE:=λh H Q=>(wp K Γ a E).e h H λx z=>(wp K Γ b E).e h z λy w=>T3 K op x y w Q
  #[e,λh H Q=>e h H λx z=>B4 x z Q,never.a]
 | .neg a,E=>#[λh H Q=>(wp K Γ a E).e h H λx z=>match x with
   | .int i=>Q (.int (-i)) z|_=>False,never.t,never.a]
 | .and a b,E=>#[λh H Q=>(wp K Γ a E).e h H λx z=>B4 x z λc w=>if c=Jt then(wp K Γ b E).e h w Q else Q (.bl Ju) w,
   λh H Q=>(wp K Γ a E).t h H λc z=>if c=Jt then(wp K Γ b E).t h z Q else Q Ju z,never.a]
 | .or a b,E=>#[λh H Q=>(wp K Γ a E).e h H λx z=>B4 x z λc w=>if c=Jt then Q (.bl Jt) w else(wp K Γ b E).e h w Q,
   λh H Q=>(wp K Γ a E).t h H λc z=>if c=Jt then Q Jt z else(wp K Γ b E).t h z Q,never.a]
 | .not a,E=>#[λh H Q=>(wp K Γ a E).e h H λx z=>kF K x z λc w=>Q (.bl (!c)) w,λh H Q=>(wp K Γ a E).t h H λc z=>Q (!c) z,never.a]|.call f as,E=>let e:TE:=λh H Q=>(wp K Γ as E).a h H λg z=>Γ.sp f g z Q E
  #[e,λh H Q=>e h H λx z=>kF K x z Q,never.a]
 | .bi f as,E=>let e:TE:=λh H Q=>(wp K Γ as E).a h H λg z=>ck K f g z Q
  #[e,λh H Q=>e h H λx z=>kF K x z Q,never.a]
 | .isi a c,E=>let e:TE:=λh H Q=>(wp K Γ a E).e h H λx z=>(wp K Γ c E).e h z λy w=>Ec K [x,y] w Q
  #[e,λh H Q=>e h H λx z=>kF K x z Q,never.a]
 | .mt m o as,E=>let e:TE:=λh H Q=>(wp K Γ o E).e h H λx z=>UX K m.ty x z/\(wp K Γ as E).a h z λg w=>O7 K m x g w Q
  #[e,λh H Q=>e h H λx z=>kF K x z Q,never.a]
 | .idx a b,E=>let e:TE:=λh H Q=>(wp K Γ a E).e h H λx z=>(wp K Γ b E).e h z λy w=>bW K x y w Q
  #[e,λh H Q=>e h H λx z=>kF K x z Q,never.a]
 | .slc a lo hi,E=>#[λh H Q=>(wp K Γ a E).e h H λx z =>
   (if isNop lo=Jt then λ(R:Option Int->Hp->Prop)=>R Js z else λR=>(wp K Γ lo E).e h z λl w=>mK l w R) λl w =>
   (if isNop hi=Jt then λ(R:Option Int->Hp->Prop)=>R Js w else λR=>(wp K Γ hi E).e h w λu j=>mK u j R) λu j=>Cm K x l u j Q,never.t,never.a]
 | .nop,E=>never|.lst as,E=>#[λh H Q=>(wp K Γ as E).a h H λk z=>k.9<=jz/\∀p,z p=Js->Q (.ref p) (XA z p (.lst k)),never.t,never.a]|.tup as,E=>#[λh H Q=>(wp K Γ as E).a h H λk z=>k.9<=jz/\∀p,z p=Js->Q (.ref p) (XA z p (.tup k)),never.t,never.a]|.comp mask tgs tg ik its cond elt,E=>#[λh H Q=>(wp K Γ its E).a h H λg z=>rC K ik g z λk st w =>
   GV K k st tg (if isNop cond=Jt then λ_ H Q=>Q Jt H else(wp K Γ cond (λ_ _ _=>False)).t) (wp K Γ elt (λ_ _ _=>False)).e (HH tgs.9 mask h) w Q,never.t,never.a]
 | .dnew b,E=>#[λ_ H Q=>∀p,H p=Js->Q (.ref p) (XA H p (.dT 0 [])),never.t,never.a]|.dsp a b,E=>#[λh H Q=>∀p,H p=Js->(wp K Γ a E).e h (XA H p (.dT 0 [])) λy z=>(wp K Γ b E).e h z λv w=>w p=Jr (.dT 0 [])/\∃b q,y=.ref b/\TC K w b (q.map kV)/\∀r,Q (.ref p) (XA w p (.dT r [(q,b,v)])),never.t,never.a]|.lset a,E=>#[λh H Q=>(wp K Γ a E).e h H λx z=>NY K x z Q,never.t,never.a]|.sset a,E=>#[λh H Q=>(wp K Γ a E).e h H λx z=>IR K x z Q,never.t,never.a]|.ny,E=>#[never.e,never.t,λ_ H Q=>Q [] H]|.nr a as,E=>#[never.e,never.t,λh H Q=>(wp K Γ a E).e h H λx z=>(wp K Γ as E).a h z λk w=>Q (x::k) w]
structure Glob where
 ev:Ev
 fn:Str->Prop
 val:Str->Prop
 no:Str->Prop
noncomputable def Bi.nm:Bi->Str
 | .len=>"len"|.any=>"any"|.all=>"all"|.list=>"list"|.sorted=>"sorted"|.tuple=>"tuple"|.max=>"max"
noncomputable def Mt.nm:Mt->Str
 | .append=>"append"|.pop=>"pop"|.join=>"join"|.setd=>"setdefault"|.reverse=>"reverse"
def Yj(G:Glob):ItK->Prop
 | .val=>True|.rng1=>G.no "range"|.enum=>G.no "enumerate"|.itm=>True
def DA(G:Glob):PX->Prop
 | .glo x=>G.val x|.bty x n=>G.no x/\Ku x=Jr (.type n)|.bin _ a b | .cmp _ a b | .and a b | .or a b | .idx a b | .nr a b | .dsp a b=>DA G a/\DA G b
 | .not a | .neg a | .lst a | .tup a=>DA G a
 | .slc a b c=>DA G a/\DA G b/\DA G c|.lset a=>G.no "len"/\G.no "set"/\DA G a|.sset a=>G.no "sorted"/\G.no "set"/\DA G a|.call f y=>G.fn f/\DA G y|.bi f y=>G.no f.nm/\DA G y|.isi a c=>G.no "isinstance"/\DA G a/\DA G c|.mt _ o y=>DA G o/\DA G y|.comp _ _ _ v z h u=>Yj G v/\DA G z/\DA G h/\DA G u|_=>True
structure SC where
 N:LS
 sc:kl
def vC:Expr->Bool
 | .Starred _ _=>Ju|_=>Jt
noncomputable def Jc(S:SC)(i:Nat)(x:Str):Bool :=
 S.N[i]?==Jr x&&(S.sc.names.lookup x==Jr .local||S.sc.names.lookup x==Jr .cell||S.sc.names.lookup x==Jr .free)&&x != "__debug__" && x != "__classdict__"
noncomputable def Be(S:SC)(i:Nat)(x:Str):Bool:=S.N[i]?==Jr x&&S.sc.names.lookup x==Jr .local
noncomputable def JL(S:SC)(x:Str):Bool:=S.sc.names.lookup x==Jr .globalImplicit&&x != "__debug__" && x != "__name__"
def iV(S:SC)(h:kl)(x:LS)(mask:List Bool):SC:=#[x++iB mask 0 S.N,jK h S.sc]
def fI:LS->Bool
 |[]=>Jt|x::r=>!r.contains x&&fI r
def P3(S:SC)(h:kl)(x:LS)(mask:List Bool):Bool :=
 h.kind==.function&&h.names.all (λy=>y.2 != .cell&&(y.2 != .local||(h.names.lookup y.1==Jr .local&&(x.contains y.1||y.1==(".0":Str)))) &&
  (y.2 != .free||S.sc.names.lookup y.1==Jr .cell||S.sc.names.lookup y.1==Jr .free))&&fI (x++iB mask 0 S.N)&&!(x++iB mask 0 S.N).contains (".0":Str)
noncomputable def Bg(c:Bool)(S:SC)(i:Nat)(x:Str):Bool:=S.N[i]?==Jr x&&(S.sc.names.lookup x==Jr .local||(c&&S.sc.names.lookup x==Jr .cell))
def Zl(c:Bool)(S:SC):Tg->Expr->Bool
 | .nm i,.Name x _=>Bg c S i x|.tp is,.Tuple es _ _=>is.9==es.9&&(is.zip es).all λp=>match p.2 with
  | .Name x _=>Bg c S p.1 x|_=>Ju
 |_,_=>Ju
noncomputable def BN:Expr->Bool
 | .Call (.Name _ _) [] [] _=>Ju|_=>Jt
def zQ:Expr->Bool
 | .Set _ _ _=>Ju|_=>Jt
def CN:Expr->Bool
 | .Slice _ _ _ _=>Ju|_=>Jt
def BE:PX->Bool
 | .ny=>Jt|.nr _ r=>BE r|_=>Ju
def TN:Expr->Bool
 | .Tuple _ _ _=>Jt|_=>Ju
section
variable{α:Type}
section
variable{e:Expr}{l:List α}
noncomputable def DG(e:Expr)(f:Str->Pos->Bool):Bool:=match e with | .Name x p=>f x p|_=>Ju
noncomputable def iH(e:Expr)(f:Gu->Bool):Bool:=match e with | .Constant c _ _=>f c|_=>Ju
noncomputable def M9(e:Expr)(f:Expr->Vy->Expr->Pos->Bool):Bool:=match e with | .BinOp l o r p=>f l o r p|_=>Ju
noncomputable def je(e:Expr)(f:Gw->Expr->Bool):Bool:=match e with | .UnaryOp o x _=>f o x|_=>Ju
noncomputable def L9(e:Expr)(f:Expr->List vt->List Expr->Bool):Bool:=match e with | .Compare l x h _=>f l x h|_=>Ju
noncomputable def mS(e:Expr)(f:BoolOp->List Expr->Pos->Bool):Bool:=match e with | .BoolOp o h p=>f o h p|_=>Ju
noncomputable def lS(e:Expr)(f:Expr->List Expr->List xk->Pos->Bool):Bool:=match e with | .Call g x h p=>f g x h p|_=>Ju
noncomputable def VZ(e:Expr)(f:Expr->Str->Pos->Bool):Bool:=match e with | .Attribute v n p=>f v n p|_=>Ju
noncomputable def DU(e:Expr)(f:Expr->Expr->Pos->Bool):Bool:=match e with | .Subscript v i p=>f v i p|_=>Ju
noncomputable def FU(e:Expr)(f:Option Expr->Option Expr->Option Expr->Bool):Bool:=match e with | .Slice l h s _=>f l h s|_=>Ju
noncomputable def ZN(e:Expr)(f:List Expr->Pos->Bool):Bool:=match e with | .List h p=>f h p|_=>Ju
noncomputable def C9(e:Expr)(f:List Expr->Nat->Pos->Bool):Bool:=match e with | .Tuple h k p=>f h k p|_=>Ju
noncomputable def ye(e:Expr)(f:Expr->List Gz->kl->Pos->Bool):Bool:=match e with | .ListComp x h sc p=>f x h sc p|_=>Ju
noncomputable def gS(e:Expr)(f:List (Option Expr)->List Expr->Bool):Bool:=match e with | .Dict x h _=>f x h|_=>Ju
noncomputable def oJ(l:List α)(f:α->Bool):Bool:=match l with | [x]=>f x|_=>Ju
noncomputable def Dp(l:List α)(f:α->α->Bool):Bool:=match l with | [x,y]=>f x y|_=>Ju
noncomputable def b7(l:List α)(f:α->List α->Bool):Bool:=match l with|x::r=>f x r|_=>Ju
noncomputable def Hi(o:Option α)(n:Bool)(f:α->Bool):Bool:=match o with|none=>n|some x=>f x
theorem ID{f:Str->Pos->Bool}(h:DG e f=Jt):∃x p,e=.Name x p/\f x p=true:=by
 cases e with|Name x p=>exact#[x,p,rfl,h]|_=>exact(QG h).elim
theorem jG{f:Gu->Bool}(h:iH e f=Jt):∃c k p,e=.Constant c k p/\f c=true:=by
 cases e with|Constant c k p=>exact#[c,k,p,rfl,h]|_=>exact(QG h).elim
theorem c7{f:Expr->Vy->Expr->Pos->Bool}(h:M9 e f=Jt):∃l o r p,e=.BinOp l o r p/\f l o r p=true:=by
 cases e with|BinOp l o r p=>exact#[l,o,r,p,rfl,h]|_=>exact(QG h).elim
theorem YZ{f:Gw->Expr->Bool}(h:je e f=Jt):∃o x p,e=.UnaryOp o x p/\f o x=true:=by
 cases e with|UnaryOp o x p=>exact#[o,x,p,rfl,h]|_=>exact(QG h).elim
theorem u7{f:Expr->List vt->List Expr->Bool}(h:L9 e f=Jt):∃l y x p,e=.Compare l y x p/\f l y x=true:=by
 cases e with|Compare l y x p=>exact#[l,y,x,p,rfl,h]|_=>exact(QG h).elim
theorem MP{f:BoolOp->List Expr->Pos->Bool}(h:mS e f=Jt):∃o es p,e=.BoolOp o es p/\f o es p=true:=by
 cases e with|BoolOp o es p=>exact#[o,es,p,rfl,h]|_=>exact(QG h).elim
theorem LP{f:Expr->List Expr->List xk->Pos->Bool}(h:lS e f=Jt):∃g es ks p,e=.Call g es ks p/\f g es ks p=true:=by
 cases e with|Call g es ks p=>exact#[g,es,ks,p,rfl,h]|_=>exact(QG h).elim
theorem KZ{f:Expr->Str->Pos->Bool}(h:VZ e f=Jt):∃v n p,e=.Attribute v n p/\f v n p=true:=by
 cases e with|Attribute v n p=>exact#[v,n,p,rfl,h]|_=>exact(QG h).elim
theorem YN{f:Expr->Expr->Pos->Bool}(h:DU e f=Jt):∃v i p,e=.Subscript v i p/\f v i p=true:=by
 cases e with|Subscript v i p=>exact#[v,i,p,rfl,h]|_=>exact(QG h).elim
theorem rW{f:Option Expr->Option Expr->Option Expr->Bool}(h:FU e f=Jt):∃l u s p,e=.Slice l u s p/\f l u s=true:=by
 cases e with|Slice l u s p=>exact#[l,u,s,p,rfl,h]|_=>exact(QG h).elim
theorem rK{f:List Expr->Pos->Bool}(h:ZN e f=Jt):∃es p,e=.List es p/\f es p=true:=by
 cases e with|List es p=>exact#[es,p,rfl,h]|_=>exact(QG h).elim
theorem j7{f:List Expr->Nat->Pos->Bool}(h:C9 e f=Jt):∃es k p,e=.Tuple es k p/\f es k p=true:=by
 cases e with|Tuple es k p=>exact#[es,k,p,rfl,h]|_=>exact(QG h).elim
theorem dS{f:Expr->List Gz->kl->Pos->Bool}(h:ye e f=Jt):∃x y sc p,e=.ListComp x y sc p/\f x y sc p=true:=by
 cases e with|ListComp x y sc p=>exact#[x,y,sc,p,rfl,h]|_=>exact(QG h).elim
theorem HP{f:List (Option Expr)->List Expr->Bool}(h:gS e f=Jt):∃ks vs p,e=.Dict ks vs p/\f ks vs=true:=by
 cases e with|Dict ks vs p=>exact#[ks,vs,p,rfl,h]|_=>exact(QG h).elim
theorem LI{f:α->List α->Bool}(h:b7 l f=Jt):∃x r,l=x::r/\f x r=true:=by
 cases l with|nil=>exact(QG h).elim|cons x r=>exact#[x,r,rfl,h]
theorem aB{f:α->Bool}(h:oJ l f=Jt):∃x,l=[x]/\f x=true:=by
 cases l with
 |nil=>exact(QG h).elim|cons x r =>
  cases r with|nil=>exact#[x,rfl,h]|cons _ _=>exact(QG h).elim
theorem Li{f:α->α->Bool}(h:Dp l f=Jt):∃x y,l=[x,y]/\f x y=true:=by
 cases l with
 |nil=>exact(QG h).elim|cons x r =>
  let#[y,e,h]:=aB (l:=r) (f:=f x) (by
   cases r with|nil=>exact h|cons y r=>cases r<;>exact h)
  exact#[x,y,by rw[e],h]
end
end
section
variable{c:Gu}{n:Str}{e:Expr}
noncomputable def Ej(c:Gu)(f:Int->Bool):Bool:=match c with | .int i=>f i|_=>Ju
noncomputable def Aj(c:Gu)(f:Str->Bool):Bool:=match c with | .str i=>f i|_=>Ju
noncomputable def Fa(c:Gu)(f:Bool->Bool):Bool:=match c with | .bool i=>f i|_=>Ju
def Da(c:Gu):Bool:=match c with | .none=>Jt|_=>Ju
theorem Of{f:Int->Bool}(h:Ej c f=Jt):∃i,c=.int i/\f i=true:=by
 cases c with|int i=>exact#[i,rfl,h]|_=>exact(QG h).elim
theorem Nf{f:Str->Bool}(h:Aj c f=Jt):∃i,c=.str i/\f i=true:=by
 cases c with|str i=>exact#[i,rfl,h]|_=>exact(QG h).elim
theorem T8{f:Bool->Bool}(h:Fa c f=Jt):∃i,c=.bool i/\f i=true:=by
 cases c with|bool i=>exact#[i,rfl,h]|_=>exact(QG h).elim
theorem S8(h:Da c=Jt):c=.none:=by
 cases c with|none=>rfl|_=>exact(QG h).elim
theorem yA{a b:Bool}(h:(a&&b)=Jt):a=Jt/\b=true:=by cases a<;>cases b<;>first|exact#[rfl,rfl]| exact(QG h).elim
def EI(S:SC)(n:Str)(e:Expr)(f:List Expr->List xk->Pos->Bool):Bool:=lS e λg y h p=>DG g λx _=>n==x&&(JL S x&&f y h p)
theorem FE{S:SC}{f:List Expr->List xk->Pos->Bool}(h:EI S n e f=Jt):∃y es ks p,e=.Call (.Name n y) es ks p/\JL S n=Jt/\f es ks p=true:=by let#[g,es,ks,p,rfl,w]:=LP h;let#[x,y,rfl,v]:=ID w;have u:=yA v;have z:=yA u.2;have e:=wE u.1;exact#[y,es,ks,p,by rw[e],by rw[e];exact z.1,z.2]
def T0(n:Str)(e:Expr)(f:Expr->List Expr->Pos->Pos->Bool):Bool:=lS e λg z y p=>VZ g λv x h=>n==x&&(y.isEmpty&&(h.endLine==p.line&&f v z h p))
theorem SU{f:Expr->List Expr->Pos->Pos->Bool}(h:T0 n e f=Jt):∃v y es p,e=.Call (.Attribute v n y) es [] p/\(y.endLine==p.line)=Jt/\f v es y p=true:=by let#[g,es,i,p,rfl,a]:=LP h;let#[v,x,y,rfl,k]:=KZ a;have w:=yA k;have u:=yA w.2;have z:=yA u.2;have e:=wE w.1;have b:=Q7.mp u.1;exact#[v,y,es,p,by rw[e,b],z.1,z.2]
noncomputable def T9(x:BoolOp)(r:Expr)(h:List Expr)(pos:Pos):Expr:=match h with
 |[]=>r|q::t=>.BoolOp x (r::q::t) pos
def Xl(y:Bool)(S:SC)(z:ItK)(c:List Expr->Pos->Bool)(t it:Expr)(pos:Pos):Bool:=match z with
 | .val=>y&&c [it] pos|.rng1=>EI S "range" it λh x p=>x.isEmpty&&oJ h λa=>c [a] p|.enum=>TN t&&EI S "enumerate" it λh x p=>x.isEmpty&&oJ h λa=>c [a] p|.itm=>TN t&&(y&&T0 "items" it λv h _ p=>BN v&&(h.isEmpty&&c [v] p))
noncomputable def Yn(h:List Expr)(n:Bool)(f:Expr->Bool):Bool:=match h with
 |[]=>n|c::r=>r.isEmpty&&(!n&&f c)
def Y0(S:SC)(f g:Str)(e:Expr)(c:Expr->Bool):Bool:=EI S f e λz h _=>h.isEmpty&&oJ z λx=>EI S g x λz h _=>h.isEmpty&&oJ z λy=>vC y&&c y
theorem PU{S:SC}{f g:Str}{c:Expr->Bool}(h:Y0 S f g e c=Jt):∃u p2 pos z y,e=.Call (.Name f u) [.Call (.Name g p2) [y] [] z] [] pos/\JL S f=Jt/\JL S g=Jt/\vC y=Jt/\c y=true:=by let#[u,o,b,pos,rfl,i,h]:=FE h;have a:=yA h;cases Q7.mp a.1;let#[x,rfl,m]:=aB a.2;let#[p2,o,b,z,rfl,v,l]:=FE m;have k:=yA l;cases Q7.mp k.1;let#[y,rfl,j]:=aB k.2;have w:=yA j;exact#[u,p2,pos,z,y,rfl,i,v,w.1,w.2]
def isItm:ItK->Bool
 | .itm=>Jt|_=>Ju
def JB:PX->SC->Expr->Bool
 | .xt i,S,e=>DG e λx _=>Jc S i x|.int i,_,e=>iH e λc=>Ej c λj=>i==j|.str x,_,e=>iH e λc=>Aj c λy=>x==y|.bl b,_,e=>iH e λc=>Fa c λk=>b==k|.non,_,e=>iH e Da|.glo x,S,e=>DG e λy _=>x==y&&JL S x|.bty x _,S,e=>DG e λy _=>x==y&&JL S x|.bin op a b,S,e=>M9 e λl o r _=>op==o&&(JB a S l&&JB b S r)|.cmp op a b,S,e=>L9 e λl Z Y=>oJ Z λo=>oJ Y λr=>op==o&&(zQ r&&(JB a S l&&JB b S r))|.neg a,S,e=>je e λo x=>o==.USub&&JB a S x|.and a b,S,e=>mS e λo z p=>o==.And&&b7 z λl t=>b7 t λr t=>JB a S l&&JB b S (T9 .And r t p)|.or a b,S,e=>mS e λo z p=>o==.Or&&b7 z λl t=>b7 t λr t=>JB a S l&&JB b S (T9 .Or r t p)|.not a,S,e=>je e λo x=>o==.Not&&JB a S x|.call f as,S,e=>EI S f e λz w p=>w.isEmpty&&JB as S (.List z p)|.bi f as,S,e=>EI S f.nm e λz w p=>w.isEmpty&&b7 z λx t=>JB as S (.List (x::t) p)|.isi a c,S,e=>EI S "isinstance" e λz w _=>w.isEmpty&&Dp z λl r=>vC l&&(vC r&&(JB a S l&&JB c S r))|.mt m o as,S,e=>T0 m.nm e λv z _ p=>BE as&&(BN v&&(decide (z.9<20)&&(JB o S v&&JB as S (.List z p))))|.idx a b,S,e=>DU e λv i _=>CN i&&(JB a S v&&JB b S i)|.slc a lo hi,S,e=>DU e λv X _=>FU X λl h s=>s.isNone&&(JB a S v&&(Hi l (isNop lo) (λe=>!isNop lo&&JB lo S e)&&Hi h (isNop hi) λe=>!isNop hi&&JB hi S e))|.nop,_,_=>Ju|.lst as,S,e=>ZN e λz p=>JB as S (.List z p)|.tup as,S,e=>C9 e λz _ p=>JB as S (.List z p)|.comp mask tgs tg ik its cond elt,S,e=>ye e λK W u p=>oJ W λg=>g.is_async==0&&(!isItm ik&&(P3 S u tgs mask&&(Zl Ju (iV S u tgs mask) tg g.target&&(zQ g.iter &&
   (Xl (BE its) S ik (λz p=>JB its S (.List z p)) g.target g.iter p&&(Yn g.ifs (isNop cond) (λc=>JB cond (iV S u tgs mask) c)&&JB elt (iV S u tgs mask) K))))))
 | .dnew _,_,e=>gS e λw q=>w.isEmpty&&q.isEmpty|.dsp a b,S,e=>gS e λw q=>oJ w λk=>oJ q λv=>Hi k Ju (JB a S)&&JB b S v|.lset a,S,e=>Y0 S "len" "set" e (JB a S)|.sset a,S,e=>Y0 S "sorted" "set" e (JB a S)|.ny,_,e=>ZN e λz _=>z.isEmpty|.nr a as,S,e=>ZN e λz p=>b7 z λx t=>vC x&&(JB a S x&&JB as S (.List t p))
end
variable{Γ:Ev}
theorem xg(x:V)(H:Hp)(Q:Bool->Hp->Prop):B4 x H Q=∃k,x=.bl k/\Q k H:=by
 apply h8;cases x with|bl b=>exact#[λh=>#[b,rfl,h],λ#[k,e,h]=>by cases e;exact h]|_=>exact#[λh=>Qj h,λ#[k,e,h]=>by cases e]
theorem lZ(x:V)(H:Hp)(Q:Option Int->Hp->Prop):mK x H Q=∃i,x=.int i/\Q (Jr i) H:=by
 apply h8;cases x with|int b=>exact#[λh=>#[b,rfl,h],λ#[k,e,h]=>by cases e;exact h]|_=>exact#[λh=>Qj h,λ#[k,e,h]=>by cases e]
theorem OT(K:QE)(x:V)(H:Hp)(Q:Bool->Hp->Prop):kF K x H Q=∃k,lg K x H k/\Q k H:=by
 apply h8;cases x with|bl b=>exact#[λh=>#[b,rfl,h],λ#[k,(e:k=b),h]=>by subst e;exact h]|int i=>exact#[λh=>#[i != 0,rfl,h],λ#[k,(e:k=(i != 0)),h]=>by subst e;exact h]|non=>exact#[λh=>#[Ju,rfl,h],λ#[k,(e:k=Ju),h]=>by subst e;exact h]|str z=>exact#[λh=>#[_,#[h.1,rfl],h.2],λ#[k,#[u,y],h]=>by subst y;exact#[u,h]]|_=>exact QAZ
section
variable{X:Cx}
section
variable{e b:Expr}{es:List Expr}{env:Env}{its:LW}
theorem cZ:PE X e never.e:=λ_ _ _ _ _ _ h=>Qj h
theorem vK:PT X e never.t:=λ_ _ _ _ _ _ h=>Qj h
theorem DP:PA X es never.a:=λ_ _ _ _ _ _ _ h=>Qj h
theorem cD{a:Expr}{ta:TE}(ha:PE X a ta)(g:∀y,isTrue a X.env y=(do let v <- y;standAt a.pos;Yx [v] (truthy v))) :
  PT X a (λσ H Q=>ta σ H λx j=>kF X.K x j Q):=by
 intro z s σ H Q I h;refine isTrue_plain (LB (ha z s σ H _ I h) λv k #[x,w,i,f,u]=>?_) (g _);have u:kF X.K x w Q:=u;rw[OT]at u;exact uY z k σ w x v Q i f u
theorem aZ{f:Jw->Jw->Sem Jw}:sE X f (λ_ _ _ _=>False):=λ_ _ _ _ _ _ _ _ _ _ _ _ h=>h.elim
theorem Ad(h:Vy):sE X (kd h) (E8 X.K h):=by
 cases h with|Add=>exact op_add|Sub=>exact op_sub|Mult=>exact Td|FloorDiv=>exact T6|Mod=>exact op_mod|_=>exact aZ
theorem Y2{h:MB}{s:jx}{σ:St}{H:Hp}{b c:Bool}{Q:VK}(I:Inv X h σ H s)(q:Q (.bl (decide (b=c))) H):jy (js X.prog X.w) X.A (Kx .Is (.bool b) (.bool c)) (EP X h σ Q) X.xe s:=by
 have e:Kx .Is (.bool b) (.bool c)=hT (.bool (decide (b=c))):=by cases b<;>cases c<;>rfl
 rw[e];exact QH #[.bl _,H,I,rfl,q]
theorem iZ(k:X.A.units+66<kx)(z:vt):sE X (Kx z) (T3 X.K z):=by
 cases z with|Eq=>exact op_eq ()|NotEq=>exact op_ne ()|Lt=>exact eN _root_.L2.op_lt|LtE=>exact eN _root_.L2.op_le|Gt=>exact eN _root_.L2.op_gt|GtE=>exact eN _root_.L2.op_ge|In=>exact Di k|NotIn=>exact tZ k|Is=>intro w s g H x y v u Q I f a h;let#[b,c,rfl,rfl,q]:=h;cases f;cases a;exact Y2 I q|IsNot=>exact λ_ _ _ _ _ _ _ _ _ _ _ _ h=>h.elim
theorem Ae(Y:X.A.units+66<kx):E4 X (bW X.K):=by
 intro w k f s n H x y v u Q I r p h hs;have sq:=λh=>Te (X:=X) w k f s n H x y v u Q I r p h hs;have dc:=λh=>k8 Y w k f s n H x y v u Q I r p h hs;cases x with
 |str z =>
  cases y with|int i=>let#[Z,c,m,q]:=h;exact sq (.inr (.inr #[z,i,c,rfl,rfl,Z,m,q]))|_=>exact Qj h
 |ref a =>
  cases y with
  |int i=>let#[o,j,l,m,q]:=h;rcases l with l|l;exact sq (.inl #[a,o,i,j,rfl,rfl,l,m,q]);exact sq (.inr (.inl #[a,o,i,j,rfl,rfl,l,m,q]))
  |str z=>let#[j,g,q]:=h;exact dc #[a,j,rfl,g,q]|ref b=>let#[j,g,q]:=h;exact dc #[a,j,rfl,g,q]|_=>exact Qj h
 |_=>exact Qj h
theorem AZ{x:vt}(h:zQ b=Jt):xw x b=false:=by cases b<;>first|rfl|cases h
theorem Z6(h:CN b=Jt):BV b:=by intro o i;cases b<;>first|rfl|cases h
theorem UA(env:Env)(h:vC e=Jt):Ky (e::es) env=(Ju,kb e env)::Ky es env:=by cases e<;>first|rfl|cases h
theorem sS(h:zQ e=Jt)(x:Jw):ku e env x=hT x:=by cases e<;>first|rfl|cases h
theorem TZ{o:Expr}{n:Str}(h:BN o=Jt):vz o n env (kb o env)=kb o env:=by unfold vz;split;cases h;rfl
theorem M7:K5 X "list.pop" t9:=by intro z s f H x u v g Q I j m h;let#[l,i,u,k,y,rfl,rfl,a,hk,n,q]:=h;let#[o,Y,r,p]:=RN hk;have hl:u.9<=sizeLine:=(show VA X.prog X.w H s.1 l (.lst u) from I.hok l _ a).1;rw[qU]at hl;exact O0 z s f H _ _ v g Q I j m #[l,u,i,k,y,rfl,rfl,a,(),(),o,n,q]
theorem HJ{x:LS}(h:bA (x.map V.str) its):gA its x:=by
 induction x generalizing its with
 |nil=>cases h;exact .nil|cons y x z =>
  cases h with|cons h t=>let#[k,rfl]:=h;exact .cons _ _ (z t)
theorem N7:K5 X "str.join" (e9 X.K):=by intro y s l H x n v o Q I w g h;let#[z,b,m,rfl,rfl,j,i,q]:=h;let#[t,rfl]:=w;let#[u,rfl,f]:=zH g;cases f;let#[its,a,p,_]:=I.list j;exact join_list p.isList (by simpa using HJ a) i λr k=>#[.str _,H,I.tok _,#[_,rfl],q]
theorem NV{ss:LS}(h:gA its ss):bA (ss.map V.str) its:=by
 induction h with|nil=>exact .nil|cons y t _ x=>exact .cons #[t,rfl] x
theorem gW{out:LW}(g:its.Perm out):∀{xs:LV},bA xs its->∃z,z.Perm xs/\bA z out:=by
 induction g with
 |nil=>intro xs r;cases r;exact#[[],Wn _,.nil]|cons x _ k =>
  intro xs r;cases r with|cons h t=>let#[z,p,v]:=k t;exact#[_::z,p.cons _,.cons h v]
 |swap x y l =>
  intro xs r;cases r with
  |cons h t=>cases t with|cons i t=>exact#[_::_::_,QEJ.swap _ _ _,.cons i (.cons h t)]
 |trans _ _ f a=>intro xs r;let#[z,p,v]:=f r;let#[w,q,u]:=a v;exact#[w,q.trans p,u]
theorem IX{xs:LV}{v:Jw}(r:bA xs its)(h:v∈its):∃x∈xs,nA x v:=by
 induction r with
 |nil=>exact nomatch h
 |cons r t z=>rcases QK.mp h with e|h;subst e;exact#[_,QD,r];let#[x,u,y]:=z h;exact#[x,QC _ u,y]
theorem TQ(hu:X.A.units+66<kx):dC X (.builtin "sorted") (oU X.K):=by
 intro pins s σ H xs us Q I r h;let#[p,rfl,h]:=h;rcases h with⟨ss,N,P,q⟩| ⟨xs,N,P,M,q⟩
 skip;let#[u,rfl,B]:=zH r;cases B;let#[its,i,F,hz]:=I.list N;have hl:=i.9;rw[QF]at hl;refine sorted_strs F.isList (by simpa using HJ i) () λout l a1 a2 a3=>?_;let#[e,O]:=sortedAll_at s.1 its out;have hlen:=(jN a1).1;have hp:=a2.length_eq;refine#[.ref (s.1.1.size+1),_,I.laid (t':=s.toks) (λb o z=>hB z) (wm _) (show VA X.prog X.w _ _ _ (.lst (l.map V.str)) from#[by rw[QF,qU];omega,out.toList,e,NV a1,by simpa using O]),rfl,q _ l (I.hok.fresh (wm _)) a2 a3];skip;let#[u,rfl,B]:=zH r;cases B;let#[its,i,F,hz]:=I.list N;have hl:=i.9;have f:∀v∈its,∃b R Z n k,∃j:LS,v=.ref b/\s.1.get? b=Jr { cls:=.type "list",dict:=R,data:=.seq k n,slots:=Z }/\gA k.toList j:=λv hv=>by let#[x,L,W]:=IX i hv;let#[a,j,rfl,sq]:=M x L;cases W;let#[g,E,#[o,n,e,c,d,z],_]:=I.list sq;let#[oc,od,J,G]:=o;cases c;exact#[a,od,G,n,g.toArray,j,rfl,by rw[e,show J=Data.seq g.toArray n from z],by simpa using HJ E]
 refine A5 F.isList () (λv hv=>?_) (λh3 kp x M y hy C hC=>?_) λout hp=>?_;let#[b,R,Z,n,k,j,rfl,e,_]:=f v hv;exact#[b,_,rfl,e,rfl];let#[b,R,Z,n,k,j,rfl,e,st]:=f x M;let#[b2,dd2,sl2,n2,m,ts2,rfl,e2,Y]:=f y hy;exact cS (s:={ s with heap:=h3 }) (show X.A.units+1+1<kx by omega) (kp _ _ e) (kp _ _ e2) st Y (hC _);let#[e,O]:=sortedAll_at s.1 its out.toArray;let#[S,py,vy]:=gW hp.symm i;have hp2:=py.length_eq;refine#[.ref (s.1.1.size+1),_,I.laid (t':=s.toks) (λb o z=>hB z) (wm _) (show VA X.prog X.w _ _ _ (.lst S) from#[by rw[qU];omega,out,e,vy,O]),rfl,q _ S (I.hok.fresh (wm _)) py]
theorem oX:dC X (.type "tuple") (MY X.K):=by intro x s y H k u Q I r h;let#[p,z,rfl,w,v]:=h;exact BL x s y H _ u Q I r #[p,z,rfl,.inl #[w,v]]
theorem jk(h:X.A.units+66<kx)(hc:X.calm=Jt)(f:Bi):(∃id,Ku f.nm=Jr (.builtin id)/\dC X (.builtin id) (ck X.K f))∨∃T,Ku f.nm=Jr (.type T)/\dC X (.type T) (ck X.K f):=by
 cases f with|len=>exact .inl #[_,PySem.boot_len,k4]|any=>exact .inl #[_,PyProof.Rows.boot_any,x4 hc]|all=>exact .inl #[_,PyProof.Rows.boot_all,u4 hc]|list=>exact .inr #[_,PyProof.Rows.boot_list,aO]|tuple=>exact .inr #[_,by kernel_rfl,oX]|max=>exact .inl #[_,PyProof.Rows.boot_max,pX hc]|sorted=>exact .inl #[_,QBp,TQ h]
end
end
end L2.L3
namespace L2.L3
open PySem PySem.Spec PyProof.Rows
section
variable{S:SC}{i:Nat}{x:Str}
structure OkX(X:Cx)(S:SC)(G:Glob)(E:XK):Prop where
 N:X.N=S.N
 sc:X.env.scope=S.sc
 calm:X.calm=Jt
 un:X.A.units+66<kx
 fn:∀f,G.fn f->∃(CX:m5) (k:Nat) (a:jv) (fd:Kw) (ps:LS),FnOk X.prog X.w X.K X.mg X.base CX k a fd ps (G.ev.sp f)/\Room k X.A/\X.mg f=Jr (.ref a)/\Wm X.K (.ref a)=Jt/\JG X.K fd ps [] /\
  mL CX X E/\∀l H s e s',CX l H s (λ_ _ _=>False) e s'->False
 val:∀x,G.val x->∃u,X.mg x=Jr u/\nA (G.ev.va x) u
 no:∀x,G.no x->X.mg x=Js
def OO(X:Cx)(Γ:Ev)(E:XK):PX->List Expr->Prop
 | .nr a as,e::es=>PE X e (wp X.K Γ a E).e/\OO X Γ E as es|_,_=>True
structure Snd(X:Cx)(Γ:Ev)(E:XK)(p:PX)(e:Expr):Prop where
 pe:PE X e (wp X.K Γ p E).e
 pt:PT X e (wp X.K Γ p E).t
 pw:∀op es pos,e=.BoolOp op es pos->PW X e (wp X.K Γ p E).t
 pa:∀es pos,e=.List es pos->PA X es (wp X.K Γ p E).a
 pas:∀es pos,e=.List es pos->OO X Γ E p es
theorem F5(h:Jc S i x=Jt):S.N[i]?=Jr x/\Xk S.sc x/\(x==("__debug__":Str))=Ju/\(x==("__classdict__":Str))=false:=by simp only[Jc,Qe,wj,beq_iff_eq,bne_iff_ne,ne_eq]at h;let#[#[#[v,y],u],z]:=h;refine#[v,?_,by simpa using u,by simpa using z];rcases y with(y|y)|y;exact .inl y;exact .inr (.inl y);exact .inr (.inr y)
theorem S7(h:Be S i x=Jt):S.N[i]?=Jr x/\S.sc.names.lookup x=Jr .local:=by simp only[Be,Qe,beq_iff_eq]at h;exact h
theorem XC(h:JL S x=Jt):S.sc.names.lookup x=Jr .globalImplicit/\(x==("__debug__":Str))=Ju/\x≠"__name__":=by simp only[JL,Qe,beq_iff_eq,bne_iff_ne,ne_eq]at h;exact#[h.1.1,by simpa using h.1.2,h.2]
theorem zE:∀{l:LS},fI l=Jt->l.Nodup
 |[],_=>Qo|x::r,h=>by simp only[fI,Qe,Q4]at h;exact Qa.mpr #[by simpa using h.1,zE h.2]
theorem HQ{z:kl}{v:LS}{mask:List Bool}(h:P3 S z v mask=Jt):CompSt S.N S.sc z v mask:=by simp only[P3,Qe,qN,beq_iff_eq,Q4]at h;let#[#[#[b,w],a],k]:=h;refine#[b,λy u e=>?_,λy u e=>?_,λy u e=>?_,λy u e=>?_,zE a,by simpa using k];have:=(w y u).1.1;rw[e]at this;exact h7 this (by decide);have:=(w y u).1.2;rw[e]at this;simp at this;exact this.1;have:=(w y u).2;rw[e]at this;simp at this;exact this;have:=(w y u).1.2;rw[e]at this;simp at this;exact this.2
theorem OkX.comp{X:Cx}{G:Glob}{E:XK}(ok:OkX X S G E)(y:kl)(u:LS)(mask:List Bool)(s:jx)(H:Hp)(ex:List jv):OkX (HA X y u mask s H ex) (iV S y u mask) G (λ_ _ _=>False) where
 N:=by show u++iB mask 0 X.N=u++iB mask 0 S.N;rw[ok.N]
 sc:=by show jK y X.env.scope=jK y S.sc;rw[ok.sc]
 calm:=ok.calm
 un:=ok.un
 fn:=λf h=>by let#[n,k,a,m,w,l,j,g,e,b,o,v]:=ok.fn f h;exact#[n,k,a,m,w,l,j,g,e,b,λ_ _ _ _ _ _ _ z=>(v _ _ _ _ _ z).elim,v]
 val:=ok.val
 no:=ok.no
end
section
variable{X:Cx}
theorem U1{c:Bool}{S:SC}{i:Nat}{x:Str}(k:X.N=S.N)(y:X.env.scope=S.sc)(u:c=Jt->∀x,X.fn x=Jt)(h:Bg c S i x=Jt):X.N[i]?=Jr x/\Fg X.env.scope x/\(X.fn x=Jt∨X.env.scope.names.lookup x=Jr .local):=by
 simp only[Bg,Qe,wj,beq_iff_eq]at h;rw[k,y];rcases h.2 with z|⟨w,v⟩
 exact#[h.1,.inl z,.inr z];exact#[h.1,.inr v,.inl (u w x)]
theorem PL{c:Bool}{S:SC}(a:c=Jt->∀x,X.fn x=Jt)(j:X.N=S.N)(k:X.env.scope=S.sc)(nd:X.N.Nodup):∀(w:LN) (es:List Expr),w.9=es.9->((w.zip es).all λp=>match p.2 with | .Name x _=>Bg c S p.1 x|_=>Ju)=Jt ->
  Ap X es (λvs σ H Q=>∃y,yB w vs σ=Jr y/\Q y H)
 |[],[],_,_=>by
  intro z s σ H vs n Q I r h;let#[y,e,q]:=h;cases vs with|nil=>cases r;simp only[yB]at e;cases e;exact assignInOrder_nil #[σ,H,I,q]|cons _ _=>simp[yB]at e
 |[],_::_,h,_=>by cases h|_::_,[],h,_=>by cases h|i::w,e::es,hl,hz=>by
  simp only[QBS,wK,Qe]at hz;let#[l,W]:=hz;cases e with
  |Name x pos =>
   let#[g,f,b]:=U1 j k a l;have Z:=PL a j k nd w es (by simpa using hl) W;intro z s σ H vs n Q I r h;let#[y,e,q]:=h;cases vs with
   |nil=>simp[yB]at e|cons v vs =>
    simp only[yB]at e;cases r with|cons r Y=>show jy _ _ (zx (Xu (.Name x pos) X.env::(Vx es X.env).map (·.2)) _) _ _ _;refine assignInOrder_cons (LB (VU (pos:=pos) nd g f b z s σ H v _ _ I r (show hV i v σ H (λu m=>u=σ.set i (Jr v)/\m=H) from#[rfl,rfl])) λ_ o #[u,m,B,A,K]=>?_);subst A K;exact Z z o _ _ vs _ Q B Y #[y,e,q]
  |_=>simp at l
theorem nQ{c:Bool}:∀(z:LN) (es:List Expr) (S:SC),z.9=es.9->((z.zip es).all λp=>match p.2 with | .Name x _=>Bg c S p.1 x|_=>Ju)=Jt->(Vx es X.env).9=es.9/\(Vx es X.env).findIdx? (·.1)=Js
 |[],[],_,_,_=>#[rfl,rfl]|[],_::_,_,h,_=>by cases h|_::_,[],_,h,_=>by cases h|i::z,e::es,S,hl,hz=>by
  simp only[QBS,wK,Qe]at hz;let#[w,v]:=hz;cases e with|Name x y=>have u:=nQ z es S (by simpa using hl) v;have k:Vx (.Name x y::es) X.env=(Ju,Xu (.Name x y) X.env)::Vx es X.env:=rfl;rw[k];refine#[by rw[QL,QL,u.1],?_];rw[List.findIdx?_cons];simp[u.2]|_=>simp at w
theorem TJ:∀{y:LN}{vs:LV}{σ x:St},yB y vs σ=Jr x->vs.9=y.9
 |[],[],_,_,_=>rfl|[],_::_,_,_,h=>by simp[yB]at h|_::_,[],_,_,h=>by simp[yB]at h|_::y,_::vs,σ,x,h=>by simp only[yB]at h;rw[QL,QL,TJ h]
theorem KU{c:Bool}{S:SC}{G:Glob}{E:XK}(ok:OkX X S G E)(z:c=Jt->∀x,X.fn x=Jt)(nd:X.N.Nodup){b:Tg}{e:Expr}(h:Zl c S b e=Jt):PG X e (dE X.K b):=by
 cases b with
 |nm i =>
  cases e with|Name x pos=>let#[l,j,g]:=U1 ok.N ok.sc z h;exact VU nd l j g|_=>cases h
 |tp o =>
  cases e with
  |Tuple m k pos =>
   let#[h0,Z]:=yA h;have f:=wE h0;let#[C,B]:=nQ (X:=X) o m S f Z;have w:=Vd (pos:=pos) (k:=k) (n:=m.9) ok.calm (PL z ok.N ok.sc nd o m f Z) C B;intro y s W H v u Q I r Y;refine w y s W H v u Q I r ?_;cases v with|ref p=>let#[A,a,F,e,q]:=Y;exact#[p,A,rfl,F,by rw[TJ e,f],a,e,q]|_=>exact Qj Y
  |_=>cases h
end
variable{Γ:Ev}
theorem X5(K:QE)(a:jv)(xs:LV):Yields (iq K a) (xs.map .one) (λH=>gC K H a xs) :=
  { go:=λi H h u=>by
      have z:i<xs.length:=by simpa using u
      exact#[xs,xs[i],h,by simp[z]]
    yld:=λi H x v h _ #[e,y]=>#[.one x,by rw[Qi,y xs h];rfl,rfl,e]
    stop:=λi H h u=>#[xs,h,by simpa using u] }
theorem kc(K:QE)(a:jv)(xs:LV):Yields (tq K a) (xs.map .one) (λH=>TC K H a xs) :=
  { go:=λi H h u=>by
      have z:i<xs.length:=by simpa using u
      exact#[xs,xs[i],h,by simp[z]]
    yld:=λi H x v h _ #[e,y]=>#[.one x,by rw[Qi,y xs h];rfl,rfl,e]
    stop:=λi H h u=>#[xs,h,by simpa using u] }
theorem vc(z:Str):Yields (vp z) (z.cps.toList.map λc=>.one (.str #[(Wb [c])])) (λ_=>True) :=
  { go:=λi H h u=>by
      have y:i<z.cps.size:=by simpa using u
      exact y
    yld:=λi H x w h _ #[e,c,hc,v]=>#[.one x,by rw[Qi,QY,hc,v];rfl,rfl,e]
    stop:=λi H h u=>by
      have y:z.cps.size<=i:=by simpa using u
      exact y }
theorem xc(u:Int)(n:Nat):Yields (xp u n) ((Qm n).map λ(k:Nat)=>.one (.int (u+(k:Int)))) (λ_=>True) :=
  { go:=λi H h z=>by
      have y:i<n:=by simpa using z
      exact y
    yld:=λi H x w h z #[e,v]=>by
      have y:i<n:=by simpa using z
      exact#[.one x,by rw[Qi,QCs y,v];rfl,rfl,e]
    stop:=λi H h z=>by
      have y:n<=i:=by simpa using z
      exact y }
theorem B5(K:QE)(z:Src)(c:Nat)(xs:LV):Yields (Yq K z c) (xs.zipIdx.map λp=>.tup [.int ((c+p.2:Nat):Int),p.1]) (λH=>FX K H z xs) :=
  { go:=λi H h u=>by
      have y:i<xs.length:=by simpa using u
      exact#[xs,xs[i],h,by simp[y]]
    yld:=λi H x g h u #[p,a,v,e,w,k]=>by
      have y:i<xs.length:=by simpa using u
      have f:=k xs h;refine#[.tup [.int ((c+i:Nat):Int),a],?_,p,v,e,w];have b:xs.zipIdx[i]?=Jr (a,i):=by rw[QCd,f];simp
      rw[Qi,b];rfl
    stop:=λi H h u=>#[xs,h,by simpa using u] }
theorem NX(ep:Nat)(a:jv)(kvs:List KE):Yields (aq ep kvs.9 a) (kvs.map λp=>.tup [.ref p.2.1,p.2.2]) (λH=>H a=Jr (.dT ep kvs)) :=
  { go:=λi H h y=>by
      have z:i<kvs.length:=by simpa using y
      exact#[kvs,kvs[i],h,rfl,by simp[z]]
    yld:=λi H x w h y #[q,p,u,e,v,k]=>#[.tup [.ref p.2.1,p.2.2],by rw[Qi,k kvs h];rfl,q,u,e,v]
    stop:=λi H h y=>#[kvs,h,rfl,by simpa using y] }
theorem U5(ep:Nat)(a:jv)(kvs:List KE):Yields (Jq ep kvs.9 a) (kvs.map λp=>.one (.ref p.2.1)) (λH=>H a=Jr (.dT ep kvs)) :=
  { go:=λi H h y=>by
      have z:i<kvs.length:=by simpa using y
      exact#[kvs,kvs[i],h,rfl,by simp[z]]
    yld:=λi H x b h y #[u,k]=>by let#[p,w,v]:=k kvs h;exact#[.one (.ref p.2.1),by rw[Qi,w];rfl,v,u]
    stop:=λi H h y=>#[kvs,h,rfl,by simpa using y] }
noncomputable def iR(h:St->Hp->(List Item->(Hp->Prop)->Hp->Prop)->Prop):TI:=λx H R=>h x H λy st z=>∀J,Yields J y st->R J z
section
variable{X:Cx}{f:Expr}
section
variable{a:Expr}{ta:TA}{p pos k:Pos}{x:Str}{es:List Expr}{d:Nat}
theorem K6{l:Expr}{t:TE}(hl:PE X l t):PI X f l (iR λσ H R=>t σ H λv m=>rC X.K .val [v] m R):=by
 intro j s σ H R I h;refine LB (hl j s σ H _ I h) λv y #[x,m,i,E,W]=>?_;have g:∀b∈[y.1.1.size],jI X j m b:=λb hb=>by
  have e:b=y.1.1.size:=by simpa using hb
  subst e;exact i.fpOk (QX _) (i.hok.fresh (QX _))
 cases x with
 |str z=>let#[t,rfl]:=E;refine wpAny_pyIter_strU ?_;exact#[y.1.1.size,[y.1.1.size],_,_,m,rfl,i.kept (t':=y.toks) λb o e=>QJ _ e,xY _ z t,#[_,QO _ rfl,rfl,rfl],g,W _ (vc z)]|ref a =>
  cases E;rcases W with⟨Z,B,q⟩| ⟨Z,B,q⟩| ⟨ep,u,e,q⟩
  let#[Y,F,p,G]:=i.list B;refine WU p.isList ?_;exact#[y.1.1.size,[y.1.1.size],_,_,m,rfl,i.kept (t':=y.toks) λb o e=>QJ _ e,PV a _,#[_,QO _ rfl,rfl,rfl],g,q _ (X5 _ a Z)];let#[Y,F,p,G]:=i.tuple B;refine QC4 (show y.1.IsTuple a Y.toArray from p) ?_;exact#[y.1.1.size,[y.1.1.size],_,_,m,rfl,i.kept (t':=y.toks) λb o e=>QJ _ e,XR a _,#[_,QO _ rfl,rfl,rfl],g,q _ (kc _ a Z)];let#[z,J,Z,r,P,C,O,N,M,L,Q]:=(show VA X.prog X.w m y.1 a (.dT ep u) from i.hok a _ e)
  have A:C.size=u.length:=by have:=Fz wR L;rw[QF,QN]at this;rw[this,<- qt r]
  refine x8 J O N.1 M ?_;exact#[y.1.1.size,[y.1.1.size],_,_,m,rfl,i.kept (t':=y.toks) λb o e=>QJ _ e,RV (a:=a) (n:=u.9) (ep:=ep),#[_,QO _ rfl,rfl,by rw[<- A];rfl],g,q _ (U5 ep a u)]
 |_=>exact Qj W
theorem V6(g:x="range")(i:Gl X x)(hm:X.mg x=Js)(ha:PA X [a] ta)(hs:vC a=Jt) :
  PI X f (.Call (.Name x p) [a] [] pos) (iR λσ H R=>ta σ H λvs v=>rC X.K .rng1 vs v R):=by
 subst g;intro z s σ H R I h;refine Call_ (VE I i hm boot_range (wJ (LB (ha pos z s σ H _ I h) λm n #[vs,v,l,b,u]=>?_) (UA _ hs) rfl))
 match vs,u with
 |[.int j],#[#[u,q2],q] =>
  cases b with
  |cons r w =>
   cases w;let#[t,rfl]:=r;refine call_range_1 (LY l () () u q2 ?_);have e:(j - 0).toNat=j.toNat:=by simp
   rw[e];have y:=xc 0 j.toNat;refine q _ ?_;simpa using y
theorem sX:Ku ("enumerate":Str)=Jr (.type "enumerate"):=by kernel_rfl
theorem Y3{y:MB}{σ:St}{e:Hp}{h:jx}{R:It->Hp->Prop}{c:Nat}{z:Src}{xs:LV}{its:Array Jw}{h':j0}(v:Inv X y σ e h)(sh:FB h.1 z its)(st:XT (h.1.1.size+1) h.1.1.size z c 0 h')(i:∀c o,h.1.get? c=Jr o->h'.get? c=Jr o)
  (q:∀J,Yields J (xs.zipIdx.map λp=>.tup [.int ((c+p.2:Nat):Int),p.1]) (λH=>FX X.K H z xs)->R J e):jy (js X.prog X.w) X.A (vu (.ref (h.1.1.size+1))) (So X y σ (.Tuple es d k) R) X.xe { h with heap:=h' }:=by
 let#[#[g,j],_]:=id st;refine QDM j ?_;have l:=v.kept (h':=h') (t':=h.toks) i;have lt:=sh.lt;refine#[_,[h.1.1.size+1,h.1.1.size],_,_,e,rfl,l,SV (jr (Nat.succ_ne_self _)) (Qc (qh lt)) (Qc lt),st,λb hb=>?_,q _ (B5 _ z c xs)];have u:h.1.1.size<=b:=by simp only[QK,WF,or_false]at hb;rcases hb with rfl|rfl;exact QB5 _ _;exact QX _
 exact v.fpOk u (v.hok.fresh u)
theorem U6(l:x="enumerate")(m:Gl X x)(hm:X.mg x=Js)(ha:PA X [a] ta)(hs:vC a=Jt) :
  PI X (.Tuple es d k) (.Call (.Name x p) [a] [] pos) (iR λσ H R=>ta σ H λvs w=>rC X.K .enum vs w R):=by
 subst l;intro u s σ H R I h;refine Call_ (VE I m hm sX (wJ (LB (ha pos u s σ H _ I h) λn o #[vs,w,v,e,g]=>?_) (UA _ hs) rfl))
 match vs,g with
 |[.ref l1],#[z,xs,e1,h1,q] =>
  subst e1;cases e with|cons r b=>cases b;cases r;let#[j,_,y,_]:=v.src h1;refine aT y λY st i=>Y3 (xs:=xs) v y st i ?_;simpa using q
theorem v8{K:QE}{u:V}{H:Hp}{R:List Item->(Hp->Prop)->Hp->Prop}(h:rC K .itm [u] H R):∃a ep kvs,u=.ref a/\H a=Jr (.dT ep kvs)/\R (kvs.map λp=>.tup [.ref p.2.1,p.2.2]) (λH=>H a=Jr (.dT ep kvs)) H:=by
 cases u with|ref a=>let#[ep,kvs,e,q]:=h;exact#[a,ep,kvs,rfl,e,q]|_=>exact Qj h
theorem Kd{o:Expr}{to:TE}{apos cpos:Pos}(J:PE X o to)(i:vz o "items" X.env (kb o X.env)=kb o X.env)(g:(apos.endLine==cpos.line)=Jt) :
  Ll X (.Tuple es d k) (.Call (.Attribute o "items" apos) [] [] cpos) (iR λσ H R=>to σ H λv l=>rC X.K .itm [v] l R):=by
 intro u s σ H R I h;refine QBt i g (LB (J u s σ H _ I h) λv j #[x,l,C,E,G]=>?_);let#[a,ep,y,rfl,e,q]:=v8 G;cases E;let#[z,L,P,r,B,W,m,Z,N,M,Q]:=(show VA X.prog X.w l j.1 a (.dT ep y) from C.hok a _ e)
 refine#["dict",_,QBz,PySem.F.slot_dict_items,PySem.F.type_dict_items,#[B,m,Z.1],λb O=>?_,QAc rfl (QCo (rT m Z.1 L ?_))];cases O;exact#[B,m,Z.2.1];have A:Inv X u σ l { j with heap:=j.1.push { cls:=.type "dict_items",data:=.fields (Wb [.ref a]) } }:=C.kept (t':=j.toks) λb o e=>QJ _ e;refine u2 #[_,QO _ rfl,rfl,rfl] (QJ _ m) N ?_;have Y:W.size=y.length:=by have:=Fz wR M;rw[QF,QN]at this;rw[this,<- qt r]
 refine#[_,[_],_,_,l,rfl,A.kept (t':=j.toks) λb o e=>QJ _ e,BR (a:=a) (n:=y.9) (ep:=ep),#[.none,.none,?_],λb hb=>?_,q _ (NX ep a y)];rw[<- Y];exact QO _ rfl;have e:=QI.mp hb;subst e;exact A.fpOk (QX _) (A.hok.fresh (QX _))
end
end
section
variable{u σ:St}{K:QE}{k:Tg}{H:Hp}{Q:St->Hp->Prop}
def Tg.at:Tg->LN
 | .nm i=>[i]|.tp h=>h
def mR(k:Tg)(u σ:St):Prop:=u.9=σ.9/\∀(j:Nat),j∉k.at->u[j]?=σ[j]?
theorem EV{i:Nat}{v:Option V}(h:u.9=σ.9)(x:∀j,j≠i->u[j]?=σ[j]?):u.set i v=σ.set i v:=by apply wV;intro j;by_cases e:j=i;subst e;by_cases hl:j<σ.9;rw[qy (),qy hl];rw[qL (by rw[wb];omega),qL (by rw[wb];omega)];rw[qi (qC e),qi (qC e)];exact x j e
theorem lH:∀(x:LN) (vs:LV) (u σ:St),u.9=σ.9->(∀j,j∉x->u[j]?=σ[j]?)->yB x vs u=yB x vs σ
 |[],[],u,σ,hl,h=>by have:u=σ:=wV λj=>h j (by simp);rw[this]|[],_::_,_,_,_,_=>rfl|_::_,[],_,_,_,_=>rfl|i::x,v::vs,u,σ,hl,h=>by simp only[yB];refine lH x vs _ _ (by simp[hl]) λj z=>?_;by_cases e:j=i;subst e;by_cases y:j<σ.9;rw[qy (),qy y];rw[qL (by rw[wb];omega),qL (by rw[wb];omega)];rw[qi (qC e),qi (qC e)];exact h j (by simp[e,z])
theorem eE:∀(h:LN) (vs:LV) (σ u:St),yB h vs σ=Jr u->u.9=σ.9/\∀j,j∉h->u[j]?=σ[j]?
 |[],[],σ,u,e=>by simp only[yB]at e;cases e;exact#[rfl,λ_ _=>rfl]|[],_::_,_,_,e=>by simp[yB]at e|_::_,[],_,_,e=>by simp[yB]at e|i::h,v::vs,σ,u,e=>by simp only[yB]at e;let#[w,y]:=eE h vs _ _ e;refine#[by rw[w,wb],λj x=>?_];rw[y j (λz=>x (QC _ z)),qi (λz=>x (by simp[z]))]
theorem EQ{v:V}(a:mR k u σ)(h:dE K k v σ H Q):dE K k v u H λx m=>mR k x σ/\Q x m:=by
 let#[f,g]:=a;cases k with
 |nm i=>have e:u.set i (Jr v)=σ.set i (Jr v):=EV f λj y=>g j (by simpa[Tg.at]using y);show mR (.nm i) (u.set i (Jr v)) σ/\Q (u.set i (Jr v)) H;rw[e];exact#[#[by simp,λj y=>qi (λz=>y (by simp[Tg.at,z]))],h]|tp b =>
  cases v with|ref p=>let#[w,x,l,e,q]:=h;exact#[w,x,l,by rw[lH b w u σ f λj y=>g j y];exact e,#[(eE b w σ x e).1,λj y=>(eE b w σ x e).2 j y],q]|_=>exact Qj h
theorem iT{v:V}{y:St->Hp->Prop}(m:∀σ H,Q σ H->y σ H)(h:dE K k v σ H Q):dE K k v σ H y:=by
 cases k with
 |nm i=>exact m _ _ h|tp a =>
  cases v with|ref p=>let#[z,x,w,e,q]:=h;exact#[z,x,w,e,m _ _ q]|_=>exact Qj h
theorem vL{it:Item}{x:V}{y:Hp}(w:match it with | .one v=>x=v/\y=H | .tup vs=>∃p,H p=Js/\x=.ref p/\y=XA H p (.tup vs))(h:bindI K k it σ H Q):dE K k x σ y Q:=by
 cases it with
 |one v=>let#[rfl,rfl]:=w;exact h|tup vs =>
  let#[p,z,rfl,rfl]:=w;cases k with
  |nm i=>exact h p z|tp a =>
   let#[u,e,q]:=h (XA H p (.tup vs)) λb o e=>by rw[xA (aA e z)];exact e
   exact#[vs,u,TC.of ZA,e,q]
theorem O3{xs:List Item}{st:Hp->Prop}{tc:TT}{te:TE}{a:St}{Q:VK}(h:Dj K xs st (bindI K k) tc te a H Q):GV K xs st k tc te a H Q:=by
 let#[W,Z,o,j,done]:=h;intro J Y;refine#[λi m v u f=>m=xs.9 - i/\i<=xs.9/\mR k u a/\W i v f,#[xs.9,by simp,Q5 _,#[rfl,λ_ _=>rfl],Z],?_];rintro i m v u f ⟨rfl,C,F,w⟩;have n:=o i v f C w;by_cases g:i<xs.9;refine .inr #[Y.go i f n g,λx G y=>?_];let#[it,p,B]:=Y.yld i f x G n g y;have b:=EQ F (vL B (j i it v f p w));refine iT (λl I q=>?_) b;let#[r,q]:=q;have E:∀(z:LV) (s:Hp),(∃X,X < xs.9 - i/\X=xs.9 - (i+1)/\i+1<=xs.9/\mR k l a/\W (i+1) z s)=W (i+1) z s:=λz s =>
  h8 #[λ#[_,_,_,_,_,w]=>w,λw=>#[_,(),rfl,g,r,w]]
 simp only[E];exact q
 ·have e:i=xs.length:=()
  subst e;let#[A,q]:=done v f w;exact .inl #[Y.stop _ f n (QX _),A,q]
end
end L2.L3
namespace L2.L3
open PySem PySem.Spec PyProof.Rows
variable{Γ:Ev}
section
variable{X:Cx}{E:XK}{p its:PX}{es:List Expr}{e t it:Expr}{pos:Pos}{S:SC}{Q:LV->Hp->Prop}{G:Glob}{d:ItK}
def UN:PX->Bool
 | .nr _ _=>Ju|_=>Jt
theorem yR(h:UN p=Jt):OO X Γ E p es:=by cases p<;>first|trivial|cases h
theorem UO(Q:Bool->Hp->Prop):(λ(x:V) (h:Hp)=>B4 x h Q)=λ(x:V) (h:Hp)=>∃k,x=.bl k/\Q k h:=by funext x h;exact xg x h Q
theorem Snd.of(pe:PE X e (wp X.K Γ p E).e)(pt:PT X e (wp X.K Γ p E).t)(hb:∀h es pos,e≠.BoolOp h es pos)(ha:(wp X.K Γ p E).a=never.a)(x:UN p=true:=by rfl):Snd X Γ E p e :=
 #[pe,pt,λh es pos z=>h7 z (hb h es pos),λes pos z=>by rw[ha];exact DP,λ_ _ _=>yR x]
theorem Snd.lit(pe:PE X e (wp X.K Γ p E).e)(x:(wp X.K Γ p E).t=never.t)(hb:∀h es pos,e≠.BoolOp h es pos)(ha:(wp X.K Γ p E).a=never.a)(y:UN p=true:=by rfl):Snd X Γ E p e :=
 Snd.of pe (by rw[x];exact vK) hb ha y
theorem Snd.args(ha:PA X es (wp X.K Γ p E).a)(u:OO X Γ E p es)(v:(wp X.K Γ p E).e=never.e)(y:(wp X.K Γ p E).t=never.t):Snd X Γ E p (.List es pos) :=
 #[by rw[v];exact cZ,by rw[y];exact vK,λ_ _ _ z=>(by cases z),λx h z=>by cases z;exact ha,λx h z=>by cases z;exact u]
theorem Gd{x:Str}{v:V}{u:Jw}(y:X.env.scope=S.sc)(h:JL S x=Jt)(hm:X.mg x=Jr u)(r:nA v u):PE X (.Name x pos) (λ_ H Q=>Q v H):=by let#[w,z,k]:=XC h;exact C6 (show X.env.scope.names.lookup x=Jr .globalImplicit by rw[y];exact w) hm r z
theorem mE:∀(p:PX) {es:List Expr},JB p S (.List es pos)=Jt->es.all vC=true:=by
 intro p;induction p with|ny=>intro es h;have h:es.isEmpty=true:=h;rw[Q7.mp h];rfl|nr a u _ y=>intro es h;have h:b7 es _=true:=h;let#[x,t,rfl,h]:=LI h;have z:=yA h;rw[wK,z.1,y (yA z.2).2];rfl|lst u y=>exact λh=>y h|_=>exact λh=>(QG h).elim
theorem jR{K:QE}{σ:St}{H:Hp}:∀(p:PX),BE p=Jt->JB p S (.List [] pos)=Jt->((wp K Γ p E).a σ H Q↔Q [] H):=by
 intro p;cases p with|ny=>exact λ_ _=>QAZ|nr _ _=>exact λ_ h=>(QG h).elim|_=>exact λh=>(QG h).elim
theorem eX{K:QE}{σ:St}{H:Hp}(p:PX)(h:JB p S (.List [] pos)=Jt)(q:(wp K Γ p E).a σ H Q):Q [] H:=by
 cases x:BE p with
 |true=>exact(jR p x h).mp q|false =>
  cases p with|ny=>exact q|nr _ _=>exact(QG h).elim|_=>exact q.elim
theorem IQ{a:Expr}(p:PX)(h0:BE p=Jt)(h:JB p S (.List [a] pos)=Jt):∃x,p=.nr x .ny:=by
 cases p with
 |nr x r =>
  have y:JB r S (.List [] pos)=true:=(yA (yA h).2).2;cases r with|ny=>exact#[x,rfl]|nr _ _=>exact(QG y).elim|_=>exact(QG h0).elim
 |ny=>exact(QG h).elim|_=>exact(QG h0).elim
theorem yj(h:X.A.units+66<kx)(m:Mt):∃id,y2 m.ty/\Slot m.ty m.nm id/\gJ (.builtin id)=hT (.type "method_descriptor")/\K5 X id (O7 X.K m):=by
 cases m with|append=>exact#[_,QAa,PySem.F.slot_list_append,PySem.F.type_list_append,DW]|pop=>exact#[_,QAa,PySem.F.slot_list_pop,PySem.F.type_list_pop,M7]|join=>exact#[_,PySem.F.plainAttrs_str,PySem.F.slot_str_join,PySem.F.type_str_join,N7]|setd=>exact#[_,QBz,PySem.F.slot_dict_setdefault,PySem.F.type_dict_setdefault,CW h]|reverse=>exact#[_,QAa,PySem.F.slot_list_reverse,PySem.F.type_list_reverse,JS]
theorem nE{env:Env}{pos:Pos}:∀{es:List Expr},es.all vC=Jt->(vv pos (Ky es env)).any (·.1)=Ju
 |[],_=>rfl|e::es,h=>by rw[wK]at h;let#[y,x]:=yA h;rw[UA env y];show(Ju||(vv pos (Ky es env)).any (·.1))=Ju;rw[nE x];rfl
theorem zR{env:Env}{pos:Pos}:∀{es:List Expr},es.all vC=Jt->(vv pos (Ky es env)).all (λx=>!x.1)=Jt
 |[],_=>rfl|e::es,h=>by rw[wK]at h;let#[z,y]:=yA h;rw[UA env z];show(Jt&&(vv pos (Ky es env)).all (λx=>!x.1))=Jt;rw[zR y];rfl
theorem xS(ok:OkX X S G E)(y:Xl (BE its) S d (λes p=>JB its S (.List es p)) t it pos=Jt)(j:Yj G d)(m:isItm d=Ju)
  (b:∀es p,JB its S (.List es p)=Jt->Snd X G.ev E its (.List es p)):PI X t it (iR λσ H R=>(wp X.K G.ev its E).a σ H λvs o=>rC X.K d vs o R):=by
 have w:∀{x:Str},JL S x=Jt->Gl X x:=λ{x} h=>by show X.env.scope.names.lookup x=Jr .globalImplicit;rw[ok.sc];exact(XC h).1
 have z:TN t=Jt->∃es k p,t=.Tuple es k p:=λh=>by
  cases t with|Tuple es k p=>exact#[es,k,p,rfl]|_=>exact(QG h).elim
 cases d with|val=>have i:=yA y;have f:=(b _ pos i.2).pas _ pos rfl;let#[a,rfl]:=IQ its i.1 i.2;exact K6 f.1|rng1=>let#[l,es,n,p,rfl,g,h]:=FE y;have v:=yA h;cases Q7.mp v.1;let#[a,rfl,u]:=aB v.2;exact V6 rfl (w g) (ok.no _ j) ((b _ p u).pa _ p rfl) (by simpa using mE its u)|enum=>have i:=yA y;let#[es,k,pt,rfl]:=z i.1;let#[l,es,n,p,rfl,g,h]:=FE i.2;have v:=yA h;cases Q7.mp v.1;let#[a,rfl,u]:=aB v.2;exact U6 rfl (w g) (ok.no _ j) ((b _ p u).pa _ p rfl) (by simpa using mE its u)|itm=>cases m
theorem X6(ok:OkX X S G E)(x:Xl (BE its) S d (λes p=>JB its S (.List es p)) t it pos=Jt)(g:Yj G d)
  (u:∀es p,JB its S (.List es p)=Jt->Snd X G.ev E its (.List es p)):Ll X t it (iR λσ H R=>(wp X.K G.ev its E).a σ H λvs j=>rC X.K d vs j R):=by
 cases b:isItm d with
 |false=>exact(xS ok x g b u).to0|true =>
  cases d with
  |itm =>
   have i:=yA x;have w:=yA i.2;cases t with|Tuple es k pt=>let#[v,l,es,p,rfl,hl,h]:=SU w.2;have f:=yA h;have z:=yA f.2;cases Q7.mp z.1;have y:=(u _ p z.2).pas _ p rfl;let#[a,rfl]:=IQ its w.1 z.2;exact Kd y.1 (TZ f.1) hl|_=>exact(QG i.1).elim
  |_=>cases b
theorem EF{te x:TE}(h:PE X e te)(q:∀σ H Q,x σ H Q->te σ H Q):PE X e x:=λy s σ H Q I z=>h y s σ H Q I (q σ H Q z)
theorem snd:∀(p:PX) {X:Cx}{S:SC}{E:XK}(ok:OkX X S G E) {e:Expr},JB p S e=Jt->DA G p->Snd X G.ev E p e:=by
 intro p;induction p with
 |xt i =>
  intro X S E ok e h _;let#[x,pos,rfl,h]:=ID h;let#[Z,B,L,O]:=F5 h;have base:=Ud (pos:=pos) (show X.N[i]?=Jr x by rw[ok.N];exact Z) (show Xk X.env.scope x by rw[ok.sc];exact B) L O;have pe:PE X (.Name x pos) (wp X.K G.ev (.xt i) E).e:=EF base λA H Q q=>by
   have q:(match A[i]? with|some (Jr v)=>Q v H|_=>False):=q;cases hs:A[i]? with
   |none=>rw[hs]at q;exact q.elim|some o =>
    rw[hs]at q;cases o with|none=>exact q.elim|some v=>exact#[v,hs,q]
  exact Snd.of pe (cD pe λ_=>rfl) (λ_ _ _ z=>by cases z) rfl
 |int i=>intro X S E ok e h _;let#[c,k,pos,rfl,h]:=jG h;let#[j,rfl,h]:=Of h;cases wE h;exact Snd.of dZ (cD (ta:=λ_ H Q=>Q (.int i) H) dZ λ_=>rfl) (λ_ _ _ z=>by cases z) rfl|str x=>intro X S E ok e h _;let#[c,k,pos,rfl,h]:=jG h;let#[j,rfl,h]:=Nf h;cases wE h;exact Snd.lit Dd rfl (λ_ _ _ z=>by cases z) rfl|bl b=>intro X S E ok e h _;let#[c,k,pos,rfl,h]:=jG h;let#[j,rfl,h]:=T8 h;cases wE h;exact Snd.of B9 (cD (ta:=λ_ H Q=>Q (.bl b) H) B9 λ_=>rfl) (λ_ _ _ z=>by cases z) rfl|non=>intro X S E ok e h _;let#[c,k,pos,rfl,h]:=jG h;cases S8 h;exact Snd.of bZ (cD (ta:=λ_ H Q=>Q .non H) bZ λ_=>rfl) (λ_ _ _ z=>by cases z) rfl|glo x=>intro X S E ok e h nd;let#[y,pos,rfl,h]:=ID h;have h:=yA h;cases wE h.1;let#[u,hm,r]:=ok.val x nd;have pe:=Gd (pos:=pos) ok.sc h.2 hm r;exact Snd.of pe (cD pe λ_=>rfl) (λ_ _ _ z=>by cases z) rfl|bty x n=>intro X S E ok e h nd;let#[y,pos,rfl,h]:=ID h;have h:=yA h;cases wE h.1;let#[g1,g2,g3]:=XC h.2;exact Snd.lit (N6 (show X.env.scope.names.lookup x=Jr .globalImplicit by rw[ok.sc];exact g1) (ok.no x nd.1) nd.2 rfl g3 g2) rfl (λ_ _ _ z=>by cases z) rfl|bin op a b Y M=>intro X S E ok e h nd;let#[l,o,r,pos,rfl,h]:=c7 h;have Z:=yA h;have B:=yA Z.2;cases wE Z.1;have pe:=Ki (pos:=pos) (Ad op) (Y ok B.1 nd.1).pe (M ok B.2 nd.2).pe;exact Snd.of pe (cD pe λ_=>rfl) (λ_ _ _ z=>by cases z) rfl|cmp op a b Y M=>intro X S E ok e h nd;let#[l,os,rs,pos,rfl,h]:=u7 h;let#[o,rfl,h]:=aB h;let#[r,rfl,h]:=aB h;have Z:=yA h;have B:=yA Z.2;have L:=yA B.2;cases wE Z.1;have pa:=(Y ok L.1 nd.1).pe;have pb:=(M ok L.2 nd.2).pe;refine Snd.of (L6 (pos:=pos) (iZ ok.un op) pa pb (AZ B.1)) (λJ s A H Q I q=>r6 (pos:=pos) (iZ ok.un op) pa pb (AZ B.1) J s A H Q I ?_) (λ_ _ _ z=>by cases z) rfl;show mh _ _ _ A H (λ(x:V) (W:Hp)=>∃k,x=.bl k/\Q k W);rw[<- UO Q];exact q|neg a Y =>
  intro X S E ok e h nd;let#[o,e,pos,rfl,h]:=YZ h;have h:=yA h;cases wE h.1;have base:=Zi (pos:=pos) (Yc (X:=X)) (Y ok h.2 nd).pe;refine Snd.lit (λJ s A H Q I q=>base J s A H Q I ?_) rfl (λ_ _ _ z=>by cases z) rfl;have e:(λ(x:V) (W:Hp)=>rU (λi=>V.int (-i)) x W Q)=λ(x:V) (W:Hp)=>(match x with | .int i=>Q (.int (-i)) W|_=>False):=by
   funext x W;apply h8;cases x with|int i=>exact#[λ#[j,e,q]=>by cases e;exact q,λq=>#[i,rfl,q]]|_=>exact#[λ#[j,e,q]=>(by cases e),λq=>Qj q]
  show(wp X.K G.ev a E).e A H (λ(x:V) (W:Hp)=>rU (λi=>V.int (-i)) x W Q);rw[e];exact q
 |and a b Y M =>
  intro X S E ok e h nd;let#[o,es,pos,rfl,h]:=MP h;have Z:=yA h;cases wE Z.1;let#[l,t,rfl,B]:=LI Z.2;let#[r,t,rfl,L]:=LI B;have O:=yA L;have sa:=Y ok O.1 nd.1;have sb:=M ok O.2 nd.2;have eqA:∀(A:St) (Q:VK),(λ(x:V) (W:Hp)=>∃c,x=.bl c/\if c=Jt then(wp X.K G.ev b E).e A W Q else Q (.bl Ju) W)=λ(x:V) (W:Hp)=>B4 x W λc H2=>if c=Jt then(wp X.K G.ev b E).e A H2 Q else Q (.bl Ju) H2:=λA Q=>(UO _).symm
  have key:PW X (.BoolOp .And (l::r::t) pos) (wp X.K G.ev (.and a b) E).t/\PE X (.BoolOp .And (l::r::t) pos) (λA H Q=>(wp X.K G.ev a E).e A H λx W=>∃c,x=.bl c/\if c=Jt then(wp X.K G.ev b E).e A W Q else Q (.bl Ju) W):=by
   cases t with|nil=>exact#[OY sa.pt (n6 sb.pt),gZ (pos:=pos) sa.pe (uZ sb.pe)]|cons q t=>exact#[OY sa.pt (sb.pw _ _ _ rfl),gZ (pos:=pos) sa.pe sb.pe]
  refine#[EF key.2 λA H Q q=>?_,key.1.pt,λ_ _ _ _=>key.1,λ_ _ z=>(by cases z),λ_ _ z=>trivial];rw[eqA];exact q
 |or a b Y M =>
  intro X S E ok e h nd;let#[o,es,pos,rfl,h]:=MP h;have Z:=yA h;cases wE Z.1;let#[l,t,rfl,B]:=LI Z.2;let#[r,t,rfl,L]:=LI B;have O:=yA L;have sa:=Y ok O.1 nd.1;have sb:=M ok O.2 nd.2;have eqA:∀(A:St) (Q:VK),(λ(x:V) (W:Hp)=>∃c,x=.bl c/\if c=Jt then Q (.bl Jt) W else(wp X.K G.ev b E).e A W Q)=λ(x:V) (W:Hp)=>B4 x W λc H2=>if c=Jt then Q (.bl Jt) H2 else(wp X.K G.ev b E).e A H2 Q:=λA Q=>(UO _).symm
  have key:PW X (.BoolOp .Or (l::r::t) pos) (wp X.K G.ev (.or a b) E).t/\PE X (.BoolOp .Or (l::r::t) pos) (λA H Q=>(wp X.K G.ev a E).e A H λx W=>∃c,x=.bl c/\if c=Jt then Q (.bl Jt) W else(wp X.K G.ev b E).e A W Q):=by
   cases t with|nil=>exact#[Y9 sa.pt (Ic sb.pt),U9 (pos:=pos) sa.pe (uZ sb.pe)]|cons q t=>exact#[Y9 sa.pt (sb.pw _ _ _ rfl),U9 (pos:=pos) sa.pe sb.pe]
  refine#[EF key.2 λA H Q q=>?_,key.1.pt,λ_ _ _ _=>key.1,λ_ _ z=>(by cases z),λ_ _ z=>trivial];rw[eqA];exact q
 |not a Y=>intro X S E ok e h nd;let#[o,x,pos,rfl,h]:=YZ h;have Z:=yA h;cases wE Z.1;have sa:=Y ok Z.2 nd;refine Snd.of (λJ s A H Q I q=>?_) (yd sa.pt) (λ_ _ _ z=>by cases z) rfl;refine UnaryOp_ (LB (sa.pe J s A H _ I q) λv s1 #[x,W,I1,r1,q1]=>?_);have q1:kF X.K x W (λc H2=>Q (.bl (!c)) H2):=q1;rw[OT]at q1;refine not_of (LB (uY J s1 A W x v _ I1 r1 q1) λc s2 #[H2,I2,q2]=>?_);exact#[.bl (!c),H2,I2,rfl,q2]|call f as ih =>
  intro X S E ok e h nd;let#[p,es,ks,pos,rfl,hg,h]:=FE h;have Z:=yA h;cases Q7.mp Z.1;let#[g1,g2,g3]:=XC hg;have hg:Gl X f:=show X.env.scope.names.lookup f=Jr .globalImplicit by rw[ok.sc];exact g1
  let#[CX,k,a,fd,ps,F,hr,hm,hk,hb,hx,_]:=ok.fn f nd.1;have pa:=(ih ok Z.2 nd.2).pa es pos rfl;have st:=mE as Z.2;have pe:PE X (.Call (.Name f p) es [] pos) (wp X.K G.ev (.call f as) E).e:=by
   cases es with|nil=>exact EF (fZ (pos:=pos) (p:=p) F hr hg hm hk hb .nil hx g2) λA H Q q=>eX as Z.2 q|cons e1 P=>have st:=yA st;refine EF (M6 (pos:=pos) (p:=p) F hr hg hm hk hb .nil hx pa g2 (UA _ st.1) (nE st.2)) λA H Q q=>?_;show(wp X.K G.ev as E).a A H λvs W=>G.ev.sp f (vs++[]) W Q E;simp only[wH];exact q
  exact Snd.of pe (cD pe λ_=>rfl) (λ_ _ _ z=>by cases z) rfl
 |idx a b Y M=>intro X S E ok e h nd;let#[v,i,pos,rfl,h]:=YN h;have Z:=yA h;have B:=yA Z.2;have pe:=Vi (pos:=pos) (Ae ok.un) (Y ok B.1 nd.1).pe (M ok B.2 nd.2).pe (Z6 Z.1);exact Snd.of pe (cD pe λ_=>rfl) (λ_ _ _ z=>by cases z) rfl|nop=>intro X S E ok e h nd;exact(QG h).elim|lst as ih=>intro X S E ok e h nd;let#[es,pos,rfl,h]:=rK h;have pa:=(ih ok h nd).pa es pos rfl;exact#[Fd pa,vK,λ_ _ _ z=>(by cases z),λ_ _ z=>DP,λ_ _ z=>trivial]|tup as ih=>intro X S E ok e h nd;let#[es,k,pos,rfl,h]:=j7 h;exact Snd.lit (Cd ((ih ok h nd).pa es pos rfl)) rfl (λ_ _ _ z=>by cases z) rfl|dnew b=>intro X S E ok e h nd;let#[ks,vs,pos,rfl,h]:=HP h;have Z:=yA h;cases Q7.mp Z.1;cases Q7.mp Z.2;exact Snd.lit F6 rfl (λ_ _ _ z=>by cases z) rfl|dsp a b Y M =>
  intro X S E ok e h nd;let#[ks,vs,pos,rfl,h]:=HP h;let#[k,rfl,h]:=aB h;let#[v,rfl,h]:=aB h;have Z:=yA h;cases k with|none=>exact(QG Z.1).elim|some k=>exact Snd.lit (D6 ok.un (Y ok Z.1 nd.1).pe (M ok Z.2 nd.2).pe) rfl (λ_ _ _ z=>by cases z) rfl
 |lset a Y=>intro X S E ok e h nd;let#[p1,p2,pos,pos2,y,rfl,hg,hg',hy,h]:=PU h;refine Snd.lit (B6 ok.calm (show X.env.scope.names.lookup _=Jr .globalImplicit by rw[ok.sc];exact(XC hg).1) (show X.env.scope.names.lookup _=Jr .globalImplicit by rw[ok.sc];exact(XC hg').1) (ok.no _ nd.1) (ok.no _ nd.2.1) (Y ok h nd.2.2).pe (UA _ hy)) rfl (λ_ _ _ z=>by cases z) rfl|sset a Y=>intro X S E ok e h nd;let#[p1,p2,pos,pos2,y,rfl,hg,hg',hy,h]:=PU h;refine Snd.lit (vZ ok.un ok.calm (show X.env.scope.names.lookup _=Jr .globalImplicit by rw[ok.sc];exact(XC hg).1) (show X.env.scope.names.lookup _=Jr .globalImplicit by rw[ok.sc];exact(XC hg').1) (ok.no _ nd.1) (ok.no _ nd.2.1) (Y ok h nd.2.2).pe (UA _ hy)) rfl (λ_ _ _ z=>by cases z) rfl|ny=>intro X S E ok e h nd;let#[es,pos,rfl,h]:=rK h;cases Q7.mp h;exact Snd.args nZ trivial rfl rfl|nr a as Y ih=>intro X S E ok e h nd;let#[es,pos,rfl,h]:=rK h;let#[e1,P,rfl,h]:=LI h;have Z:=yA h;have B:=yA Z.2;have sa:=(Y ok B.1 nd.1).pe;have ss:=ih ok B.2 nd.2;exact Snd.args (tN sa (ss.pa P pos rfl) (UA _ Z.1)) #[sa,ss.pas P pos rfl] rfl rfl|bi f as ih =>
  intro X S E ok e h nd;let#[p,es,ks,pos,rfl,hg,h]:=FE h;have Z:=yA h;cases Q7.mp Z.1;let#[e1,P,rfl,L]:=LI Z.2;let#[g1,g2,g3]:=XC hg;have hg:Gl X f.nm:=show X.env.scope.names.lookup f.nm=Jr .globalImplicit by rw[ok.sc];exact g1
  have pa:=(ih ok L nd.2).pa _ pos rfl;have st:=yA (mE as L);have pe:PE X (.Call (.Name f.nm p) (e1::P) [] pos) (wp X.K G.ev (.bi f as) E).e:=by
   rcases jk ok.un ok.calm f with⟨id,hb,hc⟩| ⟨T,hb,hc⟩
   exact CP (pos:=pos) (p:=p) hc hg (ok.no _ nd.1) hb pa g3 g2 (UA _ st.1) (nE st.2);exact lW (pos:=pos) (p:=p) hc hg (ok.no _ nd.1) hb pa g3 g2 (UA _ st.1) (nE st.2)
  exact Snd.of pe (cD pe λ_=>rfl) (λ_ _ _ z=>by cases z) rfl
 |isi a c Y ihc =>
  intro X S E ok e h nd;let#[p,es,ks,pos,rfl,hg,h]:=FE h;have Z:=yA h;cases Q7.mp Z.1;let#[l,r,rfl,B]:=Li Z.2;have L:=yA B;have O:=yA L.2;have h5:=yA O.2;let#[g1,g2,g3]:=XC hg;have hg:Gl X "isinstance":=show X.env.scope.names.lookup ("isinstance":Str)=Jr .globalImplicit by rw[ok.sc];exact g1
  have pe:PE X (.Call (.Name "isinstance" p) [l,r] [] pos) (wp X.K G.ev (.isi a c) E).e :=
   CP (pos:=pos) (p:=p) v4 hg (ok.no _ nd.1) (by kernel_rfl) (tN (Y ok h5.1 nd.2.1).pe (tN (ihc ok h5.2 nd.2.2).pe nZ (UA _ O.1)) (UA _ L.1)) g3 g2 (UA _ L.1) (nE (by rw[wK,O.1];rfl))
  exact Snd.of pe (cD pe λ_=>rfl) (λ_ _ _ z=>by cases z) rfl
 |mt m o as iho ih =>
  intro X S E ok e h nd;let#[v,ap,es,pos,rfl,B,h]:=SU h;have h0:=yA h;have Z:=yA h0.2;have L:=yA Z.2;have O:=yA L.2;have po:=(iho ok O.1 nd.1).pe;have pa:=(ih ok O.2 nd.2).pa _ pos rfl;have st:=mE as O.2;let#[id,pat,sl,ty,mr]:=yj (X:=X) ok.un m;have pe:PE X (.Call (.Attribute v m.nm ap) es [] pos) (wp X.K G.ev (.mt m o as) E).e:=by
   cases es with
   |nil =>
    refine EF (Hd (apos:=ap) (cpos:=pos) pat sl ty mr po (TZ Z.1) B) λA H Q q=>?_;have e:(λ(x:V) (W:Hp)=>UX X.K m.ty x W/\O7 X.K m x [] W Q)=λ(x:V) (W:Hp)=>UX X.K m.ty x W/\(wp X.K G.ev as E).a A W λvs H2=>O7 X.K m x vs H2 Q:=by funext x W;rw[h8 (jR as h0.1 O.2)]
    show(wp X.K G.ev o E).e A H (λ(x:V) (W:Hp)=>UX X.K m.ty x W/\O7 X.K m x [] W Q);rw[e];exact q
   |cons e1 P=>have s2:=yA st;refine Xi (apos:=ap) (cpos:=pos) pat sl ty mr po pa (TZ Z.1) ?_ B (UA _ s2.1) (nE s2.2);rw[zR st];have hl':(e1::P).9<20:=Fx L.1;show(Jt&&Jt&&decide ((e1::P).9+0+0<30))=Jt;rw[dT (Qt hl' (by decide:20<=30):(e1::P).9+0+0<30)];rfl
  exact Snd.of pe (cD pe λ_=>rfl) (λ_ _ _ z=>by cases z) rfl
 |slc a lo hi Y ihl ihh =>
  intro X S E ok e h nd;let#[v,sl,pos,rfl,h]:=YN h;let#[l,u,st,p2,rfl,h]:=rW h;have Z:=yA h;have B:=yA Z.2;have L:=yA B.2;have part:∀(q:PX) (w:Option Expr),(∀{e:Expr},JB q S e=Jt->PE X e (wp X.K G.ev q E).e)->Hi w (isNop q) (λe=>!isNop q&&JB q S e)=Jt ->
    PO X w (λA H R=>(if isNop q=Jt then λ(R:Option Int->Hp->Prop)=>R Js H else λR=>(wp X.K G.ev q E).e A H λl H2=>mK l H2 R) R):=by
   intro q w ihq hq;cases w with
   |none=>have e:isNop q=true:=hq;simp only[e,if_true];exact Y6|some e' =>
    have q1:=yA hq;have e:isNop q=false:=(Q4 _).mp q1.1;simp only[e,qF,if_false];intro J s A H Q I w;refine J6 (ihq q1.2) J s A H Q I ?_;show(wp X.K G.ev q E).e A H (λ(x:V) (W:Hp)=>∃i,x=.int i/\Q (Jr i) W);have e2:(λ(x:V) (W:Hp)=>∃i,x=.int i/\Q (Jr i) W)=λ(x:V) (W:Hp)=>mK x W Q:=by funext x W;exact(lZ x W Q).symm
    rw[e2];exact w
  cases QBZ.mp Z.1;exact Snd.lit (xZ (pos:=pos) (p2:=p2) Fc (Y ok B.1 nd.1).pe (part lo l (λhc=>(ihl ok hc nd.2.1).pe) L.1) (part hi u (λhc=>(ihh ok hc nd.2.2).pe) L.2)) rfl (λ_ _ _ z=>by cases z) rfl
 |comp mask tgs tg d its cond elt ihi ihc ihe =>
  intro X S E ok e h nd;let#[e,gens,scope,pos,rfl,h]:=dS h;let#[#[t,it,ifs,asy],rfl,h]:=aB h;have h0:=yA h;have hi:=yA h0.2;have Z:=yA hi.2;have B:=yA Z.2;have L:=yA B.2;have O:=yA L.2;have h5:=yA O.2;have ea:asy=0:=wE h0.1;cases ea;have C:CompSt X.N X.env.scope scope tgs mask:=by rw[ok.N,ok.sc];exact HQ Z.1
  let#[n1,n2,n3,n4]:=nd;have pi:PI X t it (iR λA H R=>(wp X.K G.ev its E).a A H λvs W=>rC X.K d vs W R):=xS ok O.1 n1 ((Q4 _).mp hi.1) λes p q=>ihi ok q n2;refine Snd.lit (G6 (pos:=pos) (g:=dE X.K tg) (tc:=if isNop cond=Jt then λ_ H Q=>Q Jt H else(wp X.K G.ev cond (λ_ _ _=>False)).t) (te:=(wp X.K G.ev elt (λ_ _ _=>False)).e) ok.calm pi C (λs H ex=>?_) (λx=>sS L.1 x)) rfl (λ_ _ _ z=>by cases z) rfl;have okc:=ok.comp scope tgs mask s H ex;refine#[KU okc (λz=>(QG z).elim) C.nd B.1,?_,(ihe okc h5.2 n4).pe];have hif:=h5.1;cases ifs with|nil=>have e:isNop cond=true:=hif;simp only[e,if_true];exact ZU|cons c r=>have q1:=yA hif;have q2:=yA q1.2;cases Q7.mp q1.1;have e:isNop cond=false:=(Q4 _).mp q2.1;simp only[e,qF,if_false];exact YU (ihc okc q2.2 n3).pt
end
end L2.L3
namespace L2.L3
open PySem PySem.Spec PyProof.Rows
section
variable{s:kf}{f:Expr->List kf->List kf->Bool}
set_option genSizeOf false in
set_option genInjectivity false in
inductive PT where
 |nil|seq (s r:PT)
 |set (i:Nat) (e:PX)
 |expr (e:PX)|ret (e:PX)
 |ife (c:PX) (a b:PT)
 |for_ (tg:Tg) (ik:ItK) (its:PX) (body:PT)
 |own (i:Nat) (e:PX)|tset (is:LN) (e:PX)|six (o i e:PX)|sdf (i:Nat) (k:PX)|whl (c:PX) (body:PT)|frz (is:LN) (s:PT)
def sP(K:QE):V->V->V->Hp->(Hp->Prop)->Prop:=λo i v H Q=>match o,i with
 | .ref p,.int k=>∃h j,H p=Jr (.lst h)/\AO h.9 k=Jr j/\Q (XA H p (.lst (h.set j v)))|.ref p,.str z=>Zg K H p (.str z) v Q|.ref p,.ref b=>Zg K H p (.ref b) v Q|_,_=>False
def Lh(i:Nat)(k:PX):PX:=.mt .setd (.xt i) %[k,.dnew Jt|1]
def Nn(J:It)(g:TG)(v:TS)(D:Ends)(σ:St)(k:Hp):Prop:=∃W:Nat->Nat->St->Hp->Prop,(∃m,W 0 m σ k)/\∀i m σ H,W i m σ H ->
 (J.stop i H/\D.nx σ H)∨(J.go i H/\∃N:St->Hp->Prop,(∀h y,N h y->∃u,u < m/\W (i+1) u h y)/\∀x y,J.yld i H x y->g x σ y λz w=>v { D with nx:=N,ct:=N,bk:=D.nx } z w)
def Jg(K:QE)(xs:List Item)(st:Hp->Prop)(h:Tg)(x:TS)(D:Ends)(σ:St)(H:Hp):Prop:=∀J,Yields J xs st->Nn J (dE K h) x D σ H
def jP(K:QE)(Γ:Ev)(E:XK):PT->TS
 | .nil=>λD h H=>D.nx h H|.seq s r=>λD h H=>jP K Γ E s { D with nx:=λh H=>jP K Γ E r D h H } h H|.set i e=>λD h H=>(wp K Γ e E).e h H λx y=>D.nx (h.set i (Jr x)) y|.own i e=>λD h H=>(wp K Γ e E).e h H λx y=>D.nx (h.set i (Jr x)) y|.expr e=>λD h H=>(wp K Γ e E).e h H λ_ y=>D.nx h y|.ret e=>λD h H=>(wp K Γ e E).e h H D.rt|.ife c a b=>λD h H=>(wp K Γ c E).t h H λk y=>if k=Jt then jP K Γ E a D h y else jP K Γ E b D h y|.for_ l q u z=>λD h H=>(wp K Γ u E).a h H λj y=>rC K q j y λg st w=>Jg K g st l (jP K Γ E z) D h w|.tset p e=>λD h H=>(wp K Γ e E).e h H λx y=>dE K (.tp p) x h y D.nx|.six o i e=>λD h H=>(wp K Γ e E).e h H λv y=>(wp K Γ o E).e h y λm w=>(wp K Γ i E).e h w λn Y=>sP K m n v Y λX=>D.nx h X|.sdf i k=>λD h H=>(wp K Γ (Lh i k) E).e h H λ_ y=>D.nx h y|.whl c z=>bY (wp K Γ c E).t (jP K Γ E z)|.frz _ s=>jP K Γ E s
def iE(G:Glob):PT->Prop
 | .nil=>True|.seq s r=>iE G s/\iE G r|.set _ e=>DA G e|.own _ e=>DA G e|.tset _ e=>DA G e|.six o i e=>DA G o/\DA G i/\DA G e|.sdf i k=>DA G (Lh i k)|.whl c h=>DA G c/\iE G h|.frz _ s=>iE G s|.expr e=>DA G e|.ret e=>DA G e|.ife c a b=>DA G c/\iE G a/\iE G b|.for_ _ y x h=>Yj G y/\DA G x/\iE G h
noncomputable def mF:Expr->Bool
 | .ListComp _ _ _ _ | .SetComp _ _ _ _ | .DictComp _ _ _ _ _=>Ju
 |_=>Jt
noncomputable def yN(S:SC)(i:Nat)(x:Str):Bool:=S.N[i]?==Jr x&&(S.sc.names.lookup x==Jr .local||S.sc.names.lookup x==Jr .cell)
noncomputable def uV:PT->Bool
 | .nil=>Ju|.seq _ _=>Ju|.frz _ s=>uV s|_=>Jt
noncomputable def NP(s:kf)(f:List Expr->Expr->Bool):Bool:=match s with | .Assign h v _=>f h v|_=>Ju
noncomputable def ze(s:kf)(f:Expr->Bool):Bool:=match s with | .Expr v _=>f v|_=>Ju
noncomputable def D9(s:kf)(f:Option Expr->Bool):Bool:=match s with | .Return v _=>f v|_=>Ju
noncomputable def F9(s:kf)(f:Expr->List kf->List kf->Bool):Bool:=match s with | .If t x y _=>f t x y|_=>Ju
noncomputable def G9(s:kf)(f:Expr->Expr->List kf->List kf->Pos->Bool):Bool:=match s with | .For t it x y p=>f t it x y p|_=>Ju
noncomputable def Gi(s:kf)(f:Expr->List kf->List kf->Bool):Bool:=match s with | .While t x y _=>f t x y|_=>Ju
noncomputable def Ni:Expr->Bool
 | .Tuple _ _ _=>Ju|.List _ _=>Ju|_=>Jt
theorem nJ{f:List Expr->Expr->Bool}(h:NP s f=Jt):∃ts v p,s=.Assign ts v p/\f ts v=true:=by
 cases s with|Assign ts v p=>exact#[ts,v,p,rfl,h]|_=>exact(QG h).elim
theorem ZZ{f:Expr->Bool}(h:ze s f=Jt):∃v p,s=.Expr v p/\f v=true:=by
 cases s with|Expr v p=>exact#[v,p,rfl,h]|_=>exact(QG h).elim
theorem z7{f:Option Expr->Bool}(h:D9 s f=Jt):∃v p,s=.Return v p/\f v=true:=by
 cases s with|Return v p=>exact#[v,p,rfl,h]|_=>exact(QG h).elim
theorem k7(h:F9 s f=Jt):∃t x y p,s=.If t x y p/\f t x y=true:=by
 cases s with|If t x y p=>exact#[t,x,y,p,rfl,h]|_=>exact(QG h).elim
theorem v7{f:Expr->Expr->List kf->List kf->Pos->Bool}(h:G9 s f=Jt):∃t it x y p,s=.For t it x y p/\f t it x y p=true:=by
 cases s with|For t it x y p=>exact#[t,it,x,y,p,rfl,h]|_=>exact(QG h).elim
theorem Ed(h:Gi s f=Jt):∃t x y p,s=.While t x y p/\f t x y=true:=by
 cases s with|While t x y p=>exact#[t,x,y,p,rfl,h]|_=>exact(QG h).elim
def setB(S:SC)(i:Nat)(c:Expr->Bool)(l:List kf):Bool:=oJ l λst=>NP st λh v=>oJ h λt=>DG t λx _=>yN S i x&&((mF v||S.sc.names.lookup x==Jr .cell)&&c v)
def ya:PX->Bool
 | .comp _ _ _ _ _ _ _=>Jt|_=>Ju
def uU(S:SC)(i:Nat)(e:PX)(l:List kf):Bool:=oJ l λst=>NP st λy v=>oJ y λt=>DG t λx z=>ye v λw u sc h=>Be S i x&&(S.sc.kind==.function&&(z.line==h.line&&(!(sc.names.any λ(n,k)=>n==x&&(k==.local||k==.cell))&&(ya e&&JB e S (.ListComp w u sc h)))))
def nO:PT->SC->List kf->Bool
 | .nil,_,l=>l.isEmpty|.seq s r,S,l=>b7 l λst l=>uV s&&(nO s S [st]&&nO r S l)|.set i e,S,l=>setB S i (JB e S) l||uU S i e l
 | .own i e,S,l=>setB S i (JB e S) l||uU S i e l
 | .frz _ s,S,l=>nO s S l|.expr e,S,l=>oJ l λst=>ze st λv=>mF v&&JB e S v|.ret e,S,l=>oJ l λst=>D9 st λv=>Hi v Ju (JB e S)|.ife c a b,S,l=>oJ l λst=>F9 st λt x y=>JB c S t&&(nO a S x&&nO b S y)|.for_ tg ik its body,S,l=>oJ l λst=>G9 st λt it x y z=>y.isEmpty&&(Zl Jt S tg t&&(zQ it&&(Xl (BE its) S ik (λg p=>JB its S (.List g p)) t it z&&nO body S x)))|.tset is e,S,l=>oJ l λst=>NP st λh v=>oJ h λt=>Ni v&&(mF v&&(TN t&&(Zl Jt S (.tp is) t&&JB e S v)))|.six o i e,S,l=>oJ l λst=>NP st λh v=>oJ h λt=>DU t λw u _=>CN u&&(mF v&&(JB e S v&&(JB o S w&&JB i S u)))|.sdf i k,S,l=>oJ l λst=>ze st λv=>mF v&&JB (Lh i k) S v|.whl c body,S,l=>oJ l λst=>Gi st λt x y=>y.isEmpty&&(JB c S t&&nO body S x)
structure OkS(X:Cx)(S:SC)(G:Glob)(E:XK):Prop extends OkX X S G E where
 po:Gv (js X.prog X.w) X.A X.env X.xe
 nd:X.N.Nodup
 cel:∀x,X.fn x=Jt
end
section
variable{X:Cx}{S:SC}{G:Glob}{E:XK}
section
variable{i:Nat}{x:Str}{e:PX}
theorem sK{e:Expr}{t:Option Expr}{n:Nat}{env:Env}(h:mF e=Jt):v2 e t n env=hT false:=by cases e<;>first|rfl|cases h
theorem iY(n:X.A.units+66<kx):k9 X (sP X.K):=by
 intro y s w H o i v l m u Q I f g a h;cases o with
 |ref p =>
  cases i with|int k=>let#[r,j,Z,Y,q]:=h;exact YY y s w H _ _ v l m u Q I f g a #[p,r,k,j,rfl,rfl,Z,Y,q]|str z=>exact rP n y s w H _ _ v l m u Q I f g a h|ref b=>exact rP n y s w H _ _ v l m u Q I f g a h|_=>exact Qj h
 |_=>exact Qj h
theorem TV(ok:OkX X S G E)(h:yN S i x=Jt):X.N[i]?=Jr x/\Fg X.env.scope x:=by simp only[yN,Qe,wj,beq_iff_eq]at h;rw[ok.N,ok.sc];exact#[h.1,h.2]
theorem dW(ok:OkS X S G E){v:Expr}{w pos:Pos}(j:yN S i x=Jt)(a:(mF v||S.sc.names.lookup x==Jr .cell)=Jt)(pe:PE X v (wp X.K G.ev e E).e) :
  PS X (.Assign [.Name x w] v pos) (jP X.K G.ev E (.set i e)):=by
 let#[m,l]:=TV ok.toOkX j;refine zd (pos':=w) ok.nd m l pe ?_ (.inl (ok.cel x));cases u:mF v with
 |true=>exact sK u|false =>
  rw[u,QBr,beq_iff_eq,<- ok.sc]at a;have hk:X.env.kindOf x=Jr .cell:=a;have h:∀(b c:Bool) (z y:Nat),(hT (b&&X.env.kindOf x==Jr .local&&z==y&&!c):Sem Bool)=hT false:=λb c z y=>by
   rw[hk];have:(b&&(Jr NameKind.cell==Jr NameKind.local)&&z==y&&!c)=false:=by cases b<;>rfl
   rw[this]
  cases v with|ListComp n f sc g=>exact h _ _ _ _|SetComp n f sc g=>exact h _ _ _ _|DictComp k v f sc g=>exact h _ _ _ _|_=>cases u
theorem u8(h:ya e=Jt):∃a b c d f g k,e=.comp a b c d f g k:=by
 cases e with|comp a b c d f g k=>exact#[a,b,c,d,f,g,k,rfl]|_=>exact(QG h).elim
theorem Jd(ok:OkS X S G E){l:List kf}(h:uU S i e l=Jt)(nd:DA G e):∃st,l=[st]/\PS X st (jP X.K G.ev E (.set i e)):=by
 let#[st,e1,q1]:=aB h;let#[ts,v,p,e2,q2]:=nJ q1;let#[t,e3,q3]:=aB q2;let#[x,px,e4,q4]:=ID q3;let#[el,gs,sc,cp,e5,q5]:=dS q4;subst e1 e2 e3 e4 e5;have L:=yA q5;have J:=yA L.2;have I:=yA J.2;have F:=yA I.2;have B:=yA F.2;let#[u,a,tg,ik,o,y,j,rfl]:=u8 B.1;refine#[_,rfl,?_];have h6:=B.2;let#[el',O,m,pos,ee,g]:=dS h6;cases ee;let#[#[t,it,Y,Z],rfl,g]:=aB g;have g0:=yA g;have M:=yA g0.2;have g1:=yA M.2;have g2:=yA g1.2;have g3:=yA g2.2;have R:=yA g3.2;have P:=yA R.2;have ea:Z=0:=wE g0.1;cases ea;have C:CompSt X.N X.env.scope sc a u:=by rw[ok.N,ok.sc];exact HQ g1.1
 let#[n1,n2,n3,n4]:=nd;let#[l1,l2]:=S7 L.1;have b:X.env.scope.names.lookup x=Jr .local:=by rw[ok.sc];exact l2
 refine i6 (g:=dE X.K tg) (tc:=if isNop y=Jt then λ_ H Q=>Q Jt H else(wp X.K G.ev y (λ_ _ _=>False)).t) (te:=(wp X.K G.ev j (λ_ _ _=>False)).e) ok.calm ok.nd (by rw[ok.N];exact l1) b (xS ok.toOkX (pos:=cp) R.1 n1 ((Q4 _).mp M.1) λes p q=>snd o ok.toOkX q n2) C (λs H ex=>?_) (λx=>sS g3.1 x) ?_;have w:=ok.toOkX.comp sc a u s H ex;refine#[KU w (λz=>(QG z).elim) C.nd g2.1,?_,(snd j w P.2 n4).pe];have f:=P.1;cases Y with|nil=>have e:isNop y=true:=f;simp only[e,if_true];exact ZU|cons c r=>have A:=yA f;have W:=yA A.2;cases Q7.mp A.1;have e:isNop y=false:=(Q4 _).mp W.1;simp only[e,qF,if_false];exact YU (snd y w W.2 n3).pt
 have k1:X.env.scope.kind=.function:=by rw[ok.sc];exact wE J.1
 have k2:(X.env.blockKind==.function)=true:=by simp[Env.blockKind,k1,ScopeKind.isAnnotationScope]
 have k3:(X.env.kindOf x==Jr .local)=true:=by show(X.env.scope.names.lookup x==Jr .local)=Jt;rw[b];rfl
 show(hT (X.env.blockKind==.function&&X.env.kindOf x==Jr .local&&px.line==cp.line&&!(sc.names.any λ(n,k)=>n==x&&(k==.local||k==.cell))):Sem Bool)=hT Jt;rw[k2,k3,I.1,F.1];rfl
theorem im:∀(p:PT) {l:List kf},OkS X S G E->nO p S l=Jt->iE G p->VT X l (jP X.K G.ev E p)/\(uV p=Jt->∀st,l=[st]->PS X st (jP X.K G.ev E p)):=by
 intro p;have one:∀{p:PT}{st:kf},PS X st (jP X.K G.ev E p)->VT X [st] (jP X.K G.ev E p)/\(uV p=Jt->∀j,[st]=[j]->PS X j (jP X.K G.ev E p)):=λh=>#[t6 h,λ_ j e=>by cases e;exact h]
 have f:∀{i:Nat}{e:PX}{l:List kf},OkS X S G E->(setB S i (JB e S) l||uU S i e l)=Jt->DA G e->∃st,l=[st]/\PS X st (jP X.K G.ev E (.set i e)):=λ{i e l} ok h nd=>by
  rcases(wj _ _).mp h with h|h
  rotate_left
  exact Jd ok h nd;let#[st,B,n]:=aB h;let#[P,v,p,A,m]:=nJ n;let#[t,W,q3]:=aB m;let#[x,px,O,F]:=ID q3;subst B A W O;have z:=yA F;have u:=yA z.2;exact#[_,rfl,dW ok z.1 u.1 (snd e ok.toOkX u.2 nd).pe]
 induction p with
 |nil=>intro l ok h nd;cases Q7.mp h;exact#[e6,λh=>(QG h).elim]|seq s r J L=>intro l ok h nd;let#[st,l,rfl,h]:=LI h;have z:=yA h;have u:=yA z.2;exact#[SY ((J ok u.1 nd.1).2 z.1 st rfl) (L ok u.2 nd.2).1,λh=>(QG h).elim]|set i e=>intro l ok h nd;let#[st,rfl,q]:=f ok h nd;exact one q|own i e=>intro l ok h nd;let#[st,rfl,q]:=f ok h nd;exact one q|expr e=>intro l ok h nd;let#[st,rfl,h]:=aB h;let#[v,p,rfl,h]:=ZZ h;have z:=yA h;exact one (tU (snd e ok.toOkX z.2 nd).pe (sK z.1))|ret e =>
  intro l ok h nd;let#[st,rfl,h]:=aB h;let#[v,p,rfl,h]:=z7 h;cases v with|none=>exact(QG h).elim|some v=>exact one (vd (snd e ok.toOkX h nd).pe)
 |ife c a b N M=>intro l ok h nd;let#[st,rfl,h]:=aB h;let#[t,x,y,p,rfl,h]:=k7 h;have z:=yA h;have u:=yA z.2;exact one (Yi (snd c ok.toOkX z.1 nd.1).pt (N ok u.1 nd.2.1).1 (M ok u.2 nd.2.2).1)|for_ tg ik I C Y=>intro l ok h nd;let#[st,rfl,h]:=aB h;let#[t,it,x,y,p,rfl,h]:=v7 h;have h0:=yA h;have z:=yA h0.2;have u:=yA z.2;have g:=yA u.2;cases Q7.mp h0.1;exact one (ud ok.po ok.calm (X6 ok.toOkX g.1 nd.1 λH p q=>snd I ok.toOkX q nd.2.1) (KU ok.toOkX (λ_=>ok.cel) ok.nd z.1) (Y ok g.2 nd.2.2).1 λx=>sS u.1 x)|tset is e =>
  intro l ok h nd;let#[st,B,n]:=aB h;let#[P,v,p,A,m]:=nJ n;let#[t,W,h]:=aB m;subst B A W;have z:=yA h;have u:=yA z.2;have g:=yA u.2;have Z:=yA g.2;cases t with
  |Tuple H k pt =>
   refine one (EY (snd e ok.toOkX Z.2 nd).pe (KU ok.toOkX (λ_=>ok.cel) ok.nd Z.1) ?_ ?_ ?_);show v2 v (Jr (.Tuple H k pt)) p.line X.env=hT Ju;exact sK u.1;cases v<;>first|rfl|exact(QG z.1).elim
   rfl
  |_=>exact(QG g.1).elim
 |six o i e =>
  intro l ok h nd;let#[st,B,n]:=aB h;let#[P,v,p,A,m]:=nJ n;let#[t,W,h]:=aB m;subst B A W;let#[ov,R,Q,O,F]:=YN h;subst O;have z:=yA F;have u:=yA z.2;have g:=yA u.2;have Z:=yA g.2;refine one (EY (snd e ok.toOkX g.1 nd.2.2).pe (Xd (pos:=Q) (snd o ok.toOkX Z.1 nd.1).pe (snd i ok.toOkX Z.2 nd.2.1).pe (iY ok.un) ?_) ?_ ?_ ?_);intro w;cases R<;>first|rfl|exact(QG z.1).elim
  show v2 v (Jr (.Subscript ov R Q)) p.line X.env=hT Ju;exact sK u.1;cases v<;>rfl;rfl
 |sdf i k=>intro l ok h nd;let#[st,rfl,h]:=aB h;let#[v,p,rfl,h]:=ZZ h;have z:=yA h;exact one (tU (snd (Lh i k) ok.toOkX z.2 nd).pe (sK z.1))|whl c C Y=>intro l ok h nd;let#[st,rfl,h]:=aB h;let#[t,x,y,p,rfl,h]:=Ed h;have z:=yA h;have u:=yA z.2;cases Q7.mp z.1;exact one (TY ok.po (snd c ok.toOkX u.1 nd.1).pt (Y ok u.2 nd.2).1)|frz is s Y=>intro l ok h nd;exact Y ok h nd
end
end
noncomputable abbrev D:=Ks
set_option genInjectivity true in
inductive T where
 |d (x:D)|lst (ts:List T)|tup (ts:List T)|dct (b:Bool) (ks:List D) (ts:List T)
abbrev LT:=List T
mutual
def T.er:T->D
 | .d x=>x|.lst h=>.list (ersT h)|.tup h=>.tuple (ersT h)|.dct _ y h=>.dict (y.zip (ersT h))
def ersT:LT->List D
 |[]=>[]|t::r=>t.er::ersT r
end
theorem KA(ds:List D):ersT (ds.map T.d)=ds:=by
 induction ds with|nil=>rfl|cons d r h=>simp only[QU,ersT,h,T.er]
theorem u3:∀(ts:LT),(ersT ts).9=ts.9
 |[]=>rfl|t::r=>by simp only[ersT,QL,u3 r]
theorem bO:∀(ts:LT),ersT ts=ts.map T.er
 |[]=>rfl|t::r=>by simp only[ersT,QU,bO r]
def T.isD:T->Bool
 | .d _=>Jt|_=>Ju
set_option genInjectivity true in
inductive Sl where
 |own (t:T)|kw (t:T)
noncomputable abbrev kA:=List (Option Sl)
abbrev bD(x:D):Option Sl:=Jr (.kw (.d x))
abbrev oW(t:T):Option Sl:=Jr (.own t)
def rG(t:T)(n:Bool):Bool:=n||t.isD
def vA(t:T):Bool->T
 |true=>.d t.er|false=>t
theorem fA(x:D)(n:Bool):vA (.d x) n=.d x:=by cases n<;>rfl
theorem mV(t:T)(n:Bool):(vA t n).er=t.er:=by cases n<;>rfl
noncomputable def HD:LT->Option (List D)
 |[]=>Jr []|.d x::r=>(HD r).map (x::·)|_::_=>Js
theorem oA(ds:List D):HD (ds.map T.d)=Jr ds:=by
 induction ds with|nil=>rfl|cons d r h=>simp only[QU,HD,h,qO]
theorem FJ:∀{ts:LT}{ds:List D},HD ts=Jr ds->ts=ds.map T.d
 |[],ds,h=>by simp only[HD,Qu]at h;subst h;rfl|.d x::r,ds,h=>by
  simp only[HD]at h;cases e:HD r with|none=>rw[e]at h;cases h|some y=>rw[e]at h;cases h;rw[QU,FJ e]
 | .lst _::_,_,h=>by simp[HD]at h|.tup _::_,_,h=>by simp[HD]at h|.dct _ _ _::_,_,h=>by simp[HD]at h
noncomputable def RC:List (D×D)->Option Bool
 | (.tuple _,_)::_=>Jr Jt|(.str _,_)::_=>Jr Ju|_=>Js
def vF:Bool->D->Prop
 |true,k=>∃q,k=tD q|false,k=>∃z,k=.str z
open Classical in
noncomputable def dA:List D->D->Option Nat
 |[],_=>Js|x::r,k=>if x=k then Jr 0 else(dA r k).map (·+1)
def yS(b:Bool)(ks:List D)(ts:LT)(k:D)(t:T):T:=match dA ks k with
 |some n=>.dct b ks (ts.set n t)|none=>.dct b (ks++[k]) (ts++[t])
theorem bE:∀{ks:List D}{k:D}{n:Nat},dA ks k=Jr n->ks[n]?=Jr k
 |[],_,_,h=>by cases h|x::r,k,n,h=>by
  unfold dA at h;by_cases e:x=k;rw[hQ e]at h;cases h;rw[e];rfl;rw[hI e]at h;cases q:dA r k with|none=>rw[q]at h;cases h|some m=>rw[q]at h;cases h;simpa using bE q
theorem aC:∀{ks:List D}{k:D},dA ks k=Js↔k∉ks
 |[],_=>by simp[dA]|x::r,k=>by unfold dA;by_cases e:x=k;simp[e];rw[hI e,Option.map_eq_none_iff,aC];simp[qC e]
theorem ES{ks:List D}{k:D}:(dA ks k).isSome=Jt↔k∈ks:=by
 cases h:dA ks k with|none=>simp[aC.mp h]|some n=>simp[Qq (bE h)]
set_option genInjectivity true in
inductive Vw where
 |sc (x:D)|ls (ts:LT)|tp (ts:LT)|dc (b:Bool) (ks:List D) (ts:LT)
def KB(kvs:List (D×D)):Vw:=match RC kvs with
 |some b=>.dc b (kvs.map (·.1)) (kvs.map λp=>T.d p.2)|none=>.sc (.dict kvs)
def T.vw:T->Vw
 | .lst h=>.ls h|.tup h=>.tp h|.dct b u h=>.dc b u h|.d x=>match x with
  | .list z=>.ls (z.map T.d)|.tuple z=>.tp (z.map T.d)|.dict y=>KB y|.none=>.sc .none|.bool b=>.sc (.bool b)|.int i=>.sc (.int i)|.str s=>.sc (.str s)
def sF(ts:LT):T:=match HD ts with
 |some h=>.d (.tuple h)|none=>.tup ts
noncomputable abbrev XD:=Jw×List (Str×D)
noncomputable abbrev XE:=XD->Prop
noncomputable abbrev TK:=T->Bool->kA->Prop
inductive Md where
 |ky|kz|kw|chg
 deriving DecidableEq
structure PSp where
 md:List Md:=[]
 run:LT->(T->LT->Prop)->XE->Prop
 mono:∀{ts:LT}{Q Q':T->LT->Prop}{E E':XE},(∀t os,Q t os->Q' t os)->(∀x,E x->E' x)->run ts Q E->run ts Q' E':=by intro _ _ _ _ _ h _ z;(repeat let#[y,z]:=z;refine#[y,?_]);first|exact h _ _ z|(intros;apply h;apply z<;>assumption)
structure PEv where
 sp:Str->PSp
 va:Str->Option D
def binT(w:Vy)(x y:Vw)(Q:T->Bool->Prop):Prop:=match w with
 | .Add=>(∃i j,x=.sc (.int i)/\y=.sc (.int j)/\Q (.d (.int (i+j))) Ju)∨(∃a b,x=.sc (.str a)/\y=.sc (.str b)/\a.9+b.9<=jz/\Q (.d (.str (a++b))) Ju) ∨
  (∃v u z h,x=.ls v/\y=.ls u/\HD v=Jr z/\HD u=Jr h/\z.9+h.9<=jz/\Q (.lst ((z++h).map T.d)) Jt) ∨
  (∃v u z h,x=.tp v/\y=.tp u/\HD v=Jr z/\HD u=Jr h/\z≠[]/\h≠[]/\z.9+h.9<=jz/\Q (.d (.tuple (z++h))) Ju)
 | .Sub=>∃i j,x=.sc (.int i)/\y=.sc (.int j)/\Q (.d (.int (i - j))) Ju|.Mult=>(∃i j,x=.sc (.int i)/\y=.sc (.int j)/\Yy i j/\Q (.d (.int (i * j))) Ju)∨(∃a k,x=.sc (.str a)/\y=.sc (.int k)/\(-(2 ^ 31)<=k/\k<2 ^ 31/\a.9 * k.toNat<=jz)/\Q (.d (.str (hG a k))) Ju)|.FloorDiv=>∃i j,x=.sc (.int i)/\y=.sc (.int j)/\(0<j/\j<2 ^ 200)/\Q (.d (.int (i / j))) Ju|.Mod=>∃i j,x=.sc (.int i)/\y=.sc (.int j)/\0<j/\Q (.d (.int (i % j))) Ju|_=>False
section
variable{Q:T->Bool->Prop}
theorem yg(i j:Int):binT .Add (.sc (.int i)) (.sc (.int j)) Q=Q (.d (.int (i+j))) false:=by simp[binT]
theorem jg(xs h:LT):binT .Add (.ls xs) (.ls h) Q=∃ds es,HD xs=Jr ds/\HD h=Jr es/\ds.9+es.9<=jz/\Q (.lst ((ds++es).map T.d)) true:=by simp[binT]
theorem Ef(i j:Int):binT .Sub (.sc (.int i)) (.sc (.int j)) Q=Q (.d (.int (i - j))) false:=by simp[binT]
theorem Af(i j:Int):binT .Mult (.sc (.int i)) (.sc (.int j)) Q=(Yy i j/\Q (.d (.int (i * j))) Ju):=by simp[binT]
theorem Tf(a:Str)(k:Int):binT .Mult (.sc (.str a)) (.sc (.int k)) Q=((-(2 ^ 31)<=k/\k<2 ^ 31/\a.9 * k.toNat<=jz)/\Q (.d (.str (hG a k))) Ju):=by simp[binT]
theorem Sf(i j:Int):binT .FloorDiv (.sc (.int i)) (.sc (.int j)) Q=((0<j/\j<2 ^ 200)/\Q (.d (.int (i / j))) Ju):=by simp[binT]
theorem Rf(i j:Int):binT .Mod (.sc (.int i)) (.sc (.int j)) Q=(0<j/\Q (.d (.int (i % j))) Ju):=by simp[binT]
end
section
variable{Q:T->Prop}
def Fl:D->D->(Bool->Prop)->Prop
 | .int i,.int j,Q=>Q (decide (i=j))|.str x,.str y,Q=>Q (decide (x=y))|.bool x,.bool y,Q=>Q (decide (x=y))|a,b,Q=>UD a/\UD b/\Q (qE a b)
noncomputable def FA:D->Bool
 | .none | .bool _ | .int _ | .str _=>Jt
 |_=>Ju
def Ul:D->D->(Bool->Prop)->Prop
 | .str x,.str y,Q=>Q (inStr y x)|a,.list ds,Q|a,.tuple ds,Q=>((FA a=Jt/\ds.all FA=Jt)∨(UD a/\UD (.list ds)))/\Q (ds.any λy=>qE y a)
 |a,.dict kvs,Q=>∃b,RC kvs=Jr b/\vF b a/\Q (dA (kvs.map (·.1)) a).isSome|_,_,_=>False
def mW(f:Int->Int->Bool):D->D->(Bool->Prop)->Prop
 | .int i,.int j,Q=>Q (f i j)|_,_,_=>False
def gn(a b:D)(Q:Bool->Prop):Prop:=∃x y,a=.bool x/\b=.bool y/\Q (decide (x=y))
def uT:vt->D->D->(Bool->Prop)->Prop
 | .Eq,a,b,Q=>Fl a b Q|.NotEq,a,b,Q=>Fl a b λk=>Q (!k)|.Lt,a,b,Q=>mW (λi j=>decide (i<j)) a b Q|.LtE,a,b,Q=>mW (λi j=>decide (i<=j)) a b Q|.Gt,a,b,Q=>mW (λi j=>decide (j<i)) a b Q|.GtE,a,b,Q=>mW (λi j=>decide (j<=i)) a b Q|.In,a,b,Q=>Ul a b Q|.NotIn,a,b,Q=>Ul a b λk=>Q (!k)|.Is,a,b,Q=>gn a b Q|_,_,_,_=>False
def G8(h:vt)(x:D)(y:T)(Q:Bool->Prop):Prop:=match y with
 | .dct b u _=>vF b x/\((h=.In/\Q (dA u x).isSome)∨(h=.NotIn/\Q (!(dA u x).isSome)))|.d y=>uT h x y Q|.lst z=>uT h x (.list (ersT z)) Q|.tup z=>uT h x (.tuple (ersT z)) Q
def vH:D->(Bool->Prop)->Prop
 | .bool b,Q=>Q b|.int i,Q=>Q (i != 0)|.none,Q=>Q Ju|.str z,Q=>z.9<=jz/\Q ((z.9:Int) != 0)|.list ds,Q=>Q (!ds.isEmpty)|.tuple ds,Q=>Q (!ds.isEmpty)|_,_=>False
def Cg:D->(Bool->Prop)->Prop
 | .bool b,Q=>Q b|_,_=>False
def dO(x:Vw)(k:D)(Q:T->Prop):Prop:=∃b y h n t,x=.dc b y h/\vF b k/\dA y k=Jr n/\h[n]?=Jr t/\Q t
def GK(x y:Vw)(Q:T->Prop):Prop:=(∃z i c,x=.sc (.str z)/\y=.sc (.int i)/\z.9<=jz/\pE z.cps.toList i=Jr c/\Q (.d (.str #[(Wb [c])]))) ∨
 (∃h i t,x=.ls h/\y=.sc (.int i)/\pE h i=Jr t/\Q t)∨(∃h i t,x=.tp h/\y=.sc (.int i)/\pE h i=Jr t/\Q t)
theorem xf(z:Str)(i:Int):GK (.sc (.str z)) (.sc (.int i)) Q=(z.9<=jz/\∃c,pE z.cps.toList i=Jr c/\Q (.d (.str #[(Wb [c])]))):=by simp[GK]
theorem U2(ts:LT)(i:Int):GK (.ls ts) (.sc (.int i)) Q=∃t,pE ts i=Jr t/\Q t:=by simp[GK]
theorem zf(ts:LT)(i:Int):GK (.tp ts) (.sc (.int i)) Q=∃t,pE ts i=Jr t/\Q t:=by simp[GK]
noncomputable def nD{α:Type}(xs:List α)(h x:Option Int):List α:=(xs.drop (HT.sIx xs.9 0 h)).take (HT.sIx xs.9 xs.9 x - HT.sIx xs.9 0 h)
def XG(x:Vw)(u v:Option Int)(Q:T->Bool->Prop):Prop:=(∃z,x=.sc (.str z)/\z.9<=jz/\Q (.d (.str (QEH z u v))) Ju)∨(∃y h,x=.ls y/\HD y=Jr h/\Q (.lst ((nD h u v).map T.d)) Jt) ∨
 (∃y h,x=.tp y/\HD y=Jr h/\¬ (HT.sIx h.9 0 u=0/\HT.sIx h.9 h.9 v=h.9)/\Q (.d (.tuple (nD h u v))) Ju)
end
section
variable{Q:T->Bool->Prop}{h x:Option Int}
theorem tY(ts:LT):XG (.ls ts) h x Q=∃ds,HD ts=Jr ds/\Q (.lst ((nD ds h x).map T.d)) true:=by simp[XG]
end
def YD:D->(Option Int->Prop)->Prop
 | .int i,Q=>Q (Jr i)|_,_=>False
noncomputable def isD(n:String):D->Option Bool
 | .none=>Jr Ju|.bool _=>Jr (n == "bool" || n == "int")
 | .int _=>Jr (n == "int")|.str _=>Jr (n == "str")|.list _=>Jr (n == "list")|.tuple _=>Jr (n == "tuple")|.dict _=>Js
noncomputable def xV(n:String):Bool:=n == "bool" || n == "int" || n == "str" || n == "list" || n == "tuple" || n == "ValueError"
def uD(l:LS):D:=.list (l.map Jx)
def tX(f:Bi)(vs:List Vw)(Q:T->Bool->Prop):Prop:=match f with
 | .len=>(∃z,vs=[.sc (.str z)]/\z.9<=jz/\Q (.d (.int z.9)) Ju)∨(∃h,vs=[.ls h]/\Q (.d (.int h.9)) Ju)∨(∃h,vs=[.tp h]/\Q (.d (.int h.9)) Ju)|.all=>∃h,∃bs:List Bool,vs=[.ls h]/\HD h=Jr (bs.map PyData.bool)/\Q (.d (.bool (bs.all id))) Ju|.any=>∃h,∃bs:List Bool,vs=[.ls h]/\HD h=Jr (bs.map PyData.bool)/\Q (.d (.bool (bs.any id))) Ju|.list=>∃h u,vs=[.ls h]/\HD h=Jr u/\Q (.lst (u.map T.d)) Jt|.tuple=>∃h u,vs=[.ls h]/\HD h=Jr u/\Q (.d (.tuple u)) Ju|.max=>∃i j,vs=[.sc (.int i),.sc (.int j)]/\Q (.d (.int (if j > i then j else i))) Ju|.sorted=>(∃h,∃v:LS,vs=[.ls h]/\HD h=Jr (v.map Jx)/\v.9<64/\∀x:LS,x.Perm v->gu x=Jt->Q (.lst ((x.map Jx).map T.d)) Jt) ∨
  (∃h,∃ls:List (LS),vs=[.ls h]/\HD h=Jr (ls.map uD)/\ls.9<64/\∀y:List (LS),y.Perm ls->Q (.lst ((y.map uD).map T.d)) Jt)
section
variable{Q:T->Bool->Prop}
theorem Ga(ts:LT):tX .len [.ls ts] Q=Q (.d (.int ts.9)) false:=by simp[tX]
theorem uk(ts:LT):tX .any [.ls ts] Q=∃bs:List Bool,HD ts=Jr (bs.map PyData.bool)/\Q (.d (.bool (bs.any id))) false:=by simp[tX]
theorem zk(ts:LT):tX .tuple [.ls ts] Q=∃ds,HD ts=Jr ds/\Q (.d (.tuple ds)) false:=by simp[tX]
theorem kg(i j:Int):tX .max [.sc (.int i),.sc (.int j)] Q=Q (.d (.int (if j > i then j else i))) false:=h8 #[λ#[_,_,e,h]=>by cases e;exact h,λh=>#[_,_,rfl,h]]
theorem vk(ts:LT):tX .list [.ls ts] Q=∃ds,HD ts=Jr ds/\Q (.lst (ds.map T.d)) true:=by simp[tX]
end
def A9(x:Vw)(Q:T->Bool->Prop):Prop:=∃z,∃y:LS,x=.ls z/\HD z=Jr (y.map Jx)/\y.9<4000/\∀h:LS,h.Nodup->(∀s,s∈h↔s∈y)->Q (.d (.int h.9)) Ju
def tpS(r:LS):D:=.tuple (r.map Jx)
def Xh(x:Vw)(Q:T->Bool->Prop):Prop:=∃z,∃y:LS,x=.ls z/\HD z=Jr (y.map Jx)/\y.9<64/\∀h:LS,h.Nodup->(∀s,s∈h↔s∈y)->gu h=Jt->Q (.lst ((h.map Jx).map T.d)) Jt
def MJ(x:Vw)(Q:T->Bool->Prop):Prop:=Xh x Q∨∃u,∃y:List (LS),x=.ls u/\HD u=Jr (y.map tpS)/\(y.9<306/\∀r∈y,r≠[])/\∀h:List (LS),h.Nodup->(∀z,z∈h↔z∈y)->h.9<64/\Q (.lst ((h.map tpS).map T.d)) Jt
def Xg(m:Mt)(x:Vw)(vs:List Vw)(Q:T->Bool->Prop):Prop:=match m with
 | .join=>∃z y,∃h:LS,x=.sc (.str z)/\vs=[.ls y]/\HD y=Jr (h.map Jx)/\(h.map (·.length)).sum+h.9 * z.9<=16777216/\Q (.d (.str (QA9 z h))) Ju|_=>False
theorem zj{Q:T->Bool->Prop}(z:Str)(ts:LT):Xg .join (.sc (.str z)) [.ls ts] Q=∃h:LS,HD ts=Jr (h.map Jx)/\(h.map (·.length)).sum+h.9 * z.9<=16777216/\Q (.d (.str (QA9 z h))) false:=by simp[Xg]
def Vw.isS:Vw->Bool
 | .sc (.str _)=>Jt|_=>Ju
noncomputable def isMut:Mt->Bool
 | .append=>Jt|.pop=>Jt|.setd=>Jt|.reverse=>Jt|.join=>Ju
def YS(m:Mt)(x:Vw):Bool:=x.isS&&!isMut m
def JK(m:Mt)(s:T)(us:LT)(N:T->T->Prop):Prop:=match m with
 | .append=>∃h t,s=.lst h/\us=[t]/\h.9<jz/\N (.d .none) (.lst (h++[t]))|.pop=>∃h i k t,s=.lst h/\us=[.d (.int i)]/\AO h.9 i=Jr k/\h[k]?=Jr t/\N t (.lst (h.eraseIdx k))|.reverse=>∃x:List D,s=.lst (x.map T.d)/\us=[]/\N (.d .none) (.lst (x.reverse.map T.d))|_=>False
theorem N0{N:T->T->Prop}(ts:LT)(t:T):JK .append (.lst ts) [t] N=(ts.9<jz/\N (.d .none) (.lst (ts++[t]))):=by simp[JK]
theorem L0{N:T->T->Prop}(ts:LT)(i:Int):JK .pop (.lst ts) [.d (.int i)] N=∃k t,AO ts.9 i=Jr k/\ts[k]?=Jr t/\N t (.lst (ts.eraseIdx k)):=by simp[JK]
noncomputable def BS:Mt->Bool
 | .append=>Jt|.pop=>Jt|.setd=>Ju|.reverse=>Jt|.join=>Ju
def KH(m:Mt):T->Bool
 | .lst _=>BS m|_=>Ju
noncomputable def Vw.seq:Vw->Option (LT)
 | .ls h=>Jr h|.tp h=>Jr h|_=>Js
def BB(v:ItK)(vs:List Vw)(R:LT->Prop):Prop:=match v with
 | .val=>(∃z,vs=[.sc (.str z)]/\R (z.cps.toList.map λc=>.d (.str #[(Wb [c])])))∨(∃h,vs=[.ls h]/\R h)∨(∃h,vs=[.tp h]/\R h)∨(∃y h,vs=[.dc Jt y h]/\R (y.map T.d))|.rng1=>∃j,vs=[.sc (.int j)]/\(-(2 ^ 62)<=j/\j<2 ^ 62)/\R ((Qm j.toNat).map λ(i:Nat)=>.d (.int (i:Int)))|.enum=>∃x h u,vs=[x]/\x.seq=Jr h/\HD h=Jr u/\R (u.zipIdx.map λp=>.d (.tuple [.int (p.2:Int),p.1]))|.itm=>(∃y h u,vs=[.dc Jt y h]/\HD h=Jr u/\R ((y.zip u).map λp=>.d (.tuple [p.1,p.2])))∨(vs=[.sc (.dict [])]/\R [])
section
variable{R:LT->Prop}
theorem CK(ts:LT):BB .val [.ls ts] R=R ts:=by simp[BB]
theorem A1(ts:LT):BB .val [.tp ts] R=R ts:=by simp[BB]
theorem T1(j:Int):BB .rng1 [.sc (.int j)] R=((-(2 ^ 62)<=j/\j<2 ^ 62)/\R ((Qm j.toNat).map λ(i:Nat)=>.d (.int (i:Int)))):=by simp[BB]
theorem aQ(x:Vw):BB .enum [x] R=∃ts ds,x.seq=Jr ts/\HD ts=Jr ds/\R (ds.zipIdx.map λp=>.d (.tuple [.int (p.2:Int),p.1])):=by apply h8;constructor;rintro⟨_,ts,ds,⟨⟩,h⟩;exact#[ts,ds,h];rintro⟨ts,ds,h⟩;exact#[_,ts,ds,rfl,h]
theorem tQ(ks:List D)(ts:LT):BB .itm [.dc Jt ks ts] R=∃ds,HD ts=Jr ds/\R ((ks.zip ds).map λp=>.d (.tuple [p.1,p.2])):=by apply h8;constructor;rintro(⟨_,_,ds,⟨⟩,h⟩| ⟨⟨⟩,_⟩);exact#[ds,h];rintro⟨ds,h⟩;exact .inl #[_,_,ds,rfl,h]
theorem sQ(ks:List D)(ts:LT):BB .val [.dc Jt ks ts] R=R (ks.map T.d):=by simp[BB]
theorem O1:BB .itm [.sc (.dict [])] R=R []:=by apply h8;constructor;rintro(⟨_,_,x,⟨⟩,h⟩| ⟨_,h⟩);exact h;exact λh=>.inr #[rfl,h]
end
section
variable{K:QE}{H w:Hp}{vs:LV}{ds:List D}
noncomputable def oB:LN->LT->kA->Option kA
 |[],[],ρ=>Jr ρ|i::is,t::ts,ρ=>oB is ts (ρ.set i (Jr (.kw t)))|_,_,_=>Js
def II:Tg->T->kA->(kA->Prop)->Prop
 | .nm i,t,ρ,Q=>Q (ρ.set i (Jr (.kw t)))|.tp is,t,ρ,Q=>match t.vw with
  | .tp x=>∃h,oB is x ρ=Jr h/\Q h|_=>False
def Tg.ix:Tg->LN
 | .nm i=>[i]|.tp h=>h
def CY:PX->Option Nat
 | .xt i=>Jr i|_=>Js
noncomputable def aF:Option Sl->Option Sl
 |some (.own t)=>Jr (.kw t)|s=>s
def lockA(ρ:kA):kA:=ρ.map aF
def lock:LN->kA->kA
 |[],ρ=>ρ|i::is,ρ=>lock is (ρ.modify i aF)
def OS:Option Sl->Option Sl
 |some (.own t)=>bD t.er|s=>s
noncomputable def frzAt:LN->kA->kA
 |[],ρ=>ρ|i::is,ρ=>frzAt is (ρ.modify i OS)
noncomputable def JF:Option Sl->Option Sl
 |some (.kw t)=>if t.isD=Jt then Jr (.kw t) else Js|s=>s
def kill:LN->kA->kA
 |[],ρ=>ρ|i::is,ρ=>kill is (ρ.modify i JF)
noncomputable def clear:LN->kA->kA
 |[],ρ=>ρ|i::is,ρ=>clear is (ρ.set i Js)
noncomputable def SA:LN->kA->Option (LT)
 |[],_=>Jr []|i::is,ρ=>match ρ[i]? with
  |some (Jr (.own t))=>(SA is ρ).map (t::·)|_=>Js
noncomputable def yC:LN->LT->kA->Option kA
 |[],[],ρ=>Jr ρ|i::is,t::ts,ρ=>yC is ts (ρ.set i (Jr (.own t)))|_,_,_=>Js
noncomputable def PC:List Bool->kA->kA
 |b::m,v::ρ=>(if b then Js else v)::PC m ρ|_,ρ=>ρ
def ZL(k:Nat)(mask:List Bool)(ρ:kA):kA:=Q9 k Js++PC mask ρ
def sq{α:Type}(x:T)(ρ:kA)(b:kA->(α->kA->Prop)->Prop)(K:α->kA->Prop):Prop :=
 if x.isD=Jt then b ρ K else b (lockA ρ) λy _=>K y ρ
def cu(f:kA->TK->Prop):kA->(T×Bool->kA->Prop)->Prop:=λy K=>f y λx n h=>K (x,n) h
def zF:List (T×Bool)->LT
 |[]=>[]|p::r=>p.1::zF r
def YL:List (T×Bool)->LT
 |[]=>[]|p::r=>vA p.1 p.2::YL r
noncomputable def GB:List (T×Bool)->List Vw
 |[]=>[]|p::r=>(vA p.1 p.2).vw::GB r
noncomputable def cE:List (T×Bool)->Bool
 |[]=>Jt|p::r=>rG p.1 p.2&&cE r
noncomputable def DO:List (T×Bool)->Bool
 |[]=>Jt|p::r=>rG p.1 p.2&&DO r
def EE(t:T):Option T:=match t.vw with
 | .ls h=>(HD h).map λds=>.lst (ds.map T.d)|_=>if t.isD=Jt then Jr t else Js
def YA:List Md->List (T×Bool)->LT->Option (LT)
 |_,[],[]=>Jr []|_,[],_::_=>Js|md,(x,n)::xs,os=>match md.headD .ky with
  | .ky=>match vA x n with
   | .d d=>(YA md.tail xs os).map (.d d::·)|_=>Js
  | .kz=>match EE (vA x n) with
   |some t=>(YA md.tail xs os).map (t::·)|none=>Js
  | .kw=>(YA md.tail xs os).map (vA x n::·)|.chg=>match os with
   |o::os=>(YA md.tail xs os).map (o::·)|[]=>Js
noncomputable def UB:List Md->LT->LT
 |_,[]=>[]|md,t::ts=>match md.headD .ky with
  | .chg=>t::UB md.tail ts|_=>UB md.tail ts
noncomputable def cA:List Md->PX->LN
 | .chg::md,.nr (.xt j) as=>j::cA md as|_::md,.nr _ as=>cA md as|_,_=>[]
def Md.isMut:Md->Bool
 | .chg=>Jt|_=>Ju
structure D3 where
 e:kA->TK->Prop
 t:kA->(Bool->kA->Prop)->Prop
 a:List Md->kA->(List (T×Bool)->kA->Prop)->Prop
def eD:D3:=#[λ_ _=>False,λ_ _=>False,λ_ _ _=>False]
def oD(body:T->(Option T->Prop)->Prop):LT->LT->(LT->Prop)->Prop
 |[],acc,Q=>acc.9<=jz/\Q acc|x::xs,acc,Q=>body x fun
  |some y=>acc.9<jz/\oD body xs (acc++[y]) Q|none=>oD body xs acc Q
def VF(v:Tg)(u:kA)(c:kA->(Bool->kA->Prop)->Prop)(e:kA->TK->Prop)(x:T)(R:Option T->Prop):Prop :=
 II v x u λz=>c z λb h=>if b=Jt then e h λy n _=>rG y n=Jt/\R (Jr y) else R Js
def pj:PX->D->(Bool->Prop)->Prop
 | .bty _ n,d,Q=>∃b,isD n d=Jr b/\xV n=Jt/\Q b|_,_,_=>False
def Je(x:T)(Q:T->Prop):Prop:=∃i,x=.d (.int i)/\Q (.d (.int (-i)))
def Kl:Option (Option Sl)->(T->Prop)->Prop
 |some (Jr (.own t)),Q=>Q t|some (Jr (.kw t)),Q=>Q t|some Js,_=>False|none,_=>False
def AC:Option (Option Sl)->(T->Prop)->Prop
 |some (Jr (.own t)),Q=>Q t|some (Jr (.kw _)),_=>False|some Js,_=>False|none,_=>False
def n9:Option Nat->(Nat->Prop)->Prop
 |none,_=>False|some j,Q=>Q j
def K2:PX->Bool
 | .xt _=>Jt|_=>Ju
def pe(Ψ:PEv):PX->XE->D3
 | .xt i,_=>let e:kA->TK->Prop:=λv Q=>Kl v[i]? λt=>Q t Ju v
  #[e,λv Q=>e v λt _ h=>vH t.er λb=>Q b h,eD.a]
 | .int i,_=>#[λv Q=>Q (.d (.int i)) Ju v,λv Q=>Q (i != 0) v,eD.a]|.str x,_=>#[λv Q=>Q (.d (.str x)) Ju v,eD.t,eD.a]|.bl b,_=>#[λv Q=>Q (.d (.bool b)) Ju v,λv Q=>Q b v,eD.a]|.non,_=>#[λv Q=>Q (.d .none) Ju v,λv Q=>Q Ju v,eD.a]|.glo x,_=>let e:kA->TK->Prop:=λv Q=>match Ψ.va x with
   |some d=>Q (.d d) Ju v|none=>False
  #[e,λv Q=>e v λt _ h=>vH t.er λb=>Q b h,eD.a]
 | .bty _ _,_=>eD|.bin op a b,E=>let e:kA->TK->Prop:=λv Q=>(pe Ψ a E).e v λx n h=>sq (vA x n) h (cu (pe Ψ b E).e) λy g=>binT op (vA x n).vw (vA y.1 y.2).vw λz k=>Q z k g
  #[e,λv Q=>e v λt _ h=>vH t.er λb=>Q b h,eD.a]
 | .cmp op a b,E=>let t:kA->(Bool->kA->Prop)->Prop:=λv Q=>(pe Ψ a E).e v λx n h=>sq (vA x n) h (cu (pe Ψ b E).e) λy g=>G8 op x.er (vA y.1 y.2) λk=>Q k g
  #[λv Q=>t v λk h=>Q (.d (.bool k)) Ju h,t,eD.a]
 | .neg a,E=>#[λv Q=>(pe Ψ a E).e v λx _ h=>Je x λt=>Q t Ju h,eD.t,eD.a]|.and a b,E=>#[λv Q=>(pe Ψ a E).e v λx _ h=>Cg x.er λc=>if c=Jt then(pe Ψ b E).e h Q else Q (.d (.bool Ju)) Ju h,
   λv Q=>(pe Ψ a E).t v λc h=>if c=Jt then(pe Ψ b E).t h Q else Q Ju h,eD.a]
 | .or a b,E=>#[λv Q=>(pe Ψ a E).e v λx _ h=>Cg x.er λc=>if c=Jt then Q (.d (.bool Jt)) Ju h else(pe Ψ b E).e h Q,
   λv Q=>(pe Ψ a E).t v λc h=>if c=Jt then Q Jt h else(pe Ψ b E).t h Q,eD.a]
 | .not a,E=>#[λv Q=>(pe Ψ a E).e v λx _ h=>vH x.er λc=>Q (.d (.bool (!c))) Ju h,λv Q=>(pe Ψ a E).t v λc h=>Q (!c) h,eD.a]|.call f as,E=>let e:kA->TK->Prop:=λv Q=>∃W,SA (cA (Ψ.sp f).md as) v=Jr W/\(cA (Ψ.sp f).md as).Nodup/\(pe Ψ as E).a (Ψ.sp f).md (clear (cA (Ψ.sp f).md as) v) λp h=>∃Z,YA (Ψ.sp f).md p W=Jr Z/\(Ψ.sp f).run Z (λr X=>∃g,yC (cA (Ψ.sp f).md as) X h=Jr g/\Q r Jt g) E
  #[e,λv Q=>e v λt _ h=>vH t.er λb=>Q b h,eD.a]
 | .isi a c,E=>let t:kA->(Bool->kA->Prop)->Prop:=λv Q=>(pe Ψ a E).e v λx _ h=>pj c x.er λb=>Q b h
  #[λv Q=>t v λk h=>Q (.d (.bool k)) Ju h,t,eD.a]
 | .bi f as,E=>let e:kA->TK->Prop:=λv Q=>(pe Ψ as E).a [] v λp h=>tX f (GB p) λz k=>Q z k h
  #[e,λv Q=>e v λt _ h=>vH t.er λb=>Q b h,eD.a]
 | .mt m o as,E=>let e:kA->TK->Prop:=λv Q=>if isMut m=Jt then n9 (CY o) λj=>AC v[j]? λt=>KH m t=Jt/\(pe Ψ as E).a [] (v.set j (Jr (.kw t))) λp g=>cE p=Jt/\g[j]?=Jr (Jr (.kw t))/\JK m t (zF p) λr B=>Q r Jt (g.set j (Jr (.own B))) else(pe Ψ o E).e v λx n h=>YS m (vA x n).vw=Jt/\sq (vA x n) h ((pe Ψ as E).a []) λp g=>Xg m (vA x n).vw (GB p) λz k=>Q z k g
  #[e,λv Q=>e v λt _ h=>vH t.er λb=>Q b h,eD.a]
 | .idx a b,E=>let e:kA->TK->Prop:=λv Q=>(pe Ψ a E).e v λx n h=>sq (vA x n) h (cu (pe Ψ b E).e) λy g=>(GK (vA x n).vw (vA y.1 y.2).vw λz=>Q z Ju g)∨(dO (vA x n).vw y.1.er λz=>Q z Ju g)
  #[e,λv Q=>e v λt _ h=>vH t.er λb=>Q b h,eD.a]
 | .slc a lo hi,E=>#[λv Q=>(pe Ψ a E).e v λx n h =>
   sq (α:=Option Int) (vA x n) h (if isNop lo=Jt then λv (R:Option Int->kA->Prop)=>R Js v else λv R=>(pe Ψ lo E).e v λl _ g=>YD l.er λo=>R o g) λl g =>
   sq (α:=Option Int) (vA x n) g (if isNop hi=Jt then λv (R:Option Int->kA->Prop)=>R Js v else λv R=>(pe Ψ hi E).e v λu _ q=>YD u.er λo=>R o q) λu q=>XG (vA x n).vw l u λz k=>Q z k q,eD.t,eD.a]
 | .nop,_=>eD|.lst as,E=>#[λv Q=>(pe Ψ as E).a [] v λp h=>cE p=Jt/\p.9<=jz/\Q (.lst (zF p)) Jt h,eD.t,eD.a]|.tup as,E=>#[λv Q=>(pe Ψ as E).a [] v λp h=>cE p=Jt/\p.9<=jz/\Q (sF (zF p)) Jt h,eD.t,eD.a]|.comp mask tgs tg ik its cond elt,E=>#[λv Q=>(pe Ψ its E).a [] v λp h=>BB ik (GB p) λs =>
   oD (VF tg (ZL tgs.9 mask (lockA h)) (if isNop cond=Jt then λv R=>R Jt v else(pe Ψ cond (λ_=>False)).t) (pe Ψ elt (λ_=>False)).e) s [] λA=>Q (.lst A) Jt h,eD.t,eD.a]
 | .dnew b,_=>#[λv Q=>Q (.dct b [] []) Jt v,eD.t,eD.a]|.dsp a b,E=>#[λv Q=>(pe Ψ a E).e v λy m h=>rG y m=Jt/\(pe Ψ b E).e h λx n g=>rG x n=Jt/\vF Jt y.er/\Q (.dct Jt [y.er] [x]) Jt g,eD.t,eD.a]|.lset a,E=>#[λv Q=>(pe Ψ a E).e v λx n h=>A9 (vA x n).vw λz k=>Q z k h,eD.t,eD.a]|.sset a,E=>#[λv Q=>(pe Ψ a E).e v λx n h=>MJ (vA x n).vw λz k=>Q z k h,eD.t,eD.a]|.ny,_=>#[eD.e,eD.t,λ_ v Q=>Q [] v]|.nr a as,E=>#[eD.e,eD.t,λY v Q=>if(Y.headD .ky).isMut=Jt then K2 a=Jt/\(pe Ψ as E).a Y.tail v λp h=>Q ((.d .none,Jt)::p) h
   else(pe Ψ a E).e v λx n h=>sq (α:=List (T×Bool)) (if n=Jt then .d .none else x) h ((pe Ψ as E).a Y.tail) λp g=>Q ((x,n)::p) g]
structure PEnds where
 nx:kA->Prop
 rt:T->kA->Prop
 bk:kA->Prop:=λ_=>False
 ct:kA->Prop:=λ_=>False
noncomputable def fG:PX->LN
 | .xt i=>[i]|.idx a _=>fG a|.and a b | .or a b=>fG a++fG b
 | .nr a h=>fG a++fG h|_=>[]
noncomputable def pK:Option (Option Sl)->Bool
 |some (Jr (.own _))=>Jt|some (Jr (.kw _))=>Ju|some Js=>Ju|none=>Ju
def zC(ρ:kA):LN->LN
 |[]=>[]|i::is=>if pK ρ[i]?=Jt then i::zC ρ is else zC ρ is
noncomputable def KC:LN->kA->kA->kA
 |[],_,ρ=>ρ|i::L,ρ0,ρ=>KC L ρ0 (ρ.set i (ρ0[i]?.getD Js))
def KR(J L:LN)(h:kA)(N:kA->Prop)(ρ:kA):Prop:=(∀i∈L,i∉J/\ρ[i]?=h[i]?.map aF)/\N (KC L h ρ)
def MG(body:PEnds->kA->Prop)(z:Tg)(Z:PEnds):LT->kA->Prop
 |[],ρ=>Z.nx ρ|x::xs,ρ=>II z x ρ λy=>body { Z with nx:=λh=>MG body z Z xs h,ct:=λh=>MG body z Z xs h,bk:=Z.nx } y
def Bm(ρ:kA)(i:Nat)(R:T->kA->Prop):Option (Option Sl)->Prop
 |some (Jr (.own t))=>R t (ρ.set i Js)|some (Jr (.kw t))=>t.isD=Jt/\R t ρ|some Js=>False|none=>False
def kJ(Ψ:PEv)(E:XE)(y:T->kA->Prop):PX->kA->Prop
 | .xt i,ρ=>Bm ρ i y ρ[i]?|e,ρ=>(pe Ψ e E).e ρ λx n h=>rG x n=Jt/\y x h
def Vh:T->D->D->(T->Prop)->Prop
 | .lst ts,.int i,x,Q=>∃n,AO ts.9 i=Jr n/\Q (.lst (ts.set n (.d x)))|.dct b ks ts,k,x,Q=>vF b k/\ks.9<jz/\Q (yS b ks ts k (.d x))|_,_,_,_=>False
noncomputable def Jm:PX->Option (Nat×Option PX)
 | .xt j=>Jr (j,Js)|.idx (.xt j) k=>Jr (j,Jr k)|_=>Js
def Lc(k:D)(t:T)(Q:T->Prop):Prop:=∃h x,t=.dct Jt h x/\vF Jt k/\h.9<jz/\((∃n,dA h k=Jr n/\Q t)∨(dA h k=Js/\Q (.dct Jt (h++[k]) (x++[.dct Jt [] []]))))
def V8:T->Bool
 | .dct Jt _ _=>Jt|_=>Ju
def Yh(z:D)(t:T)(Q:T->(T->T)->Prop):Prop:=∃b x h n s,t=.dct b x h/\vF b z/\dA x z=Jr n/\h[n]?=Jr s/\Q s λy=>.dct b x (h.set n y)
def pB(Ψ:PEv)(E:XE):PT->PEnds->kA->Prop
 | .nil,Z,u=>Z.nx u|.seq s r,Z,u=>pB Ψ E s { Z with nx:=λf=>pB Ψ E r Z f } u|.set i e,Z,u=>(pe Ψ e E).e u λx n h=>rG x n=Jt/\Z.nx (h.set i (bD x.er))|.expr e,Z,u=>(pe Ψ e E).e u λ_ _ h=>Z.nx h|.ret e,Z,u=>kJ Ψ E Z.rt e u|.ife c a b,Z,u=>(pe Ψ c E).t u λk h=>if k=Jt then pB Ψ E a Z h else pB Ψ E b Z h|.for_ tg ik its body,Z,u=>(pe Ψ its E).a [] u λY h=>BB ik (GB Y) λg =>
   if DO Y=Jt then MG (pB Ψ E body) tg { Z with nx:=λv=>Z.nx (kill tg.ix v) } g h
   else MG (pB Ψ E body) tg { Z with nx:=λv=>KR tg.ix (zC h (fG its)) h Z.nx (kill tg.ix v) } g (lock (zC h (fG its)) h)
 | .own i e,Z,u=>(pe Ψ e E).e u λx n h=>rG x n=Jt/\Z.nx (h.set i (Jr (.own x)))|.tset is e,Z,u=>(pe Ψ e E).e u λx n h=>rG x n=Jt/\II (.tp is) (.d x.er) h Z.nx|.six o i e,Z,u=>match Jm o with
  |none=>False|some (j,Js)=>AC u[j]? λt=>(pe Ψ e E).e (u.set j (Jr (.kw t))) λx n h=>rG x n=Jt/\(pe Ψ i E).e h λy m v=>rG y m=Jt/\v[j]?=Jr (Jr (.kw t))/\Vh t y.er x.er λX=>Z.nx (v.set j (Jr (.own X)))|some (j,Jr k)=>AC u[j]? λt=>(pe Ψ e E).e (u.set j (Jr (.kw t))) λx n h=>rG x n=Jt/\(pe Ψ k E).e h λz l v=>rG z l=Jt/\Yh z.er t λs put=>(pe Ψ i E).e v λy m p=>rG y m=Jt/\p[j]?=Jr (Jr (.kw t))/\Vh s y.er x.er λA=>Z.nx (p.set j (Jr (.own (put A))))
 | .sdf j k,Z,u=>AC u[j]? λt=>V8 t=Jt/\(pe Ψ k E).e (u.set j (Jr (.kw t))) λy m h=>rG y m=Jt/\h[j]?=Jr (Jr (.kw t))/\Lc y.er t λX=>Z.nx (h.set j (Jr (.own X)))|.whl c body,Z,u=>∃W:Nat->kA->Prop,(∃m,W m u)/\∀m u,W m u->(pe Ψ c E).t u λb h=>if b=Jt then
   pB Ψ E body { Z with nx:=λf=>∃q,q < m/\W q f,ct:=λf=>∃q,q < m/\W q f,bk:=Z.nx } h else Z.nx h
 | .frz is s,Z,u=>pB Ψ E s Z (frzAt is u)
abbrev pF(Ψ:PEv):PT->PEnds->kA->Prop:=pB Ψ λ_=>False
theorem _root_.L2.Same.rd{H w:Hp}(e:Same H w){a:jv}{u:HO}(h:Rd H a u):Rd w a u:=by
 rcases h with h|⟨o,h⟩
 exact .inl (e _ _ h);exact .inr #[o,e _ _ h]
theorem _root_.L2.Same.tupl{a:jv}{xs:LV}(e:Same H w)(h:TC K H a xs):TC K w a xs:=by rcases h with h|h;exact .inl (e.rd h);exact .inr h
theorem CI.mono(e:Same H w){b:Bool}{o:HO}{ks:List D}(h:CI K H b o ks vs):CI K w b o ks vs:=by
 cases b with|true=>let#[f,x,a,k,v,u,z]:=h;exact#[f,x,a,k,v,λp y=>e.tupl (u p y),z]|false=>exact h
theorem Rep.mono2(e:Same H w):(∀{v:V}{d:D},Rep K H v d->Rep K w v d)/\∀{vs:LV}{ds:List D},Reps K H vs ds->Reps K w vs ds :=
 Rep.both (P:=Rep K w) (R:=Reps K w) .non .bl .int .str (λh _ r=>.lst (e.seq h) r) (λh _ r=>.tup (e.tupl h) r) (λh q _ r=>.dct (e _ _ h) (q.mono e) r) .nil λ_ _ h r=>.cons h r
theorem Rep.mono(e:Same H w){v:V}{d:D}(h:Rep K H v d):Rep K w v d:=(Rep.mono2 e).1 h
theorem Reps.mono(e:Same H w)(h:Reps K H vs ds):Reps K w vs ds:=(Rep.mono2 e).2 h
theorem Reps.append{ws:LV}{es:List D}(h:Reps K H vs ds)(r:Reps K H ws es):Reps K H (vs++ws) (ds++es):=Reps.ind (R:=λvs ds=>Reps K H (vs++ws) (ds++es)) r (λh t=>.cons h t) h
theorem Reps.reverse(h:Reps K H vs ds):Reps K H vs.reverse ds.reverse:=Reps.ind (R:=λvs ds=>Reps K H vs.reverse ds.reverse) .nil (λr x=>by rw[QAe,QAe];exact x.append (.cons r .nil)) h
theorem Reps.drop{K:QE}{H:Hp}:∀{vs:LV}{ds:List D}(n:Nat),Reps K H vs ds->Reps K H (vs.drop n) (ds.drop n)
 |_,_,0,r=>r|_,_,_+1,.nil=>.nil|_,_,n+1,.cons _ t=>Reps.drop n t
theorem Reps.take{K:QE}{H:Hp}:∀{vs:LV}{ds:List D}(n:Nat),Reps K H vs ds->Reps K H (vs.take n) (ds.take n)
 |_,_,0,_=>.nil|_,_,_+1,.nil=>.nil|_,_,n+1,.cons h t=>.cons h (Reps.take n t)
theorem Reps.bools{K:QE}{H:Hp}:∀{vs:LV}{bs:List Bool},Reps K H vs (bs.map PyData.bool)->vs=bs.map V.bl
 |_,[],.nil=>rfl|_,b::bs,.cons h t=>by cases h;rw[QU,Reps.bools t]
theorem HB{p:jv}{o:HO}(h:H p=Js):Same H (XA H p o):=λb u q=>by rw[xA (aA q h)];exact q
end
mutual
inductive Tr(K:QE)(F H:Hp):Bool->V->T->(jv->Prop)->Prop where
 |d {st:Bool}{v:V}{x:D}{S:uB}:Rep K F v x->(∀b,¬ S b)->Tr K F H st v (.d x) S
 |lst {st:Bool}{a:jv}{vs:LV}{ts:LT}{S S':uB}:H a=Jr (.lst vs)->F a=Js->Trs K F H st vs ts S'->¬ S' a->(∀b,S b↔b=a∨S' b)->Tr K F H st (.ref a) (.lst ts) S
 |tup {st:Bool}{a:jv}{vs:LV}{ts:LT}{S S':uB}:H a=Jr (.tup vs)->F a=Js->Trs K F H st vs ts S'->¬ S' a->(∀b,S b↔b=a∨S' b)->Tr K F H st (.ref a) (.tup ts) S
 |lstF {a:jv}{vs:LV}{ds:List D}{S:uB}:gC K F a vs->Reps K F vs ds->(∀b,¬ S b)->Tr K F H Ju (.ref a) (.lst (ds.map T.d)) S
 |dct {st b:Bool}{a:jv}{o:HO}{ks:List D}{vs:LV}{ts:LT}{S S':uB}:H a=Jr o->CI K F b o ks vs->F a=Js->Trs K F H st vs ts S'->¬ S' a->(∀b,S b↔b=a∨S' b)->Tr K F H st (.ref a) (.dct b ks ts) S
inductive Trs(K:QE)(F H:Hp):Bool->LV->LT->(jv->Prop)->Prop where
 |nil {st:Bool}{S:uB}:(∀b,¬ S b)->Trs K F H st [] [] S
 |cons {st:Bool}{v:V}{t:T}{vs:LV}{ts:LT}{S S1 S2:uB}:Tr K F H st v t S1->Trs K F H st vs ts S2->(∀b,S1 b->¬ S2 b)->(∀b,S b↔S1 b∨S2 b)->Trs K F H st (v::vs) (t::ts) S
end
section
variable{K:QE}{F H w c:Hp}
section
variable{R:Bool->LV->LT->(jv->Prop)->Prop}{st b:Bool}{v:V}{t:T}{S:uB}{vs:LV}{ts:LT}{ds ks:List D}{i:Int}{kvs:List (D×D)}
theorem Tr.both{P:Bool->V->T->(jv->Prop)->Prop}
    (d:∀{st:Bool}{v:V}{x:D}{S:uB},Rep K F v x->(∀b,¬ S b)->P st v (.d x) S)
    (lst:∀{st:Bool}{a:jv}{vs:LV}{ts:LT}{S S':uB},H a=Jr (.lst vs)->F a=Js->Trs K F H st vs ts S'->¬ S' a->(∀b,S b↔b=a∨S' b)->R st vs ts S'->P st (.ref a) (.lst ts) S)
    (tup:∀{st:Bool}{a:jv}{vs:LV}{ts:LT}{S S':uB},H a=Jr (.tup vs)->F a=Js->Trs K F H st vs ts S'->¬ S' a->(∀b,S b↔b=a∨S' b)->R st vs ts S'->P st (.ref a) (.tup ts) S)
    (y:∀{a:jv}{vs:LV}{ds:List D}{S:uB},gC K F a vs->Reps K F vs ds->(∀b,¬ S b)->P Ju (.ref a) (.lst (ds.map T.d)) S)
    (dct:∀{st b:Bool}{a:jv}{o:HO}{ks:List D}{vs:LV}{ts:LT}{S S':uB},H a=Jr o->CI K F b o ks vs->F a=Js->Trs K F H st vs ts S'->¬ S' a->(∀b,S b↔b=a∨S' b)->R st vs ts S'->P st (.ref a) (.dct b ks ts) S)
    (u:∀{st:Bool}{S:uB},(∀b,¬ S b)->R st [] [] S)
    (z:∀{st:Bool}{v:V}{t:T}{vs:LV}{ts:LT}{S S1 k:uB},Tr K F H st v t S1->Trs K F H st vs ts k->(∀b,S1 b->¬ k b)->(∀b,S b↔S1 b∨k b)->P st v t S1->R st vs ts k->R st (v::vs) (t::ts) S) :
    (∀{st:Bool}{v:V}{t:T}{S:uB},Tr K F H st v t S->P st v t S)/\∀{st:Bool}{vs:LV}{ts:LT}{S:uB},Trs K F H st vs ts S->R st vs ts S :=
  #[λh=>Tr.rec (motive_1:=λst v t S _=>P st v t S) (motive_2:=λst vs ts S _=>R st vs ts S) @d @lst @tup @y @dct @u @z h,
   λh=>Trs.rec (motive_1:=λst v t S _=>P st v t S) (motive_2:=λst vs ts S _=>R st vs ts S) @d @lst @tup @y @dct @u @z h]
theorem Tr.mono2(e:Same F w):(∀{st:Bool}{v:V}{t:T}{S:uB},Tr K F H st v t S->(∀b,S b->c b=H b/\w b=Js)->Tr K w c st v t S)/\∀{st:Bool}{vs:LV}{ts:LT}{S:uB},Trs K F H st vs ts S->(∀b,S b->c b=H b/\w b=Js)->Trs K w c st vs ts S :=
 Tr.both (P:=λst v t S=>(∀b,S b->c b=H b/\w b=Js)->Tr K w c st v t S) (R:=λst v t S=>(∀b,S b->c b=H b/\w b=Js)->Trs K w c st v t S)
  (λr n _=>.d (r.mono e) n)
  (λ{_ a _ _ _ _} h _ _ n q x k=>.lst ((k a ((q a).mpr (.inl rfl))).1.trans h) (k a ((q a).mpr (.inl rfl))).2 (x λb hb=>k b ((q b).mpr (.inr hb))) n q)
  (λ{_ a _ _ _ _} h _ _ n q x k=>.tup ((k a ((q a).mpr (.inl rfl))).1.trans h) (k a ((q a).mpr (.inl rfl))).2 (x λb hb=>k b ((q b).mpr (.inr hb))) n q)
  (λh r n _=>.lstF (e.seq h) (r.mono e) n)
  (λ{_ _ a _ _ _ _ _ _} h u _ _ n q x k=>.dct ((k a ((q a).mpr (.inl rfl))).1.trans h) (u.mono e) (k a ((q a).mpr (.inl rfl))).2 (x λb hb=>k b ((q b).mpr (.inr hb))) n q)
  (λn _=>.nil n)
  (λ_ _ n q z y k=>.cons (z λb hb=>k b ((q b).mpr (.inl hb))) (y λb hb=>k b ((q b).mpr (.inr hb))) n q)
theorem Tr.mono(e:Same F w)(h:Tr K F H st v t S)(k:∀b,S b->c b=H b/\w b=Js):Tr K w c st v t S:=(Tr.mono2 e).1 h k
theorem Trs.mono(e:Same F w)(h:Trs K F H st vs ts S)(k:∀b,S b->c b=H b/\w b=Js):Trs K w c st vs ts S:=(Tr.mono2 e).2 h k
theorem Tr.weak2:(∀{st:Bool}{v:V}{t:T}{S:uB},Tr K F H st v t S->Tr K F H Ju v t S)/\∀{st:Bool}{vs:LV}{ts:LT}{S:uB},Trs K F H st vs ts S->Trs K F H Ju vs ts S :=
 Tr.both (P:=λ_ v t S=>Tr K F H Ju v t S) (R:=λ_ v t S=>Trs K F H Ju v t S) .d (λh f _ n q x=>.lst h f x n q) (λh f _ n q x=>.tup h f x n q) .lstF (λh u f _ n q x=>.dct h u f x n q) .nil λ_ _ n q z y=>.cons z y n q
theorem Tr.weak(h:Tr K F H st v t S):Tr K F H Ju v t S:=Tr.weak2.1 h
theorem Trs.weak(h:Trs K F H st vs ts S):Trs K F H Ju vs ts S:=Tr.weak2.2 h
theorem V4{C:uB}{a:jv}{S':uB}(q:∀b,S b↔b=a∨S' b)(h:C a)(k:∀b,S' b->C b)(b:jv)(hb:S b):C b:=((q b).mp hb).elim (λe=>e▸h) (k b)
theorem Tr.dom2:(∀{st:Bool}{v:V}{t:T}{S:uB},Tr K F H st v t S->∀b,S b->H b≠Js/\F b=Js)/\∀{st:Bool}{vs:LV}{ts:LT}{S:uB},Trs K F H st vs ts S->∀b,S b->H b≠Js/\F b=Js :=
 have y:∀{a:jv}{o:HO},H a=Jr o->H a≠none:=λh z=>by rw[h]at z;cases z
 Tr.both (P:=λ_ _ _ S=>∀b,S b->H b≠Js/\F b=Js) (R:=λ_ _ _ S=>∀b,S b->H b≠Js/\F b=Js)
  (λ_ n b hb=>h7 hb (n b)) (λh f _ _ q x=>V4 q #[y h,f] x) (λh f _ _ q x=>V4 q #[y h,f] x) (λ_ _ n b hb=>h7 hb (n b)) (λh _ f _ _ q x=>V4 q #[y h,f] x)
  (λn b hb=>h7 hb (n b)) λ_ _ _ q k u b hb=>((q b).mp hb).elim (k b) (u b)
theorem Tr.dom(h:Tr K F H st v t S):∀b,S b->H b≠Js/\F b=none:=Tr.dom2.1 h
theorem Trs.dom(h:Trs K F H st vs ts S):∀b,S b->H b≠Js/\F b=none:=Tr.dom2.2 h
theorem Tr.kept2(e:Same F w):(∀{st:Bool}{v:V}{t:T}{S:uB},Tr K F H st v t S->(∀b u,S b->H b=Jr u->w b=Jr u)->Rep K w v t.er)/\∀{st:Bool}{vs:LV}{ts:LT}{S:uB},Trs K F H st vs ts S->(∀b u,S b->H b=Jr u->w b=Jr u)->Reps K w vs (ersT ts) :=
 Tr.both (P:=λ_ v t S=>(∀b u,S b->H b=Jr u->w b=Jr u)->Rep K w v t.er) (R:=λ_ v t S=>(∀b u,S b->H b=Jr u->w b=Jr u)->Reps K w v (ersT t))
  (λr _ _=>r.mono e)
  (λ{_ a _ _ _ _} h _ _ _ q x k=>by unfold T.er;exact .lst (gC.of (k a _ ((q a).mpr (.inl rfl)) h)) (x λb u hb=>k b u ((q b).mpr (.inr hb))))
  (λ{_ a _ _ _ _} h _ _ _ q x k=>by unfold T.er;exact .tup (TC.of (k a _ ((q a).mpr (.inl rfl)) h)) (x λb u hb=>k b u ((q b).mpr (.inr hb))))
  (λh r _ _=>by unfold T.er;rw[KA];exact .lst (e.seq h) (r.mono e))
  (λ{_ _ a _ _ _ _ _ _} h f _ _ _ q x k=>by unfold T.er;exact .dct (k a _ ((q a).mpr (.inl rfl)) h) (f.mono e) (x λb u hb=>k b u ((q b).mpr (.inr hb))))
  (λ_ _=>.nil)
  (λ_ _ _ q z y k=>.cons (z λb u hb=>k b u ((q b).mpr (.inl hb))) (y λb u hb=>k b u ((q b).mpr (.inr hb))))
theorem Tr.kept(e:Same F w)(h:Tr K F H st v t S)(k:∀b u,S b->H b=Jr u->w b=Jr u):Rep K w v t.er:=(Tr.kept2 e).1 h k
theorem Tr.rep(f:Same F H)(h:Tr K F H st v t S):Rep K H v t.er:=h.kept f λ_ _ _ e=>e
theorem Trs.ind(z:∀{st:Bool}{S:uB},(∀b,¬ S b)->R st [] [] S)
  (x:∀{st:Bool}{v:V}{t:T}{vs:LV}{ts:LT}{S S1 y:uB},Tr K F H st v t S1->Trs K F H st vs ts y->(∀b,S1 b->¬ y b)->(∀b,S b↔S1 b∨y b)->R st vs ts y->R st (v::vs) (t::ts) S) (h:Trs K F H st vs ts S):R st vs ts S :=
 (Tr.both (P:=λ_ _ _ _=>True) (λ_ _=>trivial) (λ_ _ _ _ _ _=>trivial) (λ_ _ _ _ _ _=>trivial) (λ_ _ _=>trivial) (λ_ _ _ _ _ _ _=>trivial) z λh t n q _ r=>x h t n q r).2 h
theorem Trs.length(h:Trs K F H st vs ts S):vs.9=ts.length:=Trs.ind (R:=λ_ vs ts _=>vs.9=ts.9) (λ_=>rfl) (λ_ _ _ _ e=>Fz Nat.succ e) h
theorem Trs.of_reps(h:Reps K F vs ds):Trs K F H st vs (ds.map T.d) (λ_=>False) :=
 Reps.ind (R:=λvs ds=>Trs K F H st vs (ds.map T.d) λ_=>False) (.nil λ_ z=>z) (λh t=>.cons (.d h λ_ z=>z) t (λ_ z=>z.elim) λb=>by simp) h
theorem Trs.un(h:Trs K F H st vs ts S)(e:HD ts=Jr ds):Reps K F vs ds/\∀b,¬ S b:=by
 have u:=FJ e;clear e;revert ds;refine Trs.ind (R:=λ_ vs ts S=>∀{ds:List D},ts=ds.map T.d->Reps K F vs ds/\∀b,¬ S b) (λn ds e=>?_) (λh _ _ q x ds e=>?_) h;cases ds with|nil=>exact#[.nil,n]|cons d r=>cases e
 cases ds with
 |nil=>cases e|cons d r =>
  injection e with e1 e2;let#[z,y]:=x e2;subst e1;cases h with|d rep m=>exact#[.cons rep z,λb hb=>((q b).mp hb).elim (m b) (y b)]
theorem Trs.get{i:Nat}(h:Trs K F H st vs ts S)(e:ts[i]?=Jr t):∃v S1,vs[i]?=Jr v/\Tr K F H st v t S1/\∀b,S1 b->S b:=by
 revert i;refine Trs.ind (R:=λst vs ts S=>∀{i:Nat},ts[i]?=Jr t->∃v S1,vs[i]?=Jr v/\Tr K F H st v t S1/\∀b,S1 b->S b) (λn i e=>by cases e) (λh _ n q x i e=>?_) h;cases i with|zero=>cases e;exact#[_,_,rfl,h,λb hb=>(q b).mpr (.inl hb)]|succ i=>let#[v,S1,u,z,y]:=x (i:=i) e;exact#[v,S1,u,z,λb hb=>(q b).mpr (.inr (y b hb))]
theorem Trs.at(r:Trs K F H st vs ts S)(h:pE ts i=Jr t):∃v S1,pE vs i=Jr v/\Tr K F H st v t S1/\∀b,S1 b->S b:=by
 unfold pE at h ⊢;rw[r.9];cases e:AO ts.9 i with|none=>rw[e]at h;cases h|some j=>rw[e]at h;exact r.get h
theorem Trs.append{ws:LV}{us:LT}{S1 x:uB}(h:Trs K F H st vs ts S1)(r:Trs K F H st ws us x)(k:∀b,S1 b->¬ x b):Trs K F H st (vs++ws) (ts++us) (λb=>S1 b∨x b) :=
 Trs.ind (R:=λst vs ts S1=>Trs K F H st ws us x->(∀b,S1 b->¬ x b)->Trs K F H st (vs++ws) (ts++us) λb=>S1 b∨x b)
  (λ{_ S} n r _=>by have e:(λb=>S b∨x b)=x:=funext λb=>h8 #[λz=>z.resolve_left (n b),.inr];rw[e];exact r)
  (λh _ n q y r k=>.cons h (y r λb hb=>k b ((q b).mpr (.inr hb))) (λb hb z=>z.elim (n b hb) (k b ((q b).mpr (.inl hb)))) λb=>by rw[q b,or_assoc]) h r k
theorem Trs.one(h:Tr K F H st v t S):Trs K F H st [v] [t] S:=.cons h (.nil (S:=λ_=>False) λ_ z=>z) (λ_ _ z=>z) λb=>by simp
theorem YG(e:(T.d (.dict kvs)).vw=.ls ts):False:=by
 have e:KB kvs=.ls ts:=e;unfold KB at e;cases h:RC kvs with|none=>rw[h]at e;cases e|some b=>rw[h]at e;cases e
theorem VJ(e:(T.d (.dict kvs)).vw=.tp ts):False:=by
 have e:KB kvs=.tp ts:=e;unfold KB at e;cases h:RC kvs with|none=>rw[h]at e;cases e|some b=>rw[h]at e;cases e
theorem Tr.ls(f:Same F H)(h:Tr K F H st v t S)(e:t.vw=.ls ts):∃a vs S',v=.ref a/\gC K H a vs/\Trs K F H Ju vs ts S'/\∀b,S' b->S b:=by
 cases h with
 |d r n =>
  cases r with|lst q r=>injection e with e;subst e;exact#[_,_,_,rfl,f.seq q,Trs.of_reps r,λb hb=>hb.elim]|dct _ _ _=>exact(YG e).elim|_=>cases e
 |lst h _ r n q=>injection e with e;subst e;exact#[_,_,_,rfl,gC.of h,r.weak,λb hb=>(q b).mpr (.inr hb)]|tup=>cases e|dct=>cases e|lstF h r n=>injection e with e;subst e;exact#[_,_,_,rfl,f.seq h,Trs.of_reps r,λb hb=>hb.elim]
theorem Tr.tp(f:Same F H)(h:Tr K F H st v t S)(e:t.vw=.tp ts):∃a vs S',v=.ref a/\TC K H a vs/\Trs K F H Ju vs ts S'/\∀b,S' b->S b:=by
 cases h with
 |d r n =>
  cases r with|tup q r=>injection e with e;subst e;exact#[_,_,_,rfl,f.tupl q,Trs.of_reps r,λb hb=>hb.elim]|dct _ _ _=>exact(VJ e).elim|_=>cases e
 |tup h _ r n q=>injection e with e;subst e;exact#[_,_,_,rfl,TC.of h,r.weak,λb hb=>(q b).mpr (.inr hb)]|lst=>cases e|lstF=>cases e|dct=>cases e
theorem IU{y:Bool}{o:HO}(h:CI K H y o ks vs)(e:RC (ks.zip ds)=Jr b):y=b:=by
 cases ks with
 |nil=>cases e|cons k ks =>
  cases ds with
  |nil=>cases e|cons d ds =>
   cases y with
   |true =>
    let#[u,kvs,_,x,_]:=h;cases kvs with|nil=>cases x|cons p r=>rw[QU]at x;injection x with x _;subst x;injection e
   |false =>
    rcases h with⟨kvs,_,_,x,_⟩| ⟨_,_,x,_⟩
    rotate_left
    cases x;cases kvs with
    |nil=>cases x|cons p r =>
     rw[QU]at x;injection x with x _;subst x;let#[k,v]:=p;cases k with|inl i=>cases e|inr z=>injection e
theorem Tr.dc(f:Same F H)(h:Tr K F H st v t S)(e:t.vw=.dc b ks ts):∃a o vs S',v=.ref a/\H a=Jr o/\CI K F b o ks vs/\Trs K F H Ju vs ts S'/\(∀b,S' b->S b)/\∀w c,Same F w->Same w c->(∀b,S b->c b=H b)->c a=Jr o:=by
 cases h with
 |d r n =>
  cases r with
  |@dct X a o y l ds h q r =>
   have hl:y.9=ds.length:=by rw[q.len,Reps.length r]
   have g:(y.zip ds).map (λx=>x.1)=y:=QAv (QAp hl);have u:(y.zip ds).map (λx=>x.2)=ds:=QAw (QAp hl.symm);have e:KB (y.zip ds)=.dc b ks ts:=e;unfold KB at e;cases z:RC (y.zip ds) with
   |none=>rw[z]at e;cases e|some p =>
    rw[z]at e;injection e with z1 z2 z3;subst z1;rw[g]at z2;subst z2;have m:ts=ds.map T.d:=by have j:=Fz (List.map T.d) u;rw[Qh]at j;rw[<- z3,<- j];rfl
    subst m;cases IU q z;exact#[_,_,_,_,rfl,f _ _ h,q,Trs.of_reps r,λb hb=>hb.elim,λw c g u _=>u _ _ (g _ _ h)]
  |_=>cases e
 |dct h q _ r n s=>injection e with z1 z2 z3;subst z1 z2 z3;exact#[_,_,_,_,rfl,h,q,r.weak,λb hb=>(s b).mpr (.inr hb),λw c _ _ k=>(k _ ((s _).mpr (.inl rfl))).trans h]|lst=>cases e|tup=>cases e|lstF=>cases e
theorem Tr.sc{x:D}(h:Tr K F H st v t S)(e:t.vw=.sc x):t=.d x/\Rep K F v x:=by
 cases h with
 |@d _ _ y _ r n =>
  cases y with
  |list ds=>cases e|tuple ds=>cases e|dict ds =>
   have e:KB ds=.sc x:=e;unfold KB at e;cases z:RC ds with|none=>rw[z]at e;injection e with e;subst e;exact#[rfl,r]|some b=>rw[z]at e;cases e
  |_=>injection e with e;subst e;exact#[rfl,r]
 |tup=>cases e|lst=>cases e|lstF=>cases e|dct=>cases e
theorem Tr.int(h:Tr K F H st v t S)(e:t.vw=.sc (.int i)):v=.int i:=by let#[_,r]:=h.sc e;cases r;rfl
theorem Tr.str{i:Str}(h:Tr K F H st v t S)(e:t.vw=.sc (.str i)):v=.str i:=by let#[_,r]:=h.sc e;cases r;rfl
end
end
def Sl.t:Sl->T
 | .own t=>t|.kw t=>t
def Sl.st:Sl->Bool
 | .own _=>Jt|.kw _=>Ju
noncomputable abbrev Ft:=Nat->jv->Prop
structure Rl(K:QE)(F H:Hp)(S:Ft)(ρ:kA)(σ:St):Prop where
 fh:Same F H
 len:ρ.9=σ.9
 sl:∀(i:Nat) s,ρ[i]?=Jr (Jr s)->∃v,σ[i]?=Jr (Jr v)/\Tr K F H s.st v s.t (S i)
 dj:∀(i j:Nat) t s,i≠j->ρ[i]?=Jr (Jr (.own t))->ρ[j]?=Jr (Jr s)->∀b,S i b->¬ S j b
def U(ρ:kA)(S:Ft)(b:jv):Prop:=∃(i:Nat) (t:T),ρ[i]?=Jr (Jr (.own t))/\S i b
structure Stp(F H:Hp)(S:Ft)(ρ:kA)(F' H':Hp)(S':Ft)(ρ':kA):Prop where
 ff:Same F F'
 hh:∀b u,H b=Jr u->¬ U ρ S b->H' b=Jr u
 dm:∀b,H' b=Js->H b=Js
 fn:∀b,F b=Js->F' b≠Js->U ρ S b∨H b=Js
 uu:∀b,U ρ' S' b->U ρ S b∨H b=Js
 bo:∀(j:Nat) t,ρ'[j]?=Jr (Jr (.kw t))->t.isD=Ju->ρ[j]?=Jr (Jr (.kw t))/\S' j=S j
structure Ste(F H:Hp)(S:Ft)(ρ:kA)(F' H':Hp)(S':Ft)(ρ':kA):Prop extends Stp F H S ρ F' H' S' ρ' where
 ow:∀(j:Nat) t,ρ'[j]?=Jr (Jr (.own t))->∃t0,ρ[j]?=Jr (Jr (.own t0))
section
variable{K:QE}{F H X m B E:Hp}{S S1 C:Ft}{ρ l A:kA}{σ:St}
section
variable{v:V}{t:T}{Z W:uB}{i:Nat}{s:Sl}{b p:jv}{vs:LN}{g:Hp}{c:Ft}{y:kA}{n:Bool}
theorem Stp.refl:Stp F H S ρ F H S ρ:=#[.refl _,λ_ _ h _=>h,λ_ h=>h,λb h z=>h7 h z,λ_ h=>.inl h,λ_ _ h _=>#[h,rfl]]
theorem Ste.refl:Ste F H S ρ F H S ρ:=#[Stp.refl,λ_ t h=>#[t,h]]
theorem Stp.trans(a:Stp F H S ρ X m S1 l)(b:Stp X m S1 l B E C A):Stp F H S ρ B E C A where
 ff:=a.ff.trans b.ff
 hh:=λx u h n=>b.hh x u (a.hh x u h n) λz=>by rcases a.uu x z with q|q;exact n q;rw[q]at h;cases h
 dm:=λx h=>a.dm x (b.dm x h)
 fn:=λx h z=>by
  by_cases q:X x=Js;rcases b.fn x q z with w|w
  ·exact a.uu x w
  exact .inr (a.dm x w);exact a.fn x h q
 uu:=λx h=>by rcases b.uu x h with w|w;exact a.uu x w;exact .inr (a.dm x w)
 bo:=λj t h n=>by let#[o,f]:=b.bo j t h n;let#[e,k]:=a.bo j t o n;exact#[e,f.trans k]
theorem Ste.trans(a:Ste F H S ρ X m S1 l)(b:Ste X m S1 l B E C A):Ste F H S ρ B E C A:=#[a.toStp.trans b.toStp,λj t h=>by let#[x,z]:=b.ow j t h;exact a.ow j x z]
theorem Stp.keep(s:Stp F H S ρ X m S1 l){st:Bool}(h:Tr K F H st v t Z)(n:∀b,Z b->¬ U ρ S b):Tr K X m st v t Z :=
 h.mono s.ff λb hb=>by
  let#[x,w]:=h.dom b hb;refine#[?_,?_];cases e:H b with|none=>exact h7 e x|some u=>exact s.hh b u e (n b hb)
  by_cases q:X b=Js
  ·exact q
  rcases s.fn b w q with z|z
  ·exact h7 z (n b hb)
  exact h7 z x
theorem Rl.dom(I:Rl K F H S ρ σ)(h:ρ[i]?=Jr (Jr s))(hb:S i b):H b≠Js/\F b=none:=by let#[v,_,r]:=I.sl i s h;exact r.dom b hb
theorem Rl.isD(I:Rl K F H S ρ σ)(h:ρ[i]?=Jr (Jr s))(x:s.t.isD=Jt):¬ S i b:=by
 let#[v,_,r]:=I.sl i s h;generalize s.t=t at r x;generalize s.st=st at r;cases r with|d r n=>exact n b|_=>cases x
structure Held(F H:Hp)(S:Ft)(ρ:kA)(Z:uB):Prop where
 dom:∀b,Z b->H b≠Js/\F b=Js
 nw:∀(i:Nat) s,ρ[i]?=Jr (Jr s)->∀b,Z b->¬ S i b
theorem Held.nu(h:Held F H S ρ Z):∀b,Z b->¬ U ρ S b:=λb hb #[i,t,z,x]=>h.nw i _ z b hb x
theorem Held.step(h:Held F H S ρ Z)(s:Stp F H S ρ X m S1 l)(j:Rl K X m S1 l σ):Held X m S1 l Z where
 dom:=λb hb=>by
  let#[u,k]:=h.dom b hb;refine#[λz=>u (s.dm b z),?_];by_cases q:X b=Js;exact q;rcases s.fn b k q with z|z
  ·exact h7 z (h.nu b hb)
  exact h7 z u
 nw:=λi w e b hb z=>by
  cases w with
  |own t=>rcases s.uu b ⟨i,t,e,z⟩ with q|q;exact h.nu b hb q;exact(h.dom b hb).1 q
  |kw t =>
   cases x:t.isD with|true=>exact j.isD e x z|false=>let#[f,a]:=s.bo i t e x;rw[a]at z;exact h.nw i _ f b hb z
theorem Held.none:Held F H S ρ λ_=>False:=#[λ_ z=>z.elim,λ_ _ _ _ z=>z.elim]
theorem Held.or{Y:uB}(a:Held F H S ρ Z)(b:Held F H S ρ Y):Held F H S ρ λx=>Z x∨Y x:=#[λx h=>h.elim (a.dom x) (b.dom x),λi s e x h=>h.elim (a.nw i s e x) (b.nw i s e x)]
noncomputable def FH(F H:Hp)(W:uB):Hp:=open Classical in λb=>if W b then H b else F b
theorem DH(h:W b):FH F H W b=H b:=hQ h
theorem uC(h:¬ W b):FH F H W b=F b:=hI h
theorem kG(h:∀b,W b->F b=Js):Same F (FH F H W):=λb u e=>by rw[uC λz=>by rw[h b z]at e;cases e];exact e
theorem e8(f:Same F H):Same (FH F H W) H:=λb u e=>by by_cases hb:W b;rw[DH hb]at e;exact e;rw[uC hb]at e;exact f b u e
theorem Rl.frz(I:Rl K F H S ρ σ){W:uB}(h:Held F H S ρ W):Rl K (FH F H W) H S ρ σ where
 fh:=e8 I.fh
 len:=I.len
 sl:=λi s e=>by let#[v,u,x]:=I.sl i s e;refine#[v,u,x.mono (kG λb hb=>(h.dom b hb).2) λb hb=>#[rfl,?_]];rw[uC λz=>h.nw i s e b z hb];exact(x.dom b hb).2
 dj:=I.dj
theorem Stp.frz(s:Stp F H S ρ X m S1 l){W:uB}(x:∀b,W b->X b=Js)(u:∀b,W b->H b=Js∨U ρ S b):Stp F H S ρ (FH X m W) m S1 l :=
 #[s.ff.trans (kG x),s.hh,s.dm,λb h z=>by by_cases q:W b;exact(u b q).symm;rw[uC q]at z;exact s.fn b h z,s.uu,s.bo]
theorem Ste.frz(s:Ste F H S ρ X m S1 l){W:uB}(h:∀b,W b->X b=Js)(x:∀b,W b->H b=Js∨U ρ S b):Ste F H S ρ (FH X m W) m S1 l:=#[s.toStp.frz h x,s.ow]
theorem Stp.new(s:Stp F H S ρ X m S1 l){p:jv}(h:m p=Js)(o:HO):Stp F H S ρ X (XA m p o) S1 l :=
 #[s.ff,λb u e n=>HB h b u (s.hh b u e n),λb e=>by by_cases hb:b=p;rw[hb,ZA]at e;cases e;rw[xA hb]at e;exact s.dm b e,s.fn,s.uu,s.bo]
theorem Ste.new(s:Ste F H S ρ X m S1 l){p:jv}(h:m p=Js)(o:HO):Ste F H S ρ X (XA m p o) S1 l:=#[s.toStp.new h o,s.ow]
theorem Rl.same(I:Rl K F H S ρ σ)(h:Same H m):Rl K F m S ρ σ where
 fh:=I.fh.trans h
 len:=I.len
 sl:=λi s e=>by
  let#[v,z,x]:=I.sl i s e;refine#[v,z,x.mono (.refl _) λb hb=>#[?_,(x.dom b hb).2]];cases e:H b with|none=>exact h7 e (x.dom b hb).1|some u=>exact h b u e
 dj:=I.dj
theorem Rl.new(I:Rl K F H S ρ σ){p:jv}(h:H p=Js)(o:HO):Rl K F (XA H p o) S ρ σ:=I.same (HB h)
theorem Stp.newT(s:Stp F H S ρ X m S1 l)(h:m p=Js)(u:X p=Js)(o:HO):Stp F H S ρ (XA X p o) (XA m p o) S1 l :=
 let x:=s.new h o
 #[s.ff.trans (HB u),x.hh,x.dm,λb e z=>by by_cases hb:b=p;rw[hb];exact .inr (s.dm p h);rw[xA hb]at z;exact s.fn b e z,s.uu,s.bo]
theorem Ste.newT(s:Ste F H S ρ X m S1 l)(h:m p=Js)(x:X p=Js)(o:HO):Ste F H S ρ (XA X p o) (XA m p o) S1 l:=#[s.toStp.newT h x o,s.ow]
theorem Rl.newT(I:Rl K F H S ρ σ)(h:H p=Js)(o:HO):Rl K (XA F p o) (XA H p o) S ρ σ where
 fh:=λb u e=>by by_cases hb:b=p;rw[hb,ZA]at e ⊢;exact e;rw[xA hb]at e ⊢;exact I.fh b u e
 len:=I.len
 sl:=λi s e=>by let#[v,k,x]:=I.sl i s e;refine#[v,k,x.mono (HB (I.fh.free h)) λb hb=>?_];have w:b≠p:=λz=>(x.dom b hb).1 (by rw[z];exact h);rw[xA w,xA w];exact#[rfl,(x.dom b hb).2]
 dj:=I.dj
theorem MW(ρ:kA)(i:Nat):(lockA ρ)[i]?=ρ[i]?.map aF:=by unfold lockA;rw[Qi]
theorem sB{ρ:kA}(h:(lockA ρ)[i]?=Jr (Jr s)):∃x,ρ[i]?=Jr (Jr x)/\s=.kw x.t:=by
 rw[MW]at h;cases e:ρ[i]? with
 |none=>rw[e]at h;cases h|some o =>
  rw[e]at h;cases o with
  |none=>cases h|some x =>
   cases x with|own t=>injection h with h;injection h with h;subst h;exact#[_,rfl,rfl]|kw t=>injection h with h;injection h with h;subst h;exact#[_,rfl,rfl]
theorem EC(b:jv):¬ U (lockA ρ) S b:=λ#[i,t,h,_]=>by let#[x,_,e]:=sB h;cases e
theorem Rl.lockA(I:Rl K F H S ρ σ):Rl K F H S (lockA ρ) σ where
 fh:=I.fh
 len:=by unfold L3.lockA;rw[QF];exact I.len
 sl:=λi s e=>by let#[x,h,rfl]:=sB e;let#[v,u,z]:=I.sl i x h;exact#[v,u,z.weak]
 dj:=λi j t s _ h=>by let#[x,_,e]:=sB h;cases e
theorem Stp.unlockA(s:Stp F H S (L3.lockA ρ) X m S1 l):Stp F H S ρ X m S ρ :=
 #[s.ff,λb u e _=>s.hh b u e (EC b),s.dm,λb h z=>(s.fn b h z).elim (λq=>h7 q (EC b)) .inr,λ_ h=>.inl h,λ_ _ h _=>#[h,rfl]]
theorem Rl.unlockA(I:Rl K F H S ρ σ)(s:Stp F H S (L3.lockA ρ) X m S1 l)(f:Same X m):Rl K X m S ρ σ where
 fh:=f
 len:=I.len
 sl:=λi sl e=>by let#[v,x,h]:=I.sl i sl e;exact#[v,x,s.keep h λb _=>EC b]
 dj:=I.dj
structure VR(K:QE)(vs:LN)(g:Hp)(c:Ft)(y:kA)(F H:Hp)(S:Ft)(ρ:kA)(v:V)(t:T)(n:Bool)(Z:uB):Prop where
 tr:Tr K F H n v t Z
 fr:n=Jt->∀b,Z b->g b=Js∨U y c b
 tm:n=Ju->∀b,Z b->∃(i:Nat) (s:Sl),i∈vs/\ρ[i]?=Jr (Jr s)/\S i b
 nw:n=Jt->∀(i:Nat) s,ρ[i]?=Jr (Jr s)->∀b,Z b->¬ S i b
theorem VR.d{vs:LN}{g:Hp}{c:Ft}{y:kA}{v:V}{x:D}(n:Bool)(r:Rep K F v x):VR K vs g c y F H S ρ v (.d x) n (λ_=>False) :=
 #[.d r λ_ z=>z,λ_ _ z=>z.elim,λ_ _ z=>z.elim,λ_ _ _ _ _ z=>z.elim]
theorem VR.held(h:VR K vs g c y F H S ρ v t Jt Z):Held F H S ρ Z:=#[λb hb=>h.tr.dom b hb,h.nw rfl]
theorem VR.vars{ws:LN}(h:VR K vs g c y F H S ρ v t n Z)(k:∀i∈vs,i∈ws):VR K ws g c y F H S ρ v t n Z :=
 #[h.tr,h.fr,λe b hb=>let#[i,s,z,x]:=h.tm e b hb;#[i,s,k i z,x],h.nw]
theorem VR.from(s:Stp F H S ρ X m S1 l)(h:VR K vs m S1 l B E C A v t n Z):VR K vs H S ρ B E C A v t n Z :=
 #[h.tr,λe b hb=>by rcases h.fr e b hb with q|q;exact .inl (s.dm b q);exact(s.uu b q).symm,h.tm,h.nw]
theorem VR.frz{vs:LN}{v:V}{t:T}{n:Bool}{Z:uB}(s:Ste F H S ρ X m S1 l)(I:Rl K X m S1 l σ)(h:VR K vs H S ρ X m S1 l v t n Z) :
  ∃B o,Ste F H S ρ B m S1 l/\Rl K B m S1 l σ/\Tr K B m Ju v (vA t n) o/\(rG t n=Jt->Rep K B v t.er)/\(∀b,o b->∃(i:Nat) (s:Sl),i∈vs/\l[i]?=Jr (Jr s)/\S1 i b) /\
   ∀st a t' k,Tr K X m st a t' k->(∀b,k b->∃(i:Nat) (s:Sl),l[i]?=Jr (Jr s)/\S1 i b)->Tr K B m st a t' k:=by
 cases n with
 |true =>
  have w:=h.held;have j:=kG (H:=m) λb hb=>(w.dom b hb).2;have f:=h.tr.kept j λb u hb e=>by rw[DH hb];exact e
  refine#[FH X m Z,λ_=>False,s.frz (λb hb=>(w.dom b hb).2) (h.fr rfl),I.frz w,.d f λ_ z=>z,λ_=>f,λb z=>z.elim,λst a t' k r G=>r.mono j λb hb=>#[rfl,?_]];let#[i,Y,L,J]:=G b hb;rw[uC λz=>w.nw i Y L b z J];exact(r.dom b hb).2
 |false =>
  refine#[X,Z,s,I,h.tr,?_,h.tm rfl,λ_ _ _ _ r _=>r];intro e;have q:=h.tr;cases t with
  |d x=>cases q with|d r n=>exact r
  |_=>cases e
end
end
noncomputable abbrev IA(K:QE)(vs:LN)(F H:Hp)(S:Ft)(ρ:kA)(σ:St)(Q:TK)(R:VK):Prop :=
 ∀v z x y h t n Z,Ste F H S ρ z x y h->Rl K z x y h σ->VR K vs H S ρ z x y h v t n Z->Q t n h->R v x
noncomputable abbrev eG(K:QE)(F H:Hp)(S:Ft)(ρ:kA)(σ:St)(Q:Bool->kA->Prop)(R:Bool->Hp->Prop):Prop :=
 ∀b z x y h,Ste F H S ρ z x y h->Rl K z x y h σ->Q b h->R b x
section
variable{K:QE}{ws:LN}{F H N L:Hp}{S S1:Ft}{ρ M:kA}{σ:St}{v w:V}{a b:T}{O Zb:uB}{Q:TK}{R:VK}{sa sb:Bool}
section
variable{J G:Hp}{C:Ft}{A:kA}{p:jv}{vs xs:LV}{ts:LT}{ds ks:List D}{x y:D}{X:Bool->Prop}{o:HO}{B:vt}{E:Bool->Hp->Prop}{n:String}{k:Bool}{Y:uB}
theorem IA.from(k:IA K ws F H S ρ σ Q R)(s:Ste F H S ρ J G C A):IA K ws J G C A σ Q R:=λv g f u h t n Z z e r q=>k v g f u h t n Z (s.trans z) e (r.from s.toStp) q
theorem eG.from{Q:Bool->kA->Prop}{R:Bool->Hp->Prop}(k:eG K F H S ρ σ Q R)(s:Ste F H S ρ J G C A):eG K J G C A σ Q R:=λb g f u h z e q=>k b g f u h (s.trans z) e q
theorem IA.vars{us:LN}(k:IA K ws F H S ρ σ Q R)(h:∀i∈us,i∈ws):IA K us F H S ρ σ Q R:=λv f e u z t n Z s I r q=>k v f e u z t n Z s I (r.vars h) q
theorem IA.d(k:IA K ws F H S ρ σ Q R)(s:Ste F H S ρ N L S1 M)(I:Rl K N L S1 M σ){x:D}{n:Bool}(r:Rep K N v x)(q:Q (.d x) n M):R v L:=k v N L S1 M _ n _ s I (VR.d n r) q
theorem IA.list(k:IA K ws F H S ρ σ Q R)(s:Ste F H S ρ N L S1 M)(I:Rl K N L S1 M σ)(u:L p=Js){W:uB}(r:Trs K N L Jt vs ts W)
  (l:∀b,W b->H b=Js∨U ρ S b) (f:Held N L S1 M W) (q:Q (.lst ts) Jt M):R (.ref p) (XA L p (.lst vs)):=by
 have j:∀b,L b≠Js->b≠p:=λb h z=>h (by rw[z];exact u);refine k _ N _ S1 M _ Jt (λb=>b=p∨W b) (s.new u _) (I.new u _) #[.lst ZA (I.fh.free u) (r.mono (.refl _) λb hb=>#[?_,(f.dom b hb).2]) (λz=>(f.dom p z).1 u) (λb=>QAZ),λ_ b hb=>?_,λz=>(by cases z),λ_ i g e b hb z=>?_] q;rw[xA (j b (f.dom b hb).1)];rcases hb with rfl|hb
 ·exact .inl (s.dm _ u)
 exact l b hb;rcases hb with rfl|hb
 ·exact(I.dom e z).1 u
 exact f.nw i g e b hb z
theorem IA.listD(k:IA K ws F H S ρ σ Q R)(s:Ste F H S ρ N L S1 M)(I:Rl K N L S1 M σ)(h:L p=Js)(r:Reps K N vs ds)(q:Q (.lst (ds.map T.d)) Jt M):R (.ref p) (XA L p (.lst vs)) :=
 k.list s I h (Trs.of_reps r) (λb z=>z.elim) .none q
theorem IA.tupD(k:IA K ws F H S ρ σ Q R)(s:Ste F H S ρ N L S1 M)(I:Rl K N L S1 M σ)(h:L p=Js){n:Bool}(r:Reps K N vs ds)(q:Q (.d (.tuple ds)) n M):R (.ref p) (XA L p (.tup vs)) :=
 IA.d k (s.newT h (I.fh.free h) _) (I.newT h _) (.tup (TC.of ZA) (r.mono (HB (I.fh.free h)))) q
theorem IA.tup(k:IA K ws F H S ρ σ Q R)(s:Ste F H S ρ N L S1 M)(I:Rl K N L S1 M σ){p:jv}(u:L p=Js){vs:LV}{ts:LT}{W:uB}(r:Trs K N L Jt vs ts W)
  (l:∀b,W b->H b=Js∨U ρ S b) (f:Held N L S1 M W) (q:Q (sF ts) Jt M):R (.ref p) (XA L p (.tup vs)):=by
 unfold sF at q;cases e:HD ts with
 |some ds=>rw[e]at q;exact k.tupD s I u (r.un e).1 q|none =>
  rw[e]at q;have j:∀b,L b≠Js->b≠p:=λb h z=>h (by rw[z];exact u);refine k _ N _ S1 M _ Jt (λb=>b=p∨W b) (s.new u _) (I.new u _) #[.tup ZA (I.fh.free u) (r.mono (.refl _) λb hb=>#[?_,(f.dom b hb).2]) (λz=>(f.dom p z).1 u) (λb=>QAZ),λ_ b hb=>?_,λz=>(by cases z),λ_ i g e b hb z=>?_] q;rw[xA (j b (f.dom b hb).1)];rcases hb with rfl|hb
  ·exact .inl (s.dm _ u)
  exact l b hb;rcases hb with rfl|hb
  ·exact(I.dom e z).1 u
  exact f.nw i g e b hb z
theorem Pf{B:Vy}(s:Ste F H S ρ N L S1 M)(I:Rl K N L S1 M σ)(r:Tr K N L sa v a O)(m:Tr K N L sb w b Zb)(h:binT B a.vw b.vw λz n=>Q z n M)(k:IA K ws F H S ρ σ Q R):E8 K B v w L R:=by
 have Z:∀{i j:Int},a.vw=.sc (.int i)->b.vw=.sc (.int j)->v=.int i/\w=.int j:=λe u=>#[r.int e,m.int u]
 cases B with
 |Add =>
  rcases h with⟨i,j,e,u,h⟩| ⟨x,y,e,u,h⟩| ⟨xs0,W,ds,es,e,u,e1,e2,hl,q⟩| ⟨xs0,W,ds,es,e,u,e1,e2,hn,hn2,hl,q⟩
  let#[rfl,rfl]:=Z e u;exact k.d s I (.int _) h;obtain rfl:=r.str e;obtain rfl:=m.str u;exact#[h.1,k.d s I (.str _) h.2];let#[p,xs,_,rfl,hp,rp,_]:=r.ls I.fh e;let#[p2,P,_,rfl,hq,rq,_]:=m.ls I.fh u;have g:=(rp.un e1).1;have f:=(rq.un e2).1;exact .inl #[xs,P,hp,hq,by rw[g.9,f.9];exact hl,λl hl=>k.listD s I hl (g.append f) q];let#[p,xs,_,rfl,hp,rp,_]:=r.tp I.fh e;let#[p2,P,_,rfl,hq,rq,_]:=m.tp I.fh u;have g:=(rp.un e1).1;have f:=(rq.un e2).1;refine .inr #[p,p2,xs,P,rfl,rfl,hp,hq,?_,by rw[g.9,f.9];exact hl,λz=>?_,λ_ l hl=>?_];intro z;subst z;cases g;exact hn rfl;subst z;cases f;exact h7 rfl hn2;exact k.tupD s I hl (g.append f) q
 |Sub=>let#[i,j,e,u,h]:=h;let#[rfl,rfl]:=Z e u;exact k.d s I (.int _) h|Mult =>
  rcases h with⟨i,j,e,u,h⟩| ⟨x,y,e,u,h⟩
  let#[rfl,rfl]:=Z e u;exact#[h.1,k.d s I (.int _) h.2];obtain rfl:=r.str e;obtain rfl:=m.int u;exact#[h.1,k.d s I (.str _) h.2]
 |FloorDiv=>let#[i,j,e,u,h]:=h;let#[rfl,rfl]:=Z e u;exact#[h.1,k.d s I (.int _) h.2]|Mod=>let#[i,j,e,u,h]:=h;let#[rfl,rfl]:=Z e u;exact#[h.1,k.d s I (.int _) h.2]|_=>exact h.elim
theorem da(neg:Bool)(u:Rep K L v x)(z:Rep K L w y)(h:Fl x y λk=>X (if neg then !k else k))(k:∀c,X c->R (.bl c) L):rEq K neg v w L R:=by
 have l:UD x/\UD y/\X (if neg then !PyData.eqv x y else qE x y)->(∃f e,Rep K L v f/\Rep K L w e/\UD f/\UD e/\R (.bl (if neg then !PyData.eqv f e else qE f e)) L):=λ#[r,m,q] =>
  #[x,y,u,z,r,m,k _ q]
 unfold Fl at h;split at h;cases u;cases z;exact k _ h;cases u;cases z;exact k _ h;cases u;cases z;exact k _ h;have g:=l h;rename_i n1 n2 n3;cases u with
 |int i =>
  cases z with|int j=>exact h7 rfl (n1 i j rfl)|_=>exact g
 |str i =>
  cases z with|str j=>exact h7 rfl (n2 i j rfl)|_=>exact g
 |bl i =>
  cases z with|bl j=>exact h7 rfl (n3 i j rfl)|_=>exact g
 |_=>exact g
theorem j3{F:Hp}{v w:V}{a b:D}(z:Rep K F v a)(h:Rep K F w b)(e:FA a=Jt)(u:FA b=Jt):Z8 v w=qE a b:=by cases z<;>cases h<;>first|exact h7 (show Ju=Jt from e) QG|exact h7 (show Ju=Jt from u) QG | (simp only[qE];rfl) | (simp only[qE])
theorem AS{F:Hp}{v:V}{a:D}(h:Rep K F v a)(z:FA a=Jt):ZF v=true:=by cases h<;>first|rfl|exact h7 (show Ju=Jt from z) QG
theorem KQ{F:Hp}(h:Reps K F vs ds)(f:ds.all FA=Jt):vs.all ZF=Jt :=
 Reps.ind (R:=λvs ds=>ds.all FA=Jt->vs.all ZF=Jt) (λ_=>rfl) (λh z f=>by rw[wK,Qe]at f ⊢;exact#[AS h f.1,z f.2]) h f
theorem PK{F:Hp}{v:V}{a:D}(z:Rep K F v a)(u:FA a=Jt):∀{vs:LV}{ds:List D},Reps K F vs ds->ds.all FA=Jt->inV v vs=ds.any λy=>qE y a
 |_,_,.nil,_=>rfl|_,_,.cons h t,f=>by rw[wK,Qe]at f;have e:=PK z u t f.2;unfold inV at e ⊢;rw[W0,W0,j3 h z f.1 u,e]
theorem TF{k:List Key}(h:Reps K F xs (k.map kD)):xs=k.map kV:=by
 induction k generalizing xs with
 |nil=>cases h;rfl|cons i k z =>
  cases h with|cons h t=>rw[QU,z t];cases i<;>(cases h;rfl)
theorem NF(q:List Key):∀(kvs:List KE),gG kvs q=(dA (kvs.map λp=>tD p.1) (tD q)).bind λn=>(kvs.map (·.2.2))[n]?
 |[]=>rfl|p::r=>by rw[QU,QU];unfold dA;by_cases e:p.1=q;rw[kP e,hQ (by rw[e])];rfl;rw[vP e,hI λz=>e (cY z),NF q r];cases dA (r.map λp=>tD p.1) (tD q)<;>rfl
theorem zI(q:Key):∀(kvs:List (Key×V)),BJ kvs q=(dA (kvs.map λp=>kD p.1) (kD q)).bind λn=>(kvs.map (·.2))[n]?
 |[]=>rfl|p::r=>by rw[QU,QU];unfold dA;by_cases e:p.1=q;rw[XJ e,hQ (by rw[e])];rfl;rw[UJ e,hI λz=>e (US z),zI q r];cases dA (r.map λp=>kD p.1) (kD q)<;>rfl
theorem CI.get{a:jv}{b:Bool}{k:D}(ha:L a=Jr o)(q:CI K L b o ks vs)(e:Rep K L w k)(hk:vF b k):NO K L a w ((dA ks k).bind λn=>vs[n]?):=by
 cases b with
 |true =>
  let#[u,h,rfl,rfl,rfl,i,_]:=q;let#[q,rfl]:=hk;cases e with|tup g f=>cases TF f;exact#[u,h,q,ha,i,g,(NF q h).symm]
 |false =>
  let#[z,rfl]:=hk;cases e;rcases q with⟨h,_,rfl,rfl,rfl,_⟩| ⟨u,rfl,rfl,rfl⟩
  exact .inl #[h,ha,(zI (.inr z) h).symm];exact .inr #[u,ha,rfl]
theorem VQ{b:Bool}{k:D}(q:CI K L b o ks vs):((dA ks k).bind λn=>vs[n]?).isSome=(dA ks k).isSome:=by
 cases e:dA ks k with
 |none=>rfl|some n =>
  have z:=(Qd.mp (bE e)).1;have h:n<vs.length:=by rw[<- q.len];exact z
  simp[h]
theorem FS{b neg:Bool}{a:jv}(ha:L a=Jr o)(q:CI K L b o ks vs)(z:Rep K L v x)(hk:vF b x)(h:R (.bl (if neg then !(dA ks x).isSome else(dA ks x).isSome)) L):VP K neg v (.ref a) L R :=
 .inr (.inr #[_,q.get ha z hk,by rw[VQ q];exact h])
theorem ka(neg:Bool)(z:Rep K L v x)(e:Rep K L w y)(h:Ul x y λk=>X (if neg then !k else k))(k:∀c,X c->R (.bl c) L):VP K neg v w L R:=by
 unfold Ul at h;split at h;cases z;cases e;exact k _ h;rename_i ds;have u:=e;cases e with
 |lst l f =>
  rcases h.1 with⟨g,fs⟩| ⟨j,i⟩
  refine .inl #[_,_,rfl,.inl l,AS z g,KQ f fs,?_];rw[PK z g f fs];exact k _ h.2;exact .inr (.inl #[_,ds,z,.inl u,j,i,k _ h.2])
 rename_i ds;have u:=e;cases e with
 |tup l f =>
  rcases h.1 with⟨g,fs⟩| ⟨j,i⟩
  refine .inl #[_,_,rfl,.inr l,AS z g,KQ f fs,?_];rw[PK z g f fs];exact k _ h.2;exact .inr (.inl #[_,ds,z,.inr u,j,i,k _ h.2])
 let#[b,s,hk,q]:=h;cases e with
 |@dct Z a o ks vs ds h m r =>
  have hl:ks.9=ds.length:=by rw[m.len,Reps.length r]
  rw[QAv (QAp hl)]at q;cases IU m s;exact FS h m z hk (k _ q)
 exact h.elim
theorem aN{g:Int->Int->Bool}(u:Rep K L v x)(z:Rep K L w y)(h:mW g x y X)(k:∀c,X c->R (.bl c) L):uW g v w L R:=by unfold mW at h;split at h;cases u;cases z;exact k _ h;exact h.elim
theorem xT(u:Rep K L v x)(z:Rep K L w y)(h:uT B x y X)(k:∀c,X c->R (.bl c) L):T3 K B v w L R:=by
 cases B with|Eq=>exact da Ju u z h k|NotEq=>exact da Jt u z h k|Lt=>exact aN u z h k|LtE=>exact aN u z h k|Gt=>exact aN u z h k|GtE=>exact aN u z h k|In=>exact ka Ju u z h k|NotIn=>exact ka Jt u z h k|Is=>let#[a,b,rfl,rfl,q]:=h;cases z;cases u;exact#[_,_,rfl,rfl,k _ q]|IsNot=>exact h.elim
theorem F8(f:Same N L)(z:Rep K L v x)(u:Tr K N L sb w b Zb)(h:G8 B x b X)(k:∀c,X c->R (.bl c) L):T3 K B v w L R:=by
 cases b with
 |d y=>exact xT z (u.rep f) h k|lst ts=>exact xT z (u.rep f) h k|tup ts=>exact xT z (u.rep f) h k|dct b ks ts =>
  let#[hk,h]:=h;cases u with
  |dct e g _ _ _ _ =>
   rcases h with⟨rfl,q⟩| ⟨rfl,q⟩
   exact FS (neg:=Ju) e (g.mono f) z hk (k _ q);exact FS (neg:=Jt) e (g.mono f) z hk (k _ q)
theorem CH(r:Reps K F xs ds):(!ds.isEmpty)=!xs.isEmpty:=by cases r<;>rfl
theorem NT(z:Rep K L v x)(h:vH x X)(k:∀c,X c->E c L):kF K v L E:=by
 unfold vH at h;split at h;cases z;exact k _ h;cases z;exact k _ h;cases z;exact k _ h;cases z;exact#[h.1,k _ h.2];cases z with|lst e u=>rw[CH u]at h;exact#[_,.inl #[_,e,rfl],k _ h]
 cases z with|tup e u=>rw[CH u]at h;exact#[_,.inr (.inl #[_,e,rfl]),k _ h]
 exact h.elim
theorem U4(z:Rep K L v x)(h:Cg x X)(k:∀c,X c->E c L):B4 v L E:=by unfold Cg at h;split at h;cases z;exact k _ h;exact h.elim
theorem yf(s:Ste F H S ρ N L S1 M)(I:Rl K N L S1 M σ)(W:Tr K N L sa v a O)(za:∀b,O b->∃(i:Nat) (s:Sl),i∈ws/\M[i]?=Jr (Jr s)/\S1 i b)(m:Tr K N L sb w b Zb)(h:GK a.vw b.vw λz=>Q z Ju M)(k:IA K ws F H S ρ σ Q R):bW K v w L R:=by
 rcases h with⟨z,i,c,j,g,f,e,q⟩| ⟨ts,i,d,j,g,f,q⟩| ⟨ts,i,d,j,g,f,q⟩
 obtain rfl:=W.str j;obtain rfl:=m.int g;exact#[f,c,e,k.d s I (.str _) q];let#[p,xs,Z',rfl,hp,l,P]:=W.ls I.fh j;obtain rfl:=m.int g;let#[x,Z,e,r,u]:=l.at f;exact#[xs,x,.inl hp,e,k _ N L S1 M _ Ju Z s I #[r,λz=>(by cases z),λ_ b hb=>za b (P b (u b hb)),λz=>(by cases z)] q];let#[p,xs,Z',rfl,hp,l,P]:=W.tp I.fh j;obtain rfl:=m.int g;let#[x,Z,e,r,u]:=l.at f;exact#[xs,x,.inr hp,e,k _ N L S1 M _ Ju Z s I #[r,λz=>(by cases z),λ_ b hb=>za b (P b (u b hb)),λz=>(by cases z)] q]
theorem Jf(s:Ste F H S ρ N L S1 M)(I:Rl K N L S1 M σ)(l:Tr K N L sa v a O)(e:∀b,O b->∃(i:Nat) (s:Sl),i∈ws/\M[i]?=Jr (Jr s)/\S1 i b)(j:Rep K L w y)(h:dO a.vw y λz=>Q z Ju M)(k:IA K ws F H S ρ σ Q R):bW K v w L R:=by
 let#[b,ks,ts,n,d,ea,hk,hf,W,q]:=h;let#[p,o,vs,Z',rfl,P,dk,f,m,_]:=l.dc I.fh ea;let#[x,Z,h2,r,u]:=f.get W;have g:=(dk.mono I.fh).get P j hk;rw[hf]at g;have g:NO K L p w (vs[n]?):=g;rw[h2]at g;have fin:=k _ N L S1 M _ Ju Z s I #[r,λz=>(by cases z),λ_ b hb=>e b (m b (u b hb)),λz=>(by cases z)] q;cases w with|str z=>exact#[x,g,fin]|ref c=>exact#[x,g,fin]|_=>exact g.elim
theorem Reps.cut(r:Reps K F xs ds)(h z:Option Int):Reps K F (FQ xs h z) (nD ds h z):=by unfold FQ nD;rw[r.9];exact(r.drop _).take _
theorem Bc{j m:Option Int}(s:Ste F H S ρ N L S1 M)(I:Rl K N L S1 M σ)(g:Tr K N L sa v a O)(h:XG a.vw j m λz n=>Q z n M)(k:IA K ws F H S ρ σ Q R):Cm K v j m L R:=by
 rcases h with⟨z,u,h⟩| ⟨ts,ds,u,e,q⟩| ⟨ts,ds,u,e,n,q⟩
 obtain rfl:=g.str u;exact#[h.1,k.d s I (.str _) h.2];let#[p,xs,_,rfl,i,f,_]:=g.ls I.fh u;exact .inl #[p,xs,rfl,i,λl hl=>k.listD s I hl ((f.un e).1.cut _ _) q];let#[p,xs,_,rfl,i,f,_]:=g.tp I.fh u;refine .inr #[p,xs,rfl,i,by rw[(f.un e).1.length];exact n,λl hl=>k.tupD s I hl ((f.un e).1.cut _ _) q]
theorem O6{P:Option Int->Prop}{z:Option Int->Hp->Prop}(u:Rep K L v x)(h:YD x P)(k:∀o,P o->z o L):mK v L z:=by unfold YD at h;split at h;cases u;exact k _ h;exact h.elim
noncomputable def Jl:D->Jw
 | .none=>.type "NoneType"|.bool _=>.type "bool"|.int _=>.type "int"|.str _=>.type "str"|.list _=>.type "list"|.tuple _=>.type "tuple"|.dict _=>.type "dict"
theorem Rep.ty(e:Rep K L v x):TyOf K L v (Jl x)∨Fp K L v (Jl x):=by
 cases e with
 |non=>exact .inl .non|bl b=>exact .inl (.bl _)|int b=>exact .inl (.int _)|str b=>exact .inl (.str _)|lst h u=>exact .inr (.inl #[_,_,rfl,h,rfl])|tup h u=>exact .inr (.inr #[_,_,rfl,h,rfl])|@dct b _ _ _ _ _ h q _ =>
  cases b with
  |true=>let#[f,z,rfl,_]:=q;exact .inl (.dT h)|false =>
   rcases q with⟨z,_,rfl,_⟩| ⟨f,rfl,_⟩
   exact .inl (.dK h);exact .inl (.dT h)
theorem He(h:isD n x=Jr k)(z:xV n=Jt):QCh K (Jl x) (.type n)=Jr k:=by simp only[xV,wj,beq_iff_eq]at z;rcases z with((((rfl|rfl)|rfl)|rfl)|rfl)|rfl<;>cases x<;>simp[isD]at h<;>subst h<;>rfl
theorem Ie(z:Rep K L v x)(h:isD n x=Jr k)(u:xV n=Jt)(q:R (.bl k) L):Ec K [v,.ty n] L R :=
 #[Jl x,.type n,k,z.ty,rfl,He h u,q]
inductive Tn(K:QE)(F H:Hp)(Y:uB):LV->LT->Prop where
 |nil:Tn K F H Y [] []
 |cons {v:V}{t:T}{vs:LV}{ts:LT}{Z:uB}:Tr K F H Ju v t Z->(∀b,Z b->Y b)->Tn K F H Y vs ts->Tn K F H Y (v::vs) (t::ts)
theorem KJ(ts:LT):∀{xs:List (T×Bool)},YL xs=ts->GB xs=ts.map T.vw
 |[],h=>by subst h;rfl|p::r,h=>by subst h;simp only[GB,YL,QU,KJ _ rfl]
theorem Tn.one{x:Vw}(h:Tn K F H Y vs ts)(e:ts.map T.vw=[x]):∃v t Z,vs=[v]/\ts=[t]/\t.vw=x/\Tr K F H Ju v t Z/\∀b,Z b->Y b:=by
 cases h with
 |nil=>cases e|cons r z t =>
  simp only[QU,QAb]at e;cases t with|nil=>exact#[_,_,_,rfl,rfl,e.1,r,z]|cons _ _ _=>simp at e
theorem Tn.two{x y:Vw}(h:Tn K F H Y vs ts)(e:ts.map T.vw=[x,y]):∃v w t u Z f,vs=[v,w]/\ts=[t,u]/\t.vw=x/\u.vw=y/\Tr K F H Ju v t Z/\Tr K F H Ju w u f/\(∀b,Z b->Y b)/\(∀b,f b->Y b):=by
 cases h with|nil=>cases e|cons r z t=>simp only[QU,QAb]at e;let#[v,u,f,rfl,rfl,j,i,g]:=t.one e.2;exact#[_,_,_,_,_,_,rfl,rfl,e.1,j,r,i,z,g]
theorem mC:∀{xs:LV}{z:LS},Reps K F xs (z.map Jx)->xs=z.map V.str
 |_,[],.nil=>rfl|_,y::z,.cons h t=>by cases h;rw[QU,mC t]
theorem kI:∀(h:LS),Reps K F (h.map V.str) (h.map Jx)
 |[]=>.nil|y::h=>.cons (.str y) (kI h)
theorem zW{α:Type}{g:α->D}{u:LV}(W:xs.Perm u):∀{l:List α},Reps K F xs (l.map g)->∃z:List α,z.Perm l/\Reps K F u (z.map g):=by
 induction W with
 |nil=>intro l r;exact#[l,Wn _,r]|cons x _ q =>
  intro l r;cases l with
  |nil=>cases r|cons a l=>cases r with|cons h t=>let#[z,p,v]:=q t;exact#[a::z,p.cons _,.cons h v]
 |swap x y l0 =>
  intro l r;cases l with
  |nil=>cases r|cons a l=>cases l with
   |nil=>cases r with|cons h t=>cases t
   |cons b l=>cases r with
    |cons h t=>cases t with|cons I t=>exact#[b::a::l,QEJ.swap _ _ _,.cons I (.cons h t)]
 |trans _ _ Z s=>intro l r;let#[P,j,f]:=Z r;let#[m,i,e]:=s f;exact#[m,i.trans j,e]
theorem TR{ls:List (LS)}(h:Reps K F xs (ls.map uD)):∀x∈xs,∃a,∃ss:LS,x=.ref a/\gC K F a (ss.map V.str):=by
 induction ls generalizing xs with
 |nil=>cases h;exact λ_ z=>nomatch z
 |cons l ls u =>
  cases h with
  |cons r t =>
   intro x h;rcases QK.mp h with e|h;subst e;cases r with|lst q r=>exact#[_,l,rfl,by rw[<- mC r];exact q]
   exact u t x h
theorem mU{α:Type}{f:α->D}:∀{z:List α}{xs:LV},Reps K F xs (z.map f)->Kv (λx r=>Rep K F x (f r)) xs z
 |[],_,.nil=>.nil|_::_,_,.cons h t=>.cons h (mU t)
theorem eU{α:Type}{f:α->D}:∀{z:List α}{xs:LV},Kv (λx r=>Rep K F x (f r)) xs z->Reps K F xs (z.map f)
 |_,_,.nil=>.nil|_,_,.cons h t=>.cons h (eU t)
theorem zg{bi:Bi}(s:Ste F H S ρ N L S1 M)(I:Rl K N L S1 M σ)(m:Tn K N L Y vs ts)(h:tX bi (ts.map T.vw) λz n=>Q z n M)(k:IA K ws F H S ρ σ Q R):ck K bi vs L R:=by
 cases bi with
 |len =>
  rcases h with⟨z,e,h⟩| ⟨W,e,h⟩| ⟨W,e,h⟩
  let#[v,t,Z,rfl,rfl,e,r,_]:=m.one e;obtain rfl:=r.str e;exact .inl #[_,rfl,h.1,k.d s I (.int _) h.2];let#[v,t,Z,rfl,rfl,e,r,_]:=m.one e;let#[p,xs,_,rfl,f,g,_]:=r.ls I.fh e;exact .inr #[_,xs,rfl,.inl f,by rw[g.9];exact k.d s I (.int _) h];let#[v,t,Z,rfl,rfl,e,r,_]:=m.one e;let#[p,xs,_,rfl,f,g,_]:=r.tp I.fh e;exact .inr #[_,xs,rfl,.inr f,by rw[g.9];exact k.d s I (.int _) h]
 |any=>let#[W,bs,e,hb,q]:=h;let#[v,t,Z,rfl,rfl,e,r,_]:=m.one e;let#[p,xs,_,rfl,f,g,_]:=r.ls I.fh e;obtain rfl:=(g.un hb).1.bools;exact#[bs,f,k.d s I (.bl _) q]|all=>let#[W,bs,e,hb,q]:=h;let#[v,t,Z,rfl,rfl,e,r,_]:=m.one e;let#[p,xs,_,rfl,f,g,_]:=r.ls I.fh e;obtain rfl:=(g.un hb).1.bools;exact#[bs,f,k.d s I (.bl _) q]|list=>let#[W,ds,e,hb,q]:=h;let#[v,t,Z,rfl,rfl,e,r,_]:=m.one e;let#[p,xs,_,rfl,f,g,_]:=r.ls I.fh e;exact#[_,xs,rfl,.inl f,λl hl=>k.listD s I hl (g.un hb).1 q]|tuple=>let#[W,ds,e,hb,q]:=h;let#[v,t,Z,rfl,rfl,e,r,_]:=m.one e;let#[p,xs,_,rfl,f,g,_]:=r.ls I.fh e;exact#[_,xs,rfl,f,λl hl=>k.tupD s I hl (g.un hb).1 q]|max=>let#[i,j,e,q]:=h;let#[v,w,t,u,Z1,Z2,rfl,rfl,e1,e2,r1,r2,_]:=m.two e;obtain rfl:=r1.int e1;obtain rfl:=r2.int e2;exact#[i,j,rfl,k.d s I (.int _) q]|sorted =>
  rcases h with⟨W,ss,e,hb,P,q⟩| ⟨W,ls,e,hb,P,q⟩
  let#[v,t,Z,rfl,rfl,e,r,_]:=m.one e;let#[p,xs,_,rfl,f,g,_]:=r.ls I.fh e;obtain rfl:=mC (g.un hb).1;exact#[_,rfl,.inl #[ss,f,P,λl ss' hl p1 p2=>k.listD s I hl (kI ss') (q ss' p1 p2)]];let#[v,t,Z,rfl,rfl,e,r,_]:=m.one e;let#[p,xs,_,rfl,f,g,_]:=r.ls I.fh e;have rr:=(g.un hb).1;refine#[_,rfl,.inr #[xs,f,by rw[Reps.length rr,QF];exact P,λx hx=>?_,λl ys hl f=>?_]];let#[a,ss,e,sq]:=TR rr x hx;exact#[a,ss,e,I.fh.seq sq];let#[ls',p1,r1]:=zW f.symm rr;exact k.listD s I hl r1 (q ls' p1)
theorem Ve{m:Mt}(s:Ste F H S ρ N L S1 M)(I:Rl K N L S1 M σ)(f:Tr K N L sa v a O)(i:Tn K N L Y vs ts)(h:Xg m a.vw (ts.map T.vw) λz n=>Q z n M)(k:IA K ws F H S ρ σ Q R):O7 K m v vs L R:=by
 cases m with|join=>let#[z,P,u,W,e,j,hl,q]:=h;let#[w,t,Z,rfl,rfl,e,r,_]:=i.one e;obtain rfl:=f.str W;let#[p,xs,_,rfl,l,g,_]:=r.ls I.fh e;obtain rfl:=mC (g.un j).1;exact#[z,p,u,rfl,rfl,l,hl,k.d s I (.str _) q]|_=>exact h.elim
theorem rj{x:Vw}(h:x.isS=Jt):∃z,x=.sc (.str z):=by
 cases x with
 |sc d=>cases d with|str z=>exact#[z,rfl]|_=>exact(QG h).elim
 |_=>exact(QG h).elim
theorem jj{m:Mt}(u:Tr K N L sa v a O)(h:YS m a.vw=Jt):UX K m.ty v L:=by
 have h:=yA h;let#[z,e]:=rj h.1;obtain rfl:=u.str e;cases m with|join=>rfl|_=>exact(QG h.2).elim
end
end
inductive AV(K:QE)(F H:Hp):List Md->LV->List (T×Bool)->(jv->Prop)->(jv->Prop)->Prop where
 |nil {md:List Md}{W Y:uB}:(∀b,¬ W b)->AV K F H md [] [] W Y
 |chg {md:List Md}{v:V}{vs:LV}{x:T}{xs:List (T×Bool)}{W Y:uB}:(md.headD .ky).isMut=Jt->AV K F H md.tail vs xs W Y->AV K F H md (v::vs) ((x,Jt)::xs) W Y
 |new {md:List Md}{v:V}{vs:LV}{x:T}{xs:List (T×Bool)}{Z W W' Y:uB}:(md.headD .ky).isMut=Ju->Tr K F H Jt v x Z->AV K F H md.tail vs xs W' Y->(∀b,Z b->¬ W' b)->(∀b,W b↔Z b∨W' b) ->
   AV K F H md (v::vs) ((x,Jt)::xs) W Y
 |tmp {md:List Md}{v:V}{vs:LV}{x:T}{xs:List (T×Bool)}{Z W Y:uB}:(md.headD .ky).isMut=Ju->Tr K F H Ju v x Z->(∀b,Z b->Y b)->AV K F H md.tail vs xs W Y ->
   AV K F H md (v::vs) ((x,Ju)::xs) W Y
section
variable{K:QE}{F H o l:Hp}{S S1:Ft}{ρ g:kA}{σ:St}
section
variable{Y W:uB}{md:List Md}{vs:LV}{xs:List (T×Bool)}{ws:LN}{c:Hp}{w:Ft}{y:kA}
theorem AV.sub{u:uB}(h:AV K F H md vs xs W Y)(k:∀b,Y b->u b):AV K F H md vs xs W u:=by
 induction h with|nil h=>exact .nil h|chg h t x=>exact .chg h (x k)|new h r t n q x=>exact .new h r (x k) n q|tmp h r z t x=>exact .tmp h r (λb hb=>k b (z b hb)) (x k)
theorem AV.dom(h:AV K F H md vs xs W Y):∀b,W b->H b≠Js/\F b=none:=by
 induction h with|nil h=>exact λb hb=>h7 hb (h b)|chg h t x=>exact x|new h r t n q x=>exact λb hb=>((q b).mp hb).elim (r.dom b) (x b)|tmp h r z t x=>exact x
theorem AV.length(h:AV K F H md vs xs W Y):vs.9=xs.length:=by
 induction h with|nil h=>rfl|chg h t x=>simp[x]|new h r t n q x=>simp[x]|tmp h r z t x=>simp[x]
theorem AV.trs(h:AV K F H md vs xs W Y):(∀(i:Nat),(md.getD i .ky).isMut=Ju)->cE xs=Jt->Trs K F H Jt vs (zF xs) W:=by
 induction h with
 |nil h=>exact λ_ _=>.nil h|@chg md _ _ _ _ _ _ h t u =>
  intro m;have:=m 0;cases md with|nil=>cases h|cons a r=>exact h7 h (by simpa using this)
 |@new md v vs x xs Z W k Y h r t n q u =>
  intro m e;simp only[cE,Qe]at e;exact .cons r (u (λi=>by cases md with|nil=>exact m i|cons a md=>exact m (i+1)) e.2) n q
 |@tmp md v vs x xs Z W Y h r z t u =>
  intro m e;simp only[cE,Qe]at e;refine .cons (S1:=λ_=>False) ?_ (u (λi=>by cases md with|nil=>exact m i|cons a md=>exact m (i+1)) e.2) (λ_ z=>z.elim) λb=>by simp
  cases x with
  |d x=>cases r with|d r n=>exact .d r λ_ z=>z
  |_=>exact h7 e.1 (by simp[rG,T.isD])
theorem se(i:Nat):((([]:List Md).getD i .ky).isMut)=false:=rfl
theorem AV.tn(h:AV K F H md vs xs W Y)(e:Same F o)(k:∀b,W b->o b=H b)(f:∀b,Y b->F b=Js->o b=Js)(hm:md=[]):Tn K o H Y vs (YL xs):=by
 induction h with|nil h=>exact .nil|chg h t a=>subst hm;cases h|@new md v vs x xs Z W j Y h r t n q a=>subst hm;refine .cons (Z:=λ_=>False) ?_ (λb z=>z.elim) (a (λb hb=>k b ((q b).mpr (.inr hb))) f rfl);exact .d (r.kept e λb u hb i=>by rw[k b ((q b).mpr (.inl hb))];exact i) λ_ z=>z|@tmp md v vs x xs Z W Y h r z t a=>subst hm;exact .cons (r.mono e λb hb=>#[rfl,f b (z b hb) (r.dom b hb).2]) z (a k f rfl)
structure AR(K:QE)(ws:LN)(md:List Md)(c:Hp)(w:Ft)(y:kA)(F H:Hp)(S:Ft)(ρ:kA)(vs:LV)(xs:List (T×Bool))(W Y:uB):Prop where
 av:AV K F H md vs xs W Y
 fr:∀b,W b->c b=Js∨U y w b
 tm:∀b,Y b->∃(i:Nat) (s:Sl),i∈ws/\ρ[i]?=Jr (Jr s)/\S i b
 nw:∀(i:Nat) s,ρ[i]?=Jr (Jr s)->∀b,W b->¬ S i b
theorem AR.held(h:AR K ws md c w y F H S ρ vs xs W Y):Held F H S ρ W:=#[h.av.dom,h.nw]
theorem AR.from{v u:Hp}{z:Ft}{x:kA}(s:Stp F H S ρ o l S1 g)(h:AR K ws md l S1 g v u z x vs xs W Y):AR K ws md H S ρ v u z x vs xs W Y :=
 #[h.av,λb hb=>by rcases h.fr b hb with q|q;exact .inl (s.dm b q);exact(s.uu b q).symm,h.tm,h.nw]
theorem AR.vars{us:LN}(h:AR K ws md c w y F H S ρ vs xs W Y)(k:∀i∈ws,i∈us):AR K us md c w y F H S ρ vs xs W Y :=
 #[h.av,h.fr,λb hb=>let#[i,s,z,x]:=h.tm b hb;#[i,s,k i z,x],h.nw]
theorem AR.frz{ws:LN}{vs:LV}{xs:List (T×Bool)}{W Y:uB}(s:Ste F H S ρ o l S1 g)(I:Rl K o l S1 g σ)(h:AR K ws [] H S ρ o l S1 g vs xs W Y) :
  ∃v,Ste F H S ρ v l S1 g/\Rl K v l S1 g σ/\Tn K v l Y vs (YL xs) /\
   ∀st k t' u,Tr K o l st k t' u->(∀b,u b->∃(i:Nat) (s:Sl),g[i]?=Jr (Jr s)/\S1 i b)->Tr K v l st k t' u:=by
 have x:=h.held;have f:=kG (H:=l) λb hb=>(x.dom b hb).2;refine#[FH o l W,s.frz (λb hb=>(x.dom b hb).2) h.fr,I.frz x,h.av.tn f (λb hb=>DH hb) (λb m n=>?_) rfl,λst k t' u r j=>r.mono f λb hb=>#[rfl,?_]];let#[i,a,_,e,p]:=h.tm b m;rw[uC λz=>h.nw i a e b z p];exact n;let#[i,a,q,e]:=j b hb;rw[uC λz=>x.nw i a q b z e];exact(r.dom b hb).2
noncomputable def lB:List Md->LV->LV
 |_,[]=>[]|md,v::vs=>match md.headD .ky with
  | .chg=>v::lB md.tail vs|_=>lB md.tail vs
noncomputable abbrev Sk(K:QE)(p:PX)(md:List Md)(F H:Hp)(S:Ft)(ρ:kA)(σ:St)(Q:List (T×Bool)->kA->Prop)(R:LV->Hp->Prop):Prop :=
 ∀vs u x z h xs W Y,Ste F H S ρ u x z h->Rl K u x z h σ->AR K (fG p) md H S ρ u x z h vs xs W Y->(lB md vs).map (λv=>Jr (Jr v))=(cA md p).map (λj=>σ[j]?)->Q xs h->R vs x
def Kk(K:QE)(F H:Hp)(x:XD)(h:Option jv):Prop:=∃a fs,h=Jr a/\H a=Jr (.xd fs)/\Kv (λ(p:Str×V) (q:Str×D)=>p.1=q.1/\Rep K F p.2 q.2) fs x.2
def rE(K:QE)(F H:Hp)(S:Ft)(ρ:kA)(E:XE)(a:XK):Prop:=∀x v u h k z,Stp F H S ρ u h k z->Same u h->Kk K u h x v->E x->a x.1 v h
theorem rE.from{E:XE}{u:XK}(h:rE K F H S ρ E u)(s:Stp F H S ρ o l S1 g):rE K o l S1 g E u:=λx k e b a z v f r q=>h x k e b a z (s.trans v) f r q
theorem rE.never:rE K F H S ρ (λ_=>False) (λ_ _ _=>False):=λ_ _ _ _ _ _ _ _ _ z=>z
inductive ArgsR(K:QE)(F H:Hp)(Y:uB):List Md->LV->LT->Prop where
 |nil {md:List Md}:ArgsR K F H Y md [] []
 |chg {md:List Md}{v:V}{vs:LV}{t:T}{ts:LT}:md.headD .ky=.chg->ArgsR K F H Y md.tail vs ts->ArgsR K F H Y md (v::vs) (t::ts)
 |rd {md:List Md}{v:V}{vs:LV}{t:T}{ts:LT}{Z:uB}:md.headD .ky≠.chg->Tr K F H Ju v t Z->(∀b,Z b->Y b)->ArgsR K F H Y md.tail vs ts->ArgsR K F H Y md (v::vs) (t::ts)
structure Frm(M:uB)(F H F' H':Hp):Prop where
 ff:Same F F'
 fh:Same F' H'
 hh:∀b u,H b=Jr u->¬ M b->H' b=Jr u
 dm:∀b,H' b=Js->H b=Js
 fn:∀b,F b=Js->F' b≠Js->M b∨H b=Js
def lift(K:QE)(P:PSp):Sp:=λvs H Q E=>∃(F:Hp) (u:LT) (M Y:uB),Same F H/\ArgsR K F H Y P.md vs u/\Trs K F H Jt (lB P.md vs) (UB P.md u) M/\(∀b,Y b->¬ M b) /\
 P.run u (λr e=>∀v z h Z k,Frm M F H z h->Tr K z h Jt v r Z->Trs K z h Jt (lB P.md vs) e k->(∀b,Z b->¬ k b)->(∀b,Z b∨k b->M b∨H b=Js)->Q v h)
  (λx=>∀a z h,Frm M F H z h->Kk K z h x a->E x.1 a h)
structure GOk(K:QE)(Γ:Ev)(Ψ:PEv):Prop where
 sp:∀f vs H Q E,lift K (Ψ.sp f) vs H Q E->Γ.sp f vs H Q E
 va:∀x d,Ψ.va x=Jr d->∀F,Rep K F (Γ.va x) d
structure PSnd(K:QE)(Γ:Ev)(Ψ:PEv)(p:PX):Prop where
 e:∀{E:XE}{EK:XK}{F H:Hp}{S:Ft}{ρ:kA}{σ:St}{Q:TK}{R:VK},Rl K F H S ρ σ->rE K F H S ρ E EK->(pe Ψ p E).e ρ Q->IA K (fG p) F H S ρ σ Q R->(wp K Γ p EK).e σ H R
 t:∀{E:XE}{EK:XK}{F H:Hp}{S:Ft}{ρ:kA}{σ:St}{Q:Bool->kA->Prop}{R:Bool->Hp->Prop},Rl K F H S ρ σ->rE K F H S ρ E EK->(pe Ψ p E).t ρ Q->eG K F H S ρ σ Q R->(wp K Γ p EK).t σ H R
 a:∀{E:XE}{EK:XK}{F H:Hp}{S:Ft}{ρ:kA}{σ:St}{md:List Md}{Q:List (T×Bool)->kA->Prop}{R:LV->Hp->Prop},Rl K F H S ρ σ->rE K F H S ρ E EK->(∀j∈cA md p,∃v,σ[j]?=Jr (Jr v))->(pe Ψ p E).a md ρ Q->Sk K p md F H S ρ σ Q R->(wp K Γ p EK).a σ H R
end
end
section
variable{K:QE}{Γ:Ev}{Ψ:PEv}{E:XE}{u:XK}{F H B A:Hp}{S S1:Ft}{ρ U:kA}{σ:St}
section
variable{b a as:PX}{RR:LV->Hp->Prop}{P:List (T×Bool)->kA->Prop}{Y Z:uB}{t:T}{st:Bool}{ts:LT}{v:V}
theorem Bh(N:PSnd K Γ Ψ b)(I:Rl K F H S ρ σ)(X:rE K F H S ρ E u){x:T}{P:T×Bool->kA->Prop}{RR:VK}(h:sq x ρ (cu (pe Ψ b E).e) P)
  (M:∀w o g S' k y m Z,Ste F H S ρ o g S' k->Rl K o g S' k σ->(∀st v l,Tr K F H st v x l->Tr K o g st v x l)->(x.isD=Ju->k=ρ/\S'=S)->VR K (fG b) H S ρ o g S' k w y m Z->P (y,m) k->RR w g) :
  (wp K Γ b u).e σ H RR:=by
 unfold sq at h;cases p:x.isD with
 |true =>
  rw[p,hQ rfl]at h;refine N.e I X h λw o g S' k y m Z s C r q=>M w o g S' k y m Z s C (λst v l W=>?_) (λz=>(by rw[p]at z;cases z)) r q;cases x with
  |d x=>cases W with|d r n=>exact .d (r.mono s.ff) n
  |_=>cases p
 |false =>
  rw[p,hI (by simp)]at h;have X':rE K F H S (lockA ρ) E u:=λx dx F2 H2 S2 O Q f r q=>X x dx F2 H2 S ρ Q.unlockA f r q;refine N.e I.lockA X' h λw o g S' k y m Z s C r q=>?_;have kp:∀st v t l,Tr K F H st v t l->Tr K o g st v t l:=λst v t l W=>s.keep W λb _=>EC b;refine M w o g S ρ y m Z #[s.unlockA,λj t h=>#[t,h]] (I.unlockA s.toStp C.fh) (λst v l W=>kp st v _ l W) (λ_=>#[rfl,rfl]) #[r.tr,λe b hb=>?_,λe b hb=>?_,λe i L hi b hb z=>?_] q;exact .inl ((r.fr e b hb).elim id λz=>h7 z (EC b));let#[i,L,h1,J,G]:=r.tm e b hb;cases L with
  |own t=>let#[t0,h0]:=s.ow i t J;let#[_,_,e0]:=sB h0;cases e0|kw t =>
   cases p:t.isD with|true=>exact h7 G (C.isD J p)|false=>let#[g1,g2]:=s.bo i t J p;let#[R,g3,_]:=sB g1;rw[g2]at G;exact#[i,R,h1,g3,G]
  rcases r.fr e b hb with q|q
  ·exact(I.dom hi z).1 q
  exact h7 q (EC b)
theorem Dh{md:List Md}(O:PSnd K Γ Ψ b)(I:Rl K F H S ρ σ)(X:rE K F H S ρ E u)(hm:∀j∈cA md b,∃v,σ[j]?=Jr (Jr v)){x:T}(h:sq x ρ ((pe Ψ b E).a md) P)
  (N:∀ws l e S' k L W Y,Ste F H S ρ l e S' k->Rl K l e S' k σ->(∀st v g,Tr K F H st v x g->Tr K l e st v x g)->(x.isD=Ju->k=ρ/\S'=S)->AR K (fG b) md H S ρ l e S' k ws L W Y->(lB md ws).map (λv=>Jr (Jr v))=(cA md b).map (λj=>σ[j]?)->P L k->RR ws e) :
  (wp K Γ b u).a σ H RR:=by
 unfold sq at h;cases m:x.isD with
 |true =>
  rw[m,hQ rfl]at h;refine O.a I X hm h λw l e S' k y W Y s p r C q=>N w l e S' k y W Y s p (λst v g o=>?_) (λz=>(by rw[m]at z;cases z)) r C q;cases x with
  |d x=>cases o with|d r n=>exact .d (r.mono s.ff) n
  |_=>cases m
 |false =>
  rw[m,hI (by simp)]at h;have X':rE K F H S (lockA ρ) E u:=λx dx F2 H2 S2 Q R f r q=>X x dx F2 H2 S ρ R.unlockA f r q;refine O.a I.lockA X' hm h λw l e S' k y W Y s p r C q=>?_;have kp:∀st v t g,Tr K F H st v t g->Tr K l e st v t g:=λst v t g o=>s.keep o λb _=>EC b;refine N w l e S ρ y W Y #[s.unlockA,λj t h=>#[t,h]] (I.unlockA s.toStp p.fh) (λst v g o=>kp st v _ g o) (λ_=>#[rfl,rfl]) #[r.av,λb hb=>?_,λb hb=>?_,λi M hi b hb z=>?_] C q;exact .inl ((r.fr b hb).elim id λz=>h7 z (EC b));let#[i,M,h1,J,G]:=r.tm b hb;cases M with
  |own t=>let#[t0,h0]:=s.ow i t J;let#[_,_,e0]:=sB h0;cases e0|kw t =>
   cases m:t.isD with|true=>exact h7 G (p.isD J m)|false=>let#[g1,g2]:=s.bo i t J m;let#[s0,g3,_]:=sB g1;rw[g2]at G;exact#[i,s0,h1,g3,G]
  rcases r.fr b hb with q|q
  ·exact(I.dom hi z).1 q
  exact h7 q (EC b)
theorem VD(l:PSnd K Γ Ψ a)(I:Rl K F H S ρ σ)(X:rE K F H S ρ E u){P:TK}{RR:VK}(h:(pe Ψ a E).e ρ P)
  (j:∀v w z S' y x n Z,Ste F H S ρ w z S' y->Rl K w z S' y σ->rE K w z S' y E u->Tr K w z Ju v (vA x n) Z->(rG x n=Jt->Rep K w v x.er)->(∀b,Z b->∃(i:Nat) (s:Sl),i∈fG a/\y[i]?=Jr (Jr s)/\S' i b)->P x n y->RR v z) :
  (wp K Γ a u).e σ H RR:=by
 refine l.e I X h λv w z S' y x n Z s W r q=>?_;let#[C,o,k,p,g,m,f,_]:=r.frz s W;exact j v C z S' y x n o k p (X.from k.toStp) g m f q
theorem vY(ia:PSnd K Γ Ψ a)(ib:PSnd K Γ Ψ b)(I:Rl K F H S ρ σ)(X:rE K F H S ρ E u){P:T->Bool->T->Bool->kA->Prop}{RR:V->V->Hp->Prop}
  (h:(pe Ψ a E).e ρ λx n U=>sq (vA x n) U (cu (pe Ψ b E).e) λy k=>P x n y.1 y.2 k)
  (kk:∀v w l f S' z x n y m j Zb,Ste F H S ρ l f S' z->Rl K l f S' z σ->rE K l f S' z E u->Tr K l f Ju v (vA x n) j->(∀b,j b->∃(i:Nat) (s:Sl),i∈fG a/\z[i]?=Jr (Jr s)/\S' i b)->Tr K l f Ju w (vA y m) Zb ->
   P x n y m z->RR v w f):(wp K Γ a u).e σ H λv A=>(wp K Γ b u).e σ A λw q=>RR v w q:=by
 refine VD ia I X h λv B A S1 U x n j M I1 X1 o _ G R=>?_;refine Bh ib I1 X1 R λw F2 q C k y m Z L I2 kp hs O Q=>?_;let#[F3,Z3,J,I3,N,_,_,k3]:=O.frz L I2;have W:∀b,j b->∃(i:Nat) (s:Sl),i∈fG a/\k[i]?=Jr (Jr s)/\C i b:=by
  cases p:(vA x n).isD with
  |true =>
   intro b hb;exfalso;generalize vA x n=t at o p;cases o with|d r n=>exact n b hb|_=>cases p
  |false=>let#[e1,e2]:=hs p;rw[e1,e2];exact G
 have g:=M.trans J;exact kk v w F3 q C k x n y m j Z3 g I3 (X.from g.toStp) (k3 _ _ _ _ (kp _ _ _ o) λb hb=>let#[i,s,_,h2]:=W b hb;#[i,s,h2]) W N Q
theorem YT(e:PSnd K Γ Ψ as)(I:Rl K F H S ρ σ)(X:rE K F H S ρ E u)(h:(pe Ψ as E).a [] ρ P)
  (k:∀vs z y S' x xs Y,Ste F H S ρ z y S' x->Rl K z y S' x σ->rE K z y S' x E u->Tn K z y Y vs (YL xs)->(∀b,Y b->∃(i:Nat) (s:Sl),i∈fG as/\x[i]?=Jr (Jr s)/\S' i b)->P xs x->RR vs y):(wp K Γ as u).a σ H RR:=by
 refine e.a (md:=[]) I X (λj f=>by cases as<;>cases f) h λvs z y S' x xs W Y s l r _ q=>?_;let#[m,w,g,t,_]:=r.frz s l;exact k vs m y S' x xs Y w g (X.from w.toStp) t r.tm q
theorem bh(ia:PSnd K Γ Ψ a)(ib:PSnd K Γ Ψ as)(I:Rl K F H S ρ σ)(X:rE K F H S ρ E u){P1:T->Bool->Prop}{P:T->Bool->List (T×Bool)->kA->Prop}{R1:V->Hp->Prop}{RR:V->LV->Hp->Prop}
  (h:(pe Ψ a E).e ρ λx n U=>P1 x n/\sq (vA x n) U ((pe Ψ as E).a []) λxs z=>P x n xs z)
  (k1:∀v f w x n k,Tr K f w Ju v (vA x n) k->P1 x n->R1 v w)
  (kk:∀v vs f w S' y x n xs k Y,Ste F H S ρ f w S' y->Rl K f w S' y σ->rE K f w S' y E u->Tr K f w Ju v (vA x n) k->(∀b,k b->∃(i:Nat) (s:Sl),i∈fG a/\y[i]?=Jr (Jr s)/\S' i b)->Tn K f w Y vs (YL xs) ->
   P x n xs y->RR v vs w):(wp K Γ a u).e σ H λv A=>R1 v A/\(wp K Γ as u).a σ A λvs o=>RR v vs o:=by
 refine VD ia I X h λv B A S1 U x n k L I1 X1 l _ C #[Q,O]=>#[k1 v B A x n k l Q,?_]
 refine Dh ib I1 X1 (λj hj=>by cases as<;>cases hj) O λvs F2 o q z xs W Y J I2 R hs M _ N=>?_;let#[F3,G,I3,tn,k3]:=M.frz J I2;have p:∀b,k b->∃(i:Nat) (s:Sl),i∈fG a/\z[i]?=Jr (Jr s)/\q i b:=by
  cases m:(vA x n).isD with
  |true =>
   intro b hb;exfalso;generalize vA x n=t at l m;cases l with|d r n=>exact n b hb|_=>cases m
  |false=>let#[e1,e2]:=hs m;rw[e1,e2];exact C
 have g:=L.trans G;exact kk v vs F3 o q z x n xs k Y g I3 (X.from g.toStp) (k3 _ _ _ _ (R _ _ _ l) λb hb=>let#[i,s,_,h2]:=p b hb;#[i,s,h2]) p tn N
def VX(K:QE)(F H:Hp)(Y:uB):Item->T->Prop
 | .one v,t=>∃Z,Tr K F H Ju v t Z/\∀b,Z b->Y b|.tup vs,t=>∃h,t=.d (.tuple h)/\Reps K F vs h
theorem VX.mono{it:Item}(h:VX K F H Y it t)(e:Same F B)(k:∀b,Y b->A b=H b/\B b=Js):VX K B A Y it t:=by
 cases it with|one v=>let#[Z,r,z]:=h;exact#[Z,r.mono e λb hb=>k b (z b hb),z]|tup y=>let#[ts,x,r]:=h;exact#[ts,x,r.mono e]
theorem M1{xs:LV}(h:Trs K F H st xs ts Z)(z:∀b,Z b->Y b):Kv (VX K F H Y) (xs.map .one) ts :=
 Trs.ind (R:=λ_ xs ts Z=>(∀b,Z b->Y b)->Kv (VX K F H Y) (xs.map .one) ts) (λ_ _=>.nil) (λh _ _ q x z=>.cons #[_,h.weak,λb hb=>z b ((q b).mpr (.inl hb))] (x λb hb=>z b ((q b).mpr (.inr hb)))) h z
theorem SN{Y:uB}{α:Type}(f:α->V)(g:α->D)(h:∀x,Rep K F (f x) (g x)):∀(l:List α),Kv (VX K F H Y) (l.map λx=>.one (f x)) (l.map λx=>T.d (g x))
 |[]=>.nil|x::r=>.cons #[λ_=>False,.d (h x) λ_ z=>z,λ_ z=>z.elim] (SN f g h r)
theorem Tr.lsS(f:Same F H)(h:Tr K F H st v t Z)(e:t.vw=.ls ts):∃a vs S',v=.ref a/\gC K H a vs/\Trs K F H Ju vs ts S'/\(∀b,S' b->Z b)/\∀y x,Same F y->Same y x->(∀b,Z b->x b=H b)->gC K x a vs:=by
 cases h with
 |d r n =>
  cases r with|lst q r=>injection e with e;subst e;exact#[_,_,_,rfl,f.seq q,Trs.of_reps r,λb hb=>hb.elim,λy x w z _=>(w.trans z).seq q]|dct _ _ _=>exact(YG e).elim|_=>cases e
 |lst h _ r n q=>injection e with e;subst e;exact#[_,_,_,rfl,gC.of h,r.weak,λb hb=>(q b).mpr (.inr hb),λy x _ _ k=>gC.of ((k _ ((q _).mpr (.inl rfl))).trans h)]|tup=>cases e|dct=>cases e|lstF h r n=>injection e with e;subst e;exact#[_,_,_,rfl,f.seq h,Trs.of_reps r,λb hb=>hb.elim,λy x w z _=>(w.trans z).seq h]
theorem Tr.tpS(f:Same F H)(h:Tr K F H st v t Z)(e:t.vw=.tp ts):∃a vs S',v=.ref a/\TC K H a vs/\Trs K F H Ju vs ts S'/\(∀b,S' b->Z b)/\∀y x,Same F y->Same y x->(∀b,Z b->x b=H b)->TC K x a vs:=by
 cases h with
 |d r n =>
  cases r with|tup q r=>injection e with e;subst e;exact#[_,_,_,rfl,f.tupl q,Trs.of_reps r,λb hb=>hb.elim,λy x w z _=>(w.trans z).tupl q]|dct _ _ _=>exact(VJ e).elim|_=>cases e
 |tup h _ r n q=>injection e with e;subst e;exact#[_,_,_,rfl,TC.of h,r.weak,λb hb=>(q b).mpr (.inr hb),λy x _ _ k=>TC.of ((k _ ((q _).mpr (.inl rfl))).trans h)]|lst=>cases e|lstF=>cases e|dct=>cases e
theorem Tr.seqS(f:Same F H)(h:Tr K F H st v t Z)(e:t.vw.seq=Jr ts):∃a vs sz,v=.ref (Src.adr sz)/\FX K H sz vs/\(∃S',Trs K F H Ju vs ts S')/\a=Src.adr sz/\∀k z,Same F k->Same k z->(∀b,Z b->z b=H b)->FX K z sz vs:=by
 generalize ev:t.vw=w at e;cases w with|ls g=>cases e;let#[a,vs,S',rfl,y,x,_,hs]:=h.lsS f ev;exact#[a,vs,.l a,rfl,y,#[S',x],rfl,hs]|tp g=>cases e;let#[a,vs,S',rfl,y,x,_,hs]:=h.tpS f ev;exact#[a,vs,.t a,rfl,y,#[S',x],rfl,hs]|_=>cases e
theorem UH:∀(k:List Key),Reps K F (k.map kV) (k.map kD)
 |[]=>.nil|.inl i::k=>.cons (.int i) (UH k)|.inr z::k=>.cons (.str z) (UH k)
theorem zV{Y:uB}:∀{kvs:List KE}{ds:List D},LF K F kvs->Reps K F (kvs.map (·.2.2)) ds->Kv (VX K F H Y) (kvs.map λp=>.tup [.ref p.2.1,p.2.2]) (((kvs.map λp=>tD p.1).zip ds).map λp=>T.d (.tuple [p.1,p.2]))
 |[],_,_,.nil=>.nil|p::r,_,hk,.cons h t=>by simp only[QU,QBS];exact .cons #[[_,_],rfl,.cons (.tup (hk p QD) (UH p.1)) (.cons h .nil)] (zV (λp x=>hk p (QC _ x)) t)
theorem yV{Y:uB}:∀{kvs:List KE},LF K F kvs->Kv (VX K F H Y) (kvs.map λp=>.one (.ref p.2.1)) ((kvs.map λp=>tD p.1).map T.d)
 |[],_=>.nil|p::r,hk=>.cons #[λ_=>False,.d (.tup (hk p QD) (UH p.1)) λ_ z=>z,λ_ z=>z.elim] (yV λp h=>hk p (QC _ h))
theorem rQ{Y:uB}:∀{xs:LV}{ds:List D}(_:Reps K F xs ds) (g:Nat->Int) (n:Nat),Kv (VX K F H Y) ((xs.zipIdx n).map λp=>.tup [.int (g p.2),p.1]) ((ds.zipIdx n).map λp=>T.d (.tuple [.int (g p.2),p.1]))
 |_,_,.nil,g,n=>by simp only[List.zipIdx_nil,we];exact .nil|_,_,.cons h t,g,n=>by simp only[List.zipIdx_cons,QU];exact .cons #[[_,_],rfl,.cons (.int _) (.cons h .nil)] (rQ t g (n+1))
theorem nI{O:ItK}{vs:LV}{RD:LT->Prop}{RR:List Item->(Hp->Prop)->Hp->Prop}(f:Same F H)(W:Tn K F H Y vs ts)(h:BB O (ts.map T.vw) RD)
  (k:∀xs ys st,Kv (VX K F H Y) xs ys->(∀m l,Same F m->Same m l->(∀b,Y b->l b=H b)->st l)->RD ys->RR xs st H):rC K O vs H RR:=by
 cases O with
 |val =>
  rcases h with⟨z,e,h⟩| ⟨L,e,h⟩| ⟨L,e,h⟩| ⟨G,L,e,h⟩
  let#[v,t,Z,rfl,rfl,e,r,_]:=W.one e;obtain rfl:=r.str e;exact k _ _ _ (SN (λc=>.str #[(Wb [c])]) (λc=>.str #[(Wb [c])]) (λc=>.str _) _) (λ_ _ _ _ _=>trivial) h;let#[v,t,Z,rfl,rfl,e,r,z]:=W.one e;let#[p,xs,S',rfl,Q,s,M,hs]:=r.lsS f e;exact .inl #[xs,Q,k _ _ _ (M1 s λb hb=>z b (M b hb)) (λm l y g q=>hs m l y g λb hb=>q b (z b hb)) h];let#[v,t,Z,rfl,rfl,e,r,z]:=W.one e;let#[p,xs,S',rfl,Q,s,M,hs]:=r.tpS f e;exact .inr (.inl #[xs,Q,k _ _ _ (M1 s λb hb=>z b (M b hb)) (λm l y g q=>hs m l y g λb hb=>q b (z b hb)) h]);let#[v,t,Z,rfl,rfl,y,C,I]:=W.one e;let#[a,o,xs,_,rfl,R,dk,s,_,hs]:=C.dc f y;let#[X,w,rfl,rfl,rfl,h4,_]:=dk;exact .inr (.inr #[X,w,R,k _ _ _ (yV h4) (λm l y g q=>hs m l y g λb hb=>q b (I b hb)) h])
 |rng1=>let#[j,e,h]:=h;let#[v,t,Z,rfl,rfl,e,r,_]:=W.one e;obtain rfl:=r.int e;exact#[h.1,k _ _ _ (SN (λ(i:Nat)=>.int (i:Int)) (λ(i:Nat)=>.int (i:Int)) (λc=>.int _) _) (λ_ _ _ _ _=>trivial) h.2]|enum=>let#[x,L,J,e,g1,g3,q]:=h;let#[v,t,Z,rfl,rfl,y,C,I]:=W.one e;let#[a,xs,sz,rfl,hq,#[_,s],_,hs]:=C.seqS f (by rw[y];exact g1);exact#[sz,xs,rfl,hq,k _ _ _ (rQ (s.un g3).1 (λi=>(i:Int)) 0) (λm l y g q=>hs m l y g λb hb=>q b (I b hb)) q]|itm =>
  rcases h with⟨G,L,J,e,g3,q⟩| ⟨e,q⟩
  rotate_left
  let#[v,t,Z,rfl,rfl,y,C,I]:=W.one e;let#[_,s]:=C.sc y;generalize ed:PyData.dict []=d at s;cases s with
  |@dct b a o G vs J h N r =>
   have ez:G.zip J=[]:=by injection ed with ed;exact ed.symm
   have hl:G.9=J.length:=by rw[N.len,Reps.length r]
   have ek:G=[]:=by
    cases G with
    |nil=>rfl|cons k G =>
     cases J with|nil=>cases hl|cons d J=>cases ez
   subst ek;have eo:∃X,o=.dT X []:=by
    cases b with
    |true =>
     let#[X,w,y,g,_]:=N;cases w with|nil=>exact#[X,y]|cons p r=>cases g
    |false =>
     rcases N with⟨w,n,_,g,_⟩| ⟨X,y,_⟩
     cases w with|nil=>exact h7 rfl n|cons p r=>cases g
     exact#[X,y]
   let#[X,rfl]:=eo;exact#[X,[],f _ _ h,k _ _ _ .nil (λm l y g _=>g _ _ (y _ _ h)) q]
  |_=>cases ed
  let#[v,t,Z,rfl,rfl,y,C,I]:=W.one e;let#[a,o,xs,_,rfl,R,dk,s,_,hs]:=C.dc f y;let#[X,w,rfl,rfl,rfl,h4,_]:=dk;exact#[X,w,R,k _ _ _ (zV h4 (s.un g3).1) (λm l y g q=>hs m l y g λb hb=>q b (I b hb)) q]
end
end
section
variable{i j:Nat}{Z:uB}
def ZG(S:Ft)(i:Nat)(Z:uB):Ft:=λj=>if j=i then Z else S j
theorem NA{S:Ft}:ZG S i Z i=Z:=hQ rfl
theorem rA{S:Ft}(h:j≠i):ZG S i Z j=S j:=hI h
theorem uA{α:Type}{l:List α}{x y:α}(h:(l.set i x)[j]?=Jr y):(i=j/\y=x/\i<l.9)∨(i≠j/\l[j]?=Jr y):=by rw[wx]at h;by_cases e:i=j;subst e;rw[hQ rfl]at h;by_cases hl:i<l.9;rw[hQ hl]at h;cases h;exact .inl #[rfl,rfl,hl];rw[hI hl]at h;cases h;rw[hI e]at h;exact .inr #[e,h]
theorem xU{α:Type}{l:List α}{x:α}(h:i<l.9):(l.set i x)[i]?=Jr x:=by rw[wx,hQ rfl,hQ h]
theorem LD{α:Type}{l:List α}{x:α}(h:i≠j):(l.set i x)[j]?=l[j]?:=by rw[wx,hI h]
end
section
variable{K:QE}{Γ:Ev}{Ψ:PEv}{E:XE}{G:XK}{F H C D:Hp}{S S1:Ft}{ρ B:kA}{σ:St}
section
variable{Z Y:uB}{X o:Hp}{S':Ft}{g:kA}{l:St}{st:Bool}{A:Tg}{k:Nat}{mask:List Bool}
theorem Rl.setB(I:Rl K F H S ρ σ)(i:Nat){v:V}{t:T}(r:Tr K F H Ju v t Z)(hz:∀(j:Nat) u,j≠i->ρ[j]?=Jr (Jr (.own u))->∀b,Z b->¬ S j b):Rl K F H (ZG S i Z) (ρ.set i (Jr (.kw t))) (σ.set i (Jr v)) where
 fh:=I.fh
 len:=by simpa using I.len
 sl:=λj s h=>by
  rcases uA h with⟨rfl,e,hl⟩| ⟨w,h⟩
  cases e;exact#[v,xU (by rw[<- I.len];exact hl),by rw[NA];exact r];rw[LD w,rA (qC w)];exact I.sl j s h
 dj:=λj k z s n x y b hb hk=>by
  rcases uA x with⟨_,e,_⟩| ⟨f,x⟩
  cases e;rw[rA (qC f)]at hb;rcases uA y with⟨e,_,_⟩| ⟨a,y⟩
  subst e;rw[NA]at hk;exact hz j z n x b hk hb;rw[rA (qC a)]at hk;exact I.dj j k z s n x y b hb hk
structure Bd(J:LN)(F H:Hp)(S:Ft)(ρ:kA)(σ:St)(X o:Hp)(S':Ft)(g:kA)(l:St):Prop where
 ff:Same F X
 hh:Same H o
 fn:∀b,F b=Js->X b≠Js->H b=Js
 out:∀j,j∉J->g[j]?=ρ[j]?/\S' j=S j/\l[j]?=σ[j]?
 inn:∀j t,j∈J->g[j]?≠Jr (Jr (.own t))
theorem Bd.U{J:LN}(h:Bd J F H S ρ σ X o S' g l){b:jv}(u:U g S' b):L3.U ρ S b:=by let#[i,t,x,z]:=u;by_cases y:i∈J;exact h7 x (h.inn i t y);let#[w,v,_]:=h.out i y;rw[w]at x;rw[v]at z;exact#[i,t,x,z]
theorem Bd.dm{J:LN}(h:Bd J F H S ρ σ X o S' g l)(b:jv)(e:o b=Js):H b=none:=h.hh.free e
theorem bU{Y:uB}(s:∀b,Y b->¬ U ρ S b):∀(w:LN) {vs:LV}{ts:LT}{S1:Ft}{B g:kA}{x:St}{J:LN},(∀i∈w,i∈J)->Rl K F H S1 B x->(∀b,U B S1 b->U ρ S b)->Tn K F H Y vs ts->oB w ts B=Jr g ->
  ∃l S',yB w vs x=Jr l/\Rl K F H S' g l/\(∀j,j∉J->g[j]?=B[j]?/\S' j=S1 j/\l[j]?=x[j]?)/\(∀j t,g[j]?=Jr (Jr (.own t))->j∉w/\B[j]?=Jr (Jr (.own t)))
 |[],_,_,S1,B,g,x,J,hJ,I,hu,.nil,h=>by simp only[oB,Qu]at h;subst h;exact#[x,S1,rfl,I,λ_ _=>#[rfl,rfl,rfl],λj t h=>#[(by simp),h]]|[],_,_,_,_,_,_,_,_,_,_,.cons _ _ _,h=>by simp[oB]at h|_::_,_,_,_,_,_,_,_,_,_,_,.nil,h=>by simp[oB]at h|i::w,_,_,S1,B,g,x,J,hJ,I,hu,.cons (v:=v) (t:=t) (Z:=Z) r z tl,h=>by
  simp only[oB]at h;have nu:∀b,Z b->¬ U B S1 b:=λb hb u=>s b (z b hb) (hu b u);have Q:=I.setB i r λj u _ y b hb hs=>nu b hb #[j,u,y,hs];have p:∀b,U (B.set i (Jr (.kw t))) (ZG S1 i Z) b->U ρ S b:=λb #[j,u,q,W]=>by
   rcases uA q with⟨_,e,_⟩| ⟨n,q⟩
   cases e;rw[rA (qC n)]at W;exact hu b #[j,u,q,W]
  let#[l,S',P,O,N,M]:=bU s w (λj y=>hJ j (QC _ y)) Q p tl h;refine#[l,S',P,O,λj y=>?_,λj u y=>?_];let#[f,a,L]:=N j y;have n:i≠j:=λe=>y (e▸hJ i QD);rw[LD n]at f L;rw[rA (qC n)]at a;exact#[f,a,L];let#[f,a]:=M j u y;rcases uA a with⟨_,e,_⟩| ⟨n,a⟩
  cases e;exact#[λm=>(QK.mp m).elim (λe=>n e.symm) f,a]
theorem Tn.of_trs{vs:LV}{ts:LT}(h:Trs K F H st vs ts Z)(z:∀b,Z b->Y b):Tn K F H Y vs ts :=
 Trs.ind (R:=λ_ vs ts Z=>(∀b,Z b->Y b)->Tn K F H Y vs ts) (λ_ _=>.nil) (λh _ _ q x z=>.cons h.weak (λb hb=>z b ((q b).mpr (.inl hb))) (x λb hb=>z b ((q b).mpr (.inr hb)))) h z
theorem kL{it:Item}{t:T}{R:kA->Prop}{RP:St->Hp->Prop}(I:Rl K F H S ρ σ)(hy:∀b,Y b->¬ U ρ S b)(r:VX K F H Y it t)(h:II A t ρ R)
  (k:∀m f w x N,Bd A.ix F H S ρ σ w x N m f->Rl K w x N m f->R m->RP f x):bindI K A it σ H RP:=by
 have nm:∀(i:Nat) {v:V}{t:T}{Z:uB}{w x:Hp}{N:Ft},Same F w->Same H x->(∀b,F b=Js->w b≠Js->H b=Js)->Rl K w x N ρ σ->N=S->Tr K w x Ju v t Z->(∀b,Z b->¬ U ρ S b)->R (ρ.set i (Jr (.kw t)))->A=.nm i->RP (σ.set i (Jr v)) x:=by
  intro i v t Z w x N Q e2 e3 I2 hS r hz q ht;subst hS ht;refine k _ _ w x (ZG N i Z) #[Q,e2,e3,λj M=>?_,λj u M hu=>?_] (I2.setB i r λj u _ M b hb hs=>hz b hb #[j,u,M,hs]) q;have n:i≠j:=λe=>M (by subst e;exact QI.mpr rfl);exact#[LD n,rA (qC n),LD n];have e:j=i:=QI.mp M;subst e;rcases uA hu with⟨_,e,_⟩| ⟨n,_⟩
  cases e;exact n rfl
 have tp:∀(y:LN) {W:LV}{O:LT}{x:Hp}{g:kA},Same H x->A=.tp y->Tn K F x Y W O->oB y O ρ=Jr g->R g->∃l,yB y W σ=Jr l/\RP l x:=by intro y W O x g e2 ht r e q;subst ht;let#[l,S',g1,g2,g3,g4]:=bU hy y (J:=y) (λi hi=>hi) (I.same e2) (λb u=>u) r e;exact#[l,g1,k _ _ F x S' #[.refl _,e2,λb h z=>h7 h z,g3,λj u M hu=>(g4 j u hu).1 M] g2 q]
 cases it with
 |one v =>
  let#[Z,r,z]:=r;cases A with|nm i=>exact nm i (.refl _) (.refl _) (λb h z=>h7 h z) I rfl r (λb hb=>hy b (z b hb)) h rfl|tp y=>have P:(match t.vw with | .tp O=>∃g,oB y O ρ=Jr g/\R g|_=>False):=h;split at P;rename_i O e;let#[g,Q,q]:=P;let#[a,W,S',rfl,L,rp,z2]:=r.tp I.fh e;let#[l,g1,g2]:=tp y (.refl _) rfl (Tn.of_trs rp λb hb=>z b (z2 b hb)) Q q;exact#[W,l,L,g1,g2];exact P.elim
 |tup W =>
  let#[ds,rfl,rd]:=r;cases A with|nm i=>intro p L;refine nm i (HB (I.fh.free L)) (HB L) (λb h1 P=>?_) (I.newT L (.tup W)) rfl (.d (S:=λ_=>False) (.tup (TC.of ZA) (rd.mono (HB (I.fh.free L)))) λ_ z=>z) (λb z=>z.elim) h rfl;by_cases hb:b=p;rw[hb];exact L;rw[xA hb]at P;exact h7 h1 P|tp y=>intro o s;let#[g,Q,q]:=h;exact tp y s rfl (Tn.of_trs (Trs.of_reps (st:=Ju) rd) λb hb=>hb.elim) Q q
noncomputable def K8(k:Nat)(S:Ft):Ft:=λi=>if i<k then λ_=>False else S (i - k)
theorem cM:∀(m:List Bool) (ρ:kA) (i:Nat) s,(PC m ρ)[i]?=Jr (Jr s)->ρ[i]?=Jr (Jr s)/\m.getD i Ju=Ju
 |[],ρ,i,s,h=>by
  have e:PC [] ρ=ρ:=by cases ρ<;>rfl
  rw[e]at h;exact#[h,rfl]
 |b::m,[],i,s,h=>by simp[PC]at h|b::m,v::ρ,0,s,h=>by
  cases b with|true=>simp[PC]at h|false=>simp[PC]at h;simp[h]
 |b::m,v::ρ,i+1,s,h=>by simp only[PC,qq]at h;let#[y,x]:=cM m ρ i s h;exact#[by simpa using y,by simpa using x]
theorem uM:∀(m:List Bool) (σ:St) (i:Nat) v,σ[i]?=Jr (Jr v)->m.getD i Ju=Ju->(BC m σ)[i]?=Jr (Jr v)
 |[],σ,i,v,h,_=>by
  have e:BC [] σ=σ:=by cases σ<;>rfl
  rw[e];exact h
 |b::m,[],i,v,h,_=>by simp at h|b::m,w::σ,0,v,h,hb=>by
  have:b=false:=by simpa using hb
  subst this;simpa[BC]using h
 |b::m,w::σ,i+1,v,h,hb=>by simp only[BC,qq];exact uM m σ i v (by simpa using h) (by simpa using hb)
theorem bM:∀(m:List Bool) (ρ:kA),(PC m ρ).9=ρ.9
 |[],ρ=>by cases ρ<;>rfl|_::_,[]=>rfl|b::m,v::ρ=>by simp[PC,bM m ρ]
theorem KF{ρ:kA}{i:Nat}{s:Sl}(h:(ZL k mask ρ)[i]?=Jr (Jr s)):k<=i/\ρ[i - k]?=Jr (Jr s)/\mask.getD (i - k) Ju=false:=by unfold ZL at h;rcases QCI i k with z|z;rw[qK (by simpa using z),Wd]at h;split at h<;>cases h;rw[Q0 (by simpa using z)]at h;simp only[wD]at h;let#[y,x]:=cM mask ρ _ s h;exact#[z,y,x]
theorem Rl.ent(I:Rl K F H S ρ σ)(k:Nat)(mask:List Bool):Rl K F H (K8 k S) (ZL k mask ρ) (HH k mask σ) where
 fh:=I.fh
 len:=by simp[ZL,HH,bM,mI,I.len]
 sl:=λi s h=>by let#[h0,z,y]:=KF h;let#[v,w,u]:=I.sl _ s z;refine#[v,?_,?_];unfold HH;rw[Q0 (by simpa using h0)];simp only[wD];exact uM mask σ _ v w y;unfold K8;rw[hI ()];exact u
 dj:=λi j t s n z y b hb x=>by let#[m,e,_]:=KF z;let#[f,a,_]:=KF y;unfold K8 at hb x;rw[hI ()]at hb x;exact I.dj (i - k) (j - k) t s () e a b hb x
theorem pV(b:jv):¬ U (ZL k mask (lockA ρ)) S' b:=λ#[i,t,h,_]=>by let#[_,x,_]:=KF h;let#[_,_,e]:=sB x;cases e
theorem Paired.get_of{α v:Type}{R:α->v->Prop}{xs:List α}{u:List v}(h:Kv R xs u):∀{i:Nat}{x:α},xs[i]?=Jr x->∃y,u.drop i=y::u.drop (i+1)/\R x y:=by
 induction h with
 |nil=>intro i x e;simp at e|@cons x y xs u h t a =>
  intro i z e;cases i with|zero=>simp at e;subst e;exact#[y,by simp,h]|succ i=>let#[w,f,b]:=a (i:=i) (by simpa using e);exact#[w,by simpa using f,b]
structure Pur(F H X o:Hp):Prop where
 ff:Same F X
 hh:Same H o
 fn:∀b,F b=Js->X b≠Js->H b=Js
theorem Pur.trans{u y:Hp}(a:Pur F H C D)(b:Pur C D u y):Pur F H u y:=#[a.ff.trans b.ff,a.hh.trans b.hh,λx h z=>by by_cases q:C x=Js;exact a.hh.free (b.fn x q z);exact a.fn x h q]
theorem Pur.ste(p:Pur F H C D):Ste F H S ρ C D S ρ:=#[#[p.ff,λb u h _=>p.hh b u h,λb h=>p.hh.free h,λb h z=>.inr (p.fn b h z),λb h=>.inl h,λ_ _ h _=>#[h,rfl]],λ_ t h=>#[t,h]]
theorem Pur.rl(p:Pur F H C D)(f:Same C D)(I:Rl K F H S ρ σ):Rl K C D S ρ σ:=#[f,I.len,λi s e=>by
 let#[v,y,h]:=I.sl i s e;exact#[v,y,h.mono p.ff λb hb=>by
  let#[x,z]:=h.dom b hb;refine#[?_,?_];cases e:H b with|none=>exact h7 e x|some u=>exact p.hh b u e
  by_cases q:C b=Js
  ·exact q
  exact h7 (p.fn b z q) x],I.dj]
theorem Stp.pur(s:Stp F H S ρ C D S' g)(n:∀b,¬ U ρ S b):Pur F H C D:=#[s.ff,λb u h=>s.hh b u h (n b),λb h z=>(s.fn b h z).elim (λq=>h7 q (n b)) id]
theorem Pur.trs(p:Pur F H C D){v:LV}{t:LT}(h:Trs K F H st v t Z):Trs K C D st v t Z:=h.mono p.ff λb hb=>by
  let#[x,y]:=h.dom b hb;refine#[?_,?_];cases e:H b with|none=>exact h7 e x|some u=>exact p.hh b u e
  by_cases q:C b=Js
  ·exact q
  exact h7 (p.fn b y q) x
theorem N3{ws:LN}{M:Nat}{c:kA->(Bool->kA->Prop)->Prop}{e:kA->TK->Prop}{tc:TT}{te:TE}{us:LN}
  (ic:∀{F H:Hp}{S:Ft}{ρ:kA}{σ:St}{Q:Bool->kA->Prop}{R:Bool->Hp->Prop},Rl K F H S ρ σ->c ρ Q->eG K F H S ρ σ Q R->tc σ H R)
  (ie:∀{F H:Hp}{S:Ft}{ρ:kA}{σ:St}{Q:TK}{R:VK},Rl K F H S ρ σ->e ρ Q->IA K us F H S ρ σ Q R->te σ H R)
  {F0 H0:Hp}{S0:Ft}{O:kA}(s:Ste F0 H0 S0 O F H S ρ) (I:Rl K F H S ρ σ) {xs:List Item}{L:LT}{st:Hp->Prop}(pr:Kv (VX K F H Y) xs L) (hyd:∀b,Y b->H b≠Js/\F b=Js) (hst:∀X o,Same F X->Same X o->(∀b,Y b->o b=H b)->st o) {Q:TK}{R:VK}
  (h:oD (VF A (ZL M mask (lockA ρ)) c e) L [] λL=>Q (.lst L) Jt ρ) (k:IA K ws F0 H0 S0 O σ Q R) :
  GV K xs st A tc te (HH M mask σ) H R:=by
 refine O3 ?_;have len:=qt pr;have yk:∀{X o:Hp},Pur F H X o->∀b,Y b->o b=H b/\X b=none:=λ{X o} p b hb=>by
  let#[d1,d2]:=hyd b hb;refine#[?_,?_];cases e:H b with|none=>exact h7 e d1|some u=>exact p.hh b u e
  by_cases q:X b=Js
  ·exact q
  exact h7 (p.fn b d2 q) d1
 refine#[λi m o=>∃X w W,Pur F H X o/\Same X o/\Trs K X o Jt m w W/\(∀b,W b->H b=Js)/\oD (VF A (ZL M mask (lockA ρ)) c e) (L.drop i) w λL=>Q (.lst L) Jt ρ,
  #[F,[],λ_=>False,#[.refl _,.refl _,λb h z=>h7 h z],I.fh,.nil λ_ z=>z,λ_ z=>z.elim,by simpa using h],?_,?_,?_]
 rintro i m o _ ⟨X,w,W,p,f,_,_,_⟩;exact hst X o p.ff f λb hb=>(yk p b hb).1;rintro i x m D hx ⟨C,w,W,p1,f1,J,hw,hc⟩;let#[y,hd,ry]:=Paired.get_of pr hx;rw[hd]at hc;unfold oD at hc;unfold VF at hc;have I1:Rl K C D (K8 M S) (ZL M mask (lockA ρ)) (HH M mask σ):=((p1.rl f1 I).lockA).ent M mask;refine kL I1 (λb _=>pV b) (ry.mono p1.ff (yk p1)) hc λρ2 σ2 F2 H2 S2 N I2 hc=>?_;have p2:Pur C D F2 H2:=#[N.ff,N.hh,N.fn]
 have nu2:∀b,¬ U ρ2 S2 b:=λb u=>pV b (N.U u);refine ic I2 hc λb F3 H3 S3 ρ3 s3 I3 q=>?_;have p3:Pur F2 H2 F3 H3:=s3.toStp.pur nu2;have P:∀b,¬ U ρ3 S3 b:=λb #[j,t,h1,_]=>by let#[t0,h0]:=s3.ow j t h1;by_cases hj:j∈A.ix;exact N.inn j t0 hj h0;rw[(N.out j hj).1]at h0;let#[_,h1,_]:=KF h0;let#[_,_,e]:=sB h1;cases e
 have a:=p1.trans (p2.trans p3);cases b with
 |false=>exact#[F3,w,W,a,I3.fh,p3.trs (p2.trs J),hw,q]|true =>
  refine ie I3 q λv F4 H4 S4 ρ4 z n Z s4 I4 r4 #[hk,hl,hc]=>?_;have p4:Pur F3 H3 F4 H4:=s4.toStp.pur P;have ra4:=p4.trs (p3.trs (p2.trs J));have rz:∃Z',Tr K F4 H4 Jt v z Z'/\∀b,Z' b->H3 b=none:=by
   cases n with
   |true=>exact#[Z,r4.tr,λb hb=>(r4.fr rfl b hb).elim id λu=>h7 u (P b)]|false =>
    cases z with
    |d x =>
     have tr:=r4.tr;cases tr with|d r n=>exact#[λ_=>False,.d r λ_ z=>z,λ_ z=>z.elim]
    |_=>exact h7 hk (by simp[rG,T.isD])
  let#[Z',rz,fz]:=rz;refine#[by rw[J.9];exact hl,F4,_,λb=>W b∨Z' b,a.trans p4,I4.fh,ra4.append (Trs.one rz) λb hb hz=>?_,λb hb=>?_,hc];have q1:=(J.dom b hb).1;exact q1 ((p2.trans p3).hh.free (fz b hz));rcases hb with hb|hb
  ·exact hw b hb
  exact a.hh.free (fz b hb)
 rintro m o ⟨X,w,W,p,f,J,hw,hc⟩;rw[len,QDt]at hc;unfold oD at hc;have I':=p.rl f I;refine#[by rw[J.9];exact hc.1,λq hq=>?_];refine IA.list (k.from s) (p.ste) I' hq J (λb hb=>.inl (hw b hb)) #[J.dom,λi sl hi b hb z=>?_] hc.2;exact(I.dom hi z).1 (hw b hb)
end
end
section
variable{K:QE}{Γ:Ev}{Ψ:PEv}{E:XE}{p:XK}{F H l c:Hp}{S S1:Ft}{ρ y:kA}{σ:St}
theorem Tr.kz{v:V}{u t:T}{Z:uB}(h:Tr K F H Ju v u Z)(e:EE u=Jr t):Tr K F H Ju v t Z:=by
 unfold EE at e;split at e;rename_i ts ev;cases x:HD ts with
 |none=>rw[x]at e;cases e|some f =>
  rw[x]at e;injection e with e;subst e;cases h with
  |d r n =>
   cases r with|lst q r=>injection ev with ev;subst ev;rw[oA]at x;injection x with x;subst x;exact .lstF q r n|dct _ _ _=>exact(YG ev).elim|_=>cases ev
  |lst k w z b a=>injection ev with ev;subst ev;show Tr K F H Ju _ (.lst (f.map T.d)) Z;rw[<- FJ x];exact .lst k w z b a|tup=>cases ev|dct=>cases ev|lstF k w z=>injection ev with ev;subst ev;rw[oA]at x;injection x with x;subst x;exact .lstF k w z
 split at e
 ·injection e with e;subst e;exact h
 cases e
theorem AV.pass{Y:uB}{md:List Md}{vs:LV}{xs:List (T×Bool)}{W:uB}(h:AV K F H md vs xs W Y)(e:Same F l)(k:∀b,W b->l b=H b)(C:∀b,Y b->F b=Js->l b=Js) :
  ∀{f ts:LT},YA md xs f=Jr ts->ArgsR K l H Y md vs ts/\UB md ts=f:=by
 induction h with
 |nil h =>
  intro f ts w;cases f with|nil=>simp only[YA,Qu]at w;subst w;exact#[.nil,rfl]|cons _ _=>simp[YA]at w
 |@chg md v vs x xs W Y h t B =>
  intro f ts w;have hm:md.headD .ky=.chg:=by generalize md.headD .ky=m at h;cases m<;>first|rfl|cases h
  unfold YA at w;rw[hm]at w;cases f with
  |nil=>cases w|cons o f =>
   cases a:YA md.tail xs f with|none=>simp only[a,WY]at w;cases w|some A=>simp only[a,qO,Qu]at w;subst w;let#[j,i]:=B k C a;refine#[.chg hm j,?_];unfold UB;rw[hm];simp only[i]
 |@new md v vs x xs Z W I Y h r t n q B =>
  intro f ts w;have s:Tr K l H Ju v (.d x.er) (λ_=>False):=.d (r.kept e λb u hb G=>by rw[k b ((q b).mpr (.inl hb))];exact G) λ_ z=>z;have g:=@B (λb hb=>k b ((q b).mpr (.inr hb))) C;unfold YA at w;cases hm:md.headD .ky with
  |chg=>rw[hm]at h;cases h|ky =>
   simp only[hm,vA]at w;cases a:YA md.tail xs f with|none=>simp only[a,WY]at w;cases w|some A=>simp only[a,qO,Qu]at w;subst w;let#[j,i]:=g a;exact#[.rd (by rw[hm];simp) s (λ_ z=>z.elim) j,by unfold UB;rw[hm];exact i]
  |kz =>
   simp only[hm,vA]at w;cases X:EE (.d x.er) with
   |none=>simp only[X]at w;cases w|some u =>
    simp only[X]at w;cases a:YA md.tail xs f with|none=>simp only[a,WY]at w;cases w|some A=>simp only[a,qO,Qu]at w;subst w;let#[j,i]:=g a;exact#[.rd (by rw[hm];simp) (s.kz X) (λ_ z=>z.elim) j,by unfold UB;rw[hm];exact i]
  |kw =>
   simp only[hm,vA]at w;cases a:YA md.tail xs f with|none=>simp only[a,WY]at w;cases w|some A=>simp only[a,qO,Qu]at w;subst w;let#[j,i]:=g a;exact#[.rd (by rw[hm];simp) s (λ_ z=>z.elim) j,by unfold UB;rw[hm];exact i]
 |@tmp md v vs x xs Z W Y h r z t B =>
  intro f ts w;have s:Tr K l H Ju v x Z:=r.mono e λb hb=>#[rfl,C b (z b hb) (r.dom b hb).2]
  have g:=@B k C;unfold YA at w;cases hm:md.headD .ky with
  |chg=>rw[hm]at h;cases h|ky =>
   simp only[hm,vA]at w;cases x with
   |d x =>
    cases a:YA md.tail xs f with|none=>simp only[a,WY]at w;cases w|some A=>simp only[a,qO,Qu]at w;subst w;let#[j,i]:=g a;exact#[.rd (by rw[hm];simp) s z j,by unfold UB;rw[hm];exact i]
   |_=>cases w
  |kz =>
   simp only[hm,vA]at w;cases X:EE x with
   |none=>simp only[X]at w;cases w|some u =>
    simp only[X]at w;cases a:YA md.tail xs f with|none=>simp only[a,WY]at w;cases w|some A=>simp only[a,qO,Qu]at w;subst w;let#[j,i]:=g a;exact#[.rd (by rw[hm];simp) (s.kz X) z j,by unfold UB;rw[hm];exact i]
  |kw =>
   simp only[hm,vA]at w;cases a:YA md.tail xs f with|none=>simp only[a,WY]at w;cases w|some A=>simp only[a,qO,Qu]at w;subst w;let#[j,i]:=g a;exact#[.rd (by rw[hm];simp) s z j,by unfold UB;rw[hm];exact i]
theorem vD:∀(J:LN) (ρ:kA) (i:Nat) s,(clear J ρ)[i]?=Jr (Jr s)->i∉J/\ρ[i]?=Jr (Jr s)
 |[],ρ,i,s,h=>#[(by simp),h]|j::J,ρ,i,s,h=>by
  unfold clear at h;let#[u,z]:=vD J _ i s h;rcases uA z with⟨_,e,_⟩| ⟨n,x⟩
  cases e;exact#[λm=>(QK.mp m).elim (λe=>n e.symm) u,x]
theorem aM:∀(J:LN) (ρ:kA),(clear J ρ).9=ρ.9
 |[],_=>rfl|j::J,ρ=>by unfold clear;rw[aM J];simp
theorem Rl.drop(I:Rl K F H S ρ σ)(hl:y.9=ρ.9)(h:∀(i:Nat) s,y[i]?=Jr (Jr s)->ρ[i]?=Jr (Jr s)):Rl K F H S y σ :=
 #[I.fh,hl.trans I.len,λi s e=>I.sl i s (h i s e),λi j t s n z x=>I.dj i j t s n (h i _ z) (h j _ x)]
theorem ZD:∀{J:LN}{ρ:kA}{x:LT},SA J ρ=Jr x->x.9=J.9/\∀(i:Nat) j,J[i]?=Jr j->∃t,x[i]?=Jr t/\ρ[j]?=Jr (Jr (.own t))
 |[],ρ,x,h=>by simp only[SA,Qu]at h;subst h;exact#[rfl,λi j e=>by simp at e]|j::J,ρ,x,h=>by
  unfold SA at h;split at h;rename_i t e;cases z:SA J ρ with
  |none=>rw[z]at h;cases h|some f =>
   rw[z]at h;injection h with h;subst h;let#[w,v]:=ZD z;refine#[by simp[w],λi k hk=>?_];cases i with|zero=>simp at hk;subst hk;exact#[t,rfl,e]|succ i=>let#[u,b,a]:=v i k (by simpa using hk);exact#[u,by simpa using b,a]
  cases h
theorem Rl.trs(I:Rl K F H S ρ σ):∀{J:LN}{w:LT}{vs:LV},J.Nodup->SA J ρ=Jr w->vs.map (λv=>Jr (Jr v))=J.map (λj=>σ[j]?)->Trs K F H Jt vs w (λb=>∃j∈J,S j b)
 |[],w,vs,_,h,hv=>by
  simp only[SA,Qu]at h;subst h;cases vs with|nil=>exact .nil λb #[j,m,_]=>by simp at m|cons _ _=>simp at hv
 |j::J,w,vs,nd,h,hv=>by
  unfold SA at h;split at h;rename_i t e;cases a:SA J ρ with
  |none=>rw[a]at h;cases h|some r =>
   rw[a]at h;injection h with h;subst h;cases vs with
   |nil=>simp at hv|cons v vs =>
    simp only[QU,QAb]at hv;let#[f,q,o]:=I.sl j _ e;rw[q]at hv;have:v=f:=by simpa using hv.1
    subst this;have x:=Qa.mp nd;refine .cons o (Rl.trs I x.2 a hv.2) (λb hb #[k,hk,z]=>?_) λb=>?_;let#[i,n]:=WI.mp hk;let#[u,_,g]:=(ZD a).2 i k n;exact I.dj j k t _ (λz=>x.1 (z▸hk)) e g b hb z;constructor
    ·rintro⟨k,hk,z⟩
     rcases QK.mp hk with e|e;subst e;exact .inl z;exact .inr #[k,e,z]
    rintro(z|⟨k,hk,z⟩)
    ·exact#[j,QD,z]
    exact#[k,QC _ hk,z]
  cases h
theorem Rl.setO(I:Rl K F H S ρ σ)(i:Nat){v:V}{t:T}{Z:uB}(hv:σ[i]?=Jr (Jr v))(r:Tr K F H Jt v t Z)(hz:∀(j:Nat) s,j≠i->ρ[j]?=Jr (Jr s)->∀b,Z b->¬ S j b):Rl K F H (ZG S i Z) (ρ.set i (Jr (.own t))) σ where
 fh:=I.fh
 len:=by simpa using I.len
 sl:=λj s h=>by
  rcases uA h with⟨rfl,e,hl⟩| ⟨f,h⟩
  cases e;exact#[v,hv,by rw[NA];exact r];rw[rA (qC f)];exact I.sl j s h
 dj:=λj k w s n u x b hb hk=>by
  rcases uA u with⟨e,_,_⟩| ⟨a,u⟩
  subst e;rw[NA]at hb;rcases uA x with⟨e,_,_⟩| ⟨z,x⟩
  exact n e;rw[rA (qC z)]at hk;exact hz k s (qC z) x b hb hk;rw[rA (qC a)]at hb;rcases uA x with⟨e,_,_⟩| ⟨z,x⟩
  subst e;rw[NA]at hk;exact hz j _ n u b hk hb;rw[rA (qC z)]at hk;exact I.dj j k w s n u x b hb hk
theorem kK:∀{J:LN}{w:LT}{vs:LV}{M:uB}{S1:Ft}{y x:kA},J.Nodup->Rl K F H S1 y σ->Trs K F H Jt vs w M->vs.map (λv=>Jr (Jr v))=J.map (λj=>σ[j]?)->Held F H S1 y M->yC J w y=Jr x ->
  ∃f,Rl K F H f x σ/\(∀i,i∉J->x[i]?=y[i]?/\f i=S1 i)/\∀i∈J,∀s,x[i]?=Jr (Jr s)->(∃t,s=.own t)/\∀b,f i b->M b
 |[],w,vs,M,S1,y,x,nd,I,r,hv,hm,h=>by
  cases w with|nil=>simp only[yC,Qu]at h;subst h;exact#[S1,I,λ_ _=>#[rfl,rfl],λi u=>by simp at u]|cons _ _=>simp[yC]at h
 |j::J,w,vs,M,S1,y,x,nd,I,r,hv,hm,h=>by
  cases r with
  |nil _=>simp[yC]at h|@cons _ v t vs R _ Z P C B n q =>
   simp only[yC]at h;simp only[QU,QAb]at hv;have a:=Qa.mp nd;have Q:=I.setO j hv.1.symm C λk s _ hk b hb=>hm.nw k s hk b ((q b).mpr (.inl hb));have Y:Held F H (ZG S1 j Z) (y.set j (Jr (.own t))) P:=#[λb hb=>hm.dom b ((q b).mpr (.inr hb)),λi s u b hb z=>by
    rcases uA u with⟨rfl,_,_⟩| ⟨X,u⟩
    rw[NA]at z;exact n b z hb;rw[rA (qC X)]at z;exact hm.nw i s u b ((q b).mpr (.inr hb)) z]
   let#[f,O,A,N]:=kK a.2 Q B hv.2 Y h;refine#[f,O,λi u=>?_,λi u s hs=>?_];have W:j≠i:=λe=>u (e▸QD);let#[o,g]:=A i λm=>u (QC _ m);rw[LD W]at o;rw[rA (qC W)]at g;exact#[o,g];rcases QK.mp u with e|e
   ·subst e
    let#[o,g]:=A i a.1;rw[o]at hs;rcases uA hs with⟨_,e,_⟩| ⟨X,_⟩
    injection e with e;refine#[#[t,e],λb hb=>?_];rw[g,NA]at hb;exact(q b).mpr (.inl hb);exact h7 rfl X
   let#[L,G]:=N i e s hs;exact#[L,λb hb=>(q b).mpr (.inr (G b hb))]
theorem R8{f:Str}{as:PX}(g:GOk K Γ Ψ)(ia:PSnd K Γ Ψ as)(I:Rl K F H S ρ σ)(X:rE K F H S ρ E p){Q:TK}{R:VK}{ws:LN}(h:(pe Ψ (.call f as) E).e ρ Q)(k:IA K ws F H S ρ σ Q R):(wp K Γ (.call f as) p).e σ H R:=by
 let#[os,ho,nd,h]:=h;generalize hJ:cA (Ψ.sp f).md as=J at ho nd h;have C:∀j∈J,∃t,ρ[j]?=Jr (Jr (.own t)):=λj A=>by let#[i,hi]:=WI.mp A;let#[t,_,e]:=(ZD ho).2 i j hi;exact#[t,e]
 have I0:Rl K F H S (clear J ρ) σ:=I.drop (aM J ρ) λi s e=>(vD J ρ i s e).2;have P:∀b,U (clear J ρ) S b->U ρ S b:=λb #[i,t,h1,O]=>#[i,t,(vD J ρ i _ h1).2,O]
 have X0:rE K F H S (clear J ρ) E p:=λx dx F2 H2 S2 L m ff r q=>X x dx F2 H2 (λ_ _=>False) [] #[m.ff,λb u e n=>m.hh b u e λz=>n (P b z),m.dm,λb e z=>(m.fn b e z).imp (P b) id,λb #[i,t,e,_]=>by simp at e,λj t e=>by simp at e] ff r q;have hm:∀j∈cA (Ψ.sp f).md as,∃v,σ[j]?=Jr (Jr v):=λj A=>by let#[t,e]:=C j (hJ▸A);let#[v,h1,_]:=I.sl j _ e;exact#[v,h1]
 show(wp K Γ as p).a σ H λvs c=>Γ.sp f vs c R p;refine ia.a I0 X0 hm h λvs l c S1 y xs W Y s1 I1 r1 mv q1=>?_;rw[hJ]at mv;let#[ts,hp,q1]:=q1;have hw:=r1.held;have m:=s1.frz (λb hb=>(hw.dom b hb).2) r1.fr;have I2:=I1.frz hw;have yk:∀b,Y b->l b=Js->FH l c W b=none:=λb hy hf=>by let#[i,sl,_,O,h3]:=r1.tm b hy;rw[uC λz=>r1.nw i sl O b z h3];exact hf
 let#[ar,mt]:=r1.av.pass (kG λb hb=>(hw.dom b hb).2) (λb hb=>DH hb) yk hp;generalize FH l c W=F2 at m I2 yk ar;have M0:=I.trs nd ho mv;have hM:Held F H S (clear J ρ) (λb=>∃j∈J,S j b):=#[λb #[j,A,hb]=>let#[t,e]:=C j A;I.dom e hb,λi s e b #[j,A,hb] z=>by let#[G,B]:=vD J ρ i s e;let#[t,et]:=C j A;exact I.dj j i t s (λq=>G (q▸A)) et B b hb z]
 have N:=hM.step m.toStp I2;have M2:Trs K F2 c Jt (lB (Ψ.sp f).md vs) (UB (Ψ.sp f).md ts) (λb=>∃j∈J,S j b):=by
  rw[mt];refine M0.mono m.ff λb hb=>?_;refine#[?_,(N.dom b hb).2];cases e:H b with|none=>exact h7 e (hM.dom b hb).1|some u=>exact m.hh b u e (hM.nu b hb)
 refine g.sp f vs c R p #[F2,ts,_,Y,I2.fh,ar,M2,λb hy hb=>?_,?_];let#[i,sl,_,O,h3]:=r1.tm b hy;exact N.nw i sl O b hb h3
 ·have up:∀b,(∃j∈J,S j b)->U ρ S b:=λb #[j,A,hb]=>let#[t,e]:=C j A;#[j,t,e,hb]
  have lk:∀b,(∃j∈J,S j b)∨c b=Js->U ρ S b∨H b=none:=λb hb=>hb.imp (up b) (m.dm b);refine(Ψ.sp f).mono ?_ ?_ q1
  rotate_left
  rintro x qx dx F' H' o xr;refine X x dx F' H' (λ_ _=>False) [] #[m.ff.trans o.ff,λb u e n=>o.hh b u (m.hh b u e λz=>n (P b z)) λz=>n (up b z),λb e=>m.dm b (o.dm b e),λb e z=>?_,λb #[i,t,e,_]=>by simp at e,λj t e=>by simp at e] o.fh xr qx;by_cases q:F2 b=Js;exact lk b (o.fn b q z);exact(m.fn b e q).imp (P b) id;rintro r os' ⟨L,hput,q⟩ v F' H' Z M' o tr trs dz hf;have I3:Rl K F' H' S1 y σ:=#[o.fh,I2.len,λi s e=>by
   let#[w,g1,g2]:=I2.sl i s e;refine#[w,g1,g2.mono o.ff λb hb=>?_];let#[d1,d2]:=g2.dom b hb;have nM:¬ ∃j∈J,S j b:=λz=>N.nw i s e b z hb;refine#[?_,?_];cases e:c b with|none=>exact h7 e d1|some u=>exact o.hh b u e nM
   by_cases z:F' b=Js
   ·exact z
   exact((o.fn b d2 z).elim nM d1).elim,I2.dj]
  have nw3:∀b,(∃j∈J,S j b)∨c b=Js->∀(i:Nat) s,y[i]?=Jr (Jr s)->¬ S1 i b:=λb hb i s e z=>by rcases hb with hb|hb;exact N.nw i s e b hb z;exact(I2.dom e z).1 hb
  have hM':Held F' H' S1 y M':=#[trs.dom,λi s e b hb=>nw3 b (hf b (.inr hb)) i s e]
  let#[S2,I4,g2,g3]:=kK nd I3 trs mv hM' hput;have M:∀i s,L[i]?=Jr (Jr s)->(i∈J/\(∃t,s=.own t)/\∀b,S2 i b->M' b)∨(i∉J/\y[i]?=Jr (Jr s)/\S2 i=S1 i):=λi s e=>by by_cases hi:i∈J;exact .inl #[hi,g3 i hi s e];let#[G,B]:=g2 i hi;exact .inr #[hi,G▸e,B]
  have st:Ste F H S ρ F' H' S2 L:=#[#[m.ff.trans o.ff,λb u e n=>o.hh b u (m.hh b u e λz=>n (P b z)) λz=>n (up b z),λb e=>m.dm b (o.dm b e),λb e z=>by
    by_cases q:F2 b=Js;exact lk b (o.fn b q z);exact(m.fn b e q).imp (P b) id,
   λb #[i,t,h1,O]=>by
    rcases M i _ h1 with⟨_,_,e⟩| ⟨_,G,B⟩
    exact lk b (hf b (.inr (e b O)));rw[B]at O;exact(m.uu b #[i,t,G,O]).imp (P b) id,
   λj t e hd=>by
    rcases M j _ e with⟨_,⟨t',z⟩,_⟩| ⟨_,G,B⟩
    cases z;let#[b1,b2]:=m.bo j t G hd;exact#[(vD J ρ j _ b1).2,B.trans b2]],
   λj t e=>by
    rcases M j _ e with⟨A,_,_⟩| ⟨_,G,B⟩
    exact C j A;let#[t0,e0]:=m.ow j t G;exact#[t0,(vD J ρ j _ e0).2]]
  refine k v F' H' S2 L r Jt Z st I4 #[tr,λ_ b hb=>?_,λz=>(by cases z),λ_ i s e b hb z=>?_] q;exact(lk b (hf b (.inl hb))).symm;rcases M i s e with⟨_,_,B⟩| ⟨_,G,B⟩
  ·exact dz b hb (B b z)
  rw[B]at z;exact nw3 b (hf b (.inl hb)) i s G z
end
section
variable{K:QE}{Γ:Ev}{Ψ:PEv}{E:XE}{O:XK}{F H F1 H1:Hp}{S S1:Ft}{ρ Q:kA}{σ:St}
section
variable{j i:Nat}{t s:T}{b:Bool}{G C:Hp}{B:Ft}{Y:kA}{W P Z:uB}{vs L:LV}{ts us:LT}{a:jv}{M o:HO}{v A J:V}{x y:D}{ks:List D}{R:Hp->Prop}{N:T->Prop}
theorem AB(z:ρ[j]?=Jr (Jr (.own t))){s:Sl}(h:(ρ.set j (Jr (.kw t)))[i]?=Jr (Jr s)):(i=j/\s=.kw t)∨(i≠j/\ρ[i]?=Jr (Jr s)):=by
 rcases uA h with⟨rfl,e,_⟩| ⟨n,h⟩
 injection e with e;exact .inl #[rfl,e];exact .inr #[qC n,h]
theorem Rl.lock1(I:Rl K F H S ρ σ)(h:ρ[j]?=Jr (Jr (.own t))):Rl K F H S (ρ.set j (Jr (.kw t))) σ where
 fh:=I.fh
 len:=by simpa using I.len
 sl:=λi s e=>by
  rcases AB h e with⟨rfl,rfl⟩| ⟨_,e⟩
  let#[v,g,f]:=I.sl i _ h;exact#[v,g,f.weak];exact I.sl i s e
 dj:=λi k u s n p m=>by
  rcases AB h p with⟨_,z⟩| ⟨r,w⟩
  cases z;rcases AB h m with⟨q,_⟩| ⟨_,l⟩
  ·exact I.dj i k u _ n w (q▸h)
  exact I.dj i k u s n w l
theorem Rl.lock1U(I:Rl K F H S ρ σ)(w:ρ[j]?=Jr (Jr (.own t)))(b:jv)(hb:S j b):¬ U (ρ.set j (Jr (.kw t))) S b:=λ#[i,u,h,k]=>by
 rcases AB w h with⟨_,z⟩| ⟨n,h⟩
 cases z;exact I.dj i j u _ n h w b k hb
theorem lock1U(k:ρ[j]?=Jr (Jr (.own t))){b:jv}(h:U (ρ.set j (Jr (.kw t))) S b):U ρ S b:=by
 let#[i,u,w,e]:=h;rcases AB k w with⟨_,z⟩| ⟨n,w⟩
 cases z;exact#[i,u,w,e]
theorem rE.lock1(X:rE K F H S ρ E O)(w:ρ[j]?=Jr (Jr (.own t))):rE K F H S (ρ.set j (Jr (.kw t))) E O:=λx k G C B Y h f r q =>
 X x k G C (λ_ _=>False) [] #[h.ff,λb u e n=>h.hh b u e λz=>n (lock1U w z),h.dm,λb e z=>(h.fn b e z).imp (lock1U w) id,λb #[i,t,e,_]=>by simp at e,λj t e=>by simp at e] f r q
theorem gQ(I:Rl K F H S ρ σ)(h:ρ[j]?=Jr (Jr (.own t)))(s:Ste F H S (ρ.set j (Jr (.kw t))) G C B Y)(l:Rl K G C B Y σ){b:jv}(hb:S j b) :
  ∀(i:Nat) w,i≠j->Y[i]?=Jr (Jr w)->¬ B i b:=λi w n e z=>by
 cases w with
 |own u=>rcases s.uu b ⟨i,u,e,z⟩ with q|q;exact I.lock1U h b hb q;exact(I.dom h hb).1 q
 |kw u =>
  cases f:u.isD with
  |true=>exact l.isD e f z|false =>
   let#[k,g]:=s.bo i u e f;rw[g]at z;rcases AB h k with⟨q,_⟩| ⟨_,k⟩
   exact n q;exact I.dj j i t _ (qC n) h k b hb z
theorem nH{t':T}{v0:V}{m:Hp}{Z':uB}(I:Rl K F H S ρ σ)(w:ρ[j]?=Jr (Jr (.own t)))(hv:σ[j]?=Jr (Jr v0))(s:Ste F H S (ρ.set j (Jr (.kw t))) G C B Y)(l:Rl K G C B Y σ)
  (hH:∀b u,C b=Jr u->¬ S j b->m b=Jr u) (dm:∀b,m b=Js->C b=Js) (r:Tr K G m Jt v0 t' Z') (hz:∀b,Z' b->S j b∨W b∨C b=Js) (hw:Held G C B Y W) (frW:∀b,W b->H b=Js∨U (ρ.set j (Jr (.kw t))) S b) :
  Ste F H S ρ G m (ZG B j Z') (Y.set j (Jr (.own t')))/\Rl K G m (ZG B j Z') (Y.set j (Jr (.own t'))) σ/\∀b,S j b∨W b∨C b=Js->∀(i:Nat) h,i≠j->Y[i]?=Jr (Jr h)->¬ B i b:=by
 have nw:∀b,S j b∨W b∨C b=Js->∀(i:Nat) h,i≠j->Y[i]?=Jr (Jr h)->¬ B i b:=λb hb i h n e z=>by rcases hb with hb|hb|hb;exact gQ I w s l hb i h n e z;exact hw.nw i h e b hb z;exact(l.dom e z).1 hb
 have uj:∀b,S j b->U ρ S b:=λb hb=>#[j,t,w,hb]
 have lk:∀b,S j b∨W b∨C b=Js->U ρ S b∨H b=none:=λb hb=>by rcases hb with hb|hb|hb;exact .inl (uj b hb);exact(frW b hb).symm.imp (lock1U w) id;exact .inr (s.dm b hb)
 have fS:∀b,S j b->G b=none:=λb hb=>by
  by_cases q:G b=Js;exact q;rcases s.fn b (I.dom w hb).2 q with z|z
  ·exact h7 z (I.lock1U w b hb)
  exact h7 z (I.dom w hb).1
 have fh:Same G m:=λb u e=>hH b u (l.fh b u e) λz=>by rw[fS b z]at e;cases e
 have I3:Rl K G m B (Y.set j Js) σ:=#[fh,by simpa using l.len,λi h e=>by
   rcases uA e with⟨_,z,_⟩| ⟨n,e⟩
   cases z;let#[v,p,f]:=l.sl i h e;refine#[v,p,f.mono (.refl _) λb hb=>#[?_,(f.dom b hb).2]];cases eb:C b with|none=>exact h7 eb (f.dom b hb).1|some u=>exact hH b u eb λz=>gQ I w s l z i h (qC n) e hb,
  λi k u h n g X=>by
   rcases uA g with⟨_,z,_⟩| ⟨_,g⟩
   cases z;rcases uA X with⟨_,z,_⟩| ⟨_,X⟩
   ·cases z
   exact l.dj i k u h n g X]
 have I4:=I3.setO j hv r λi h n e b hb=>by
  rcases uA e with⟨_,z,_⟩| ⟨_,e⟩
  cases z;exact nw b (hz b hb) i h n e
 have es:(Y.set j Js).set j (Jr (.own t'))=Y.set j (Jr (.own t')):=by simp
 rw[es]at I4;refine#[#[#[s.ff,λb u e n=>hH b u (s.hh b u e λz=>n (lock1U w z)) λz=>n (uj b z),λb e=>s.dm b (dm b e),λb e z=>(s.fn b e z).imp (lock1U w) id,λb #[i,u,p,f]=>?_,λi u e hd=>?_],λi u e=>?_],I4,nw];rcases uA p with⟨rfl,_,_⟩| ⟨n,p⟩
 ·rw[NA]at f
  exact lk b (hz b f)
 rw[rA (qC n)]at f;exact(s.uu b #[i,u,p,f]).imp (lock1U w) id;rcases uA e with⟨rfl,z,_⟩| ⟨n,e⟩
 ·cases z
 let#[g,X]:=s.bo i u e hd;rcases AB w g with⟨z,_⟩| ⟨_,g⟩
 exact h7 z.symm n;exact#[g,by rw[rA (qC n)];exact X];rcases uA e with⟨rfl,_,_⟩| ⟨n,e⟩
 ·exact#[t,w]
 let#[t0,e0]:=s.ow i u e;rcases AB w e0 with⟨_,z⟩| ⟨_,e0⟩
 cases z;exact#[t0,e0]
theorem Trs.erase{st:Bool}{S:uB}{k:Nat}(h:Trs K F H st vs ts S)(e:ts[k]?=Jr t):∃v P1 u,vs[k]?=Jr v/\Tr K F H st v t P1/\Trs K F H st (vs.eraseIdx k) (ts.eraseIdx k) u/\(∀b,P1 b->¬ u b)/\∀b,P1 b∨u b->S b:=by
 revert k;refine Trs.ind (R:=λst vs ts S=>∀{k:Nat},ts[k]?=Jr t->∃v P1 u,vs[k]?=Jr v/\Tr K F H st v t P1/\Trs K F H st (vs.eraseIdx k) (ts.eraseIdx k) u/\(∀b,P1 b->¬ u b)/\∀b,P1 b∨u b->S b) (λn k e=>by cases e) (λ{_ _ _ _ _ _ r _} h t n q f k e=>?_) h;cases k with|zero=>cases e;exact#[_,_,_,rfl,h,t,n,λb hb=>(q b).mpr hb]|succ k=>let#[v,P1,u,p,m,l,g,w]:=f (k:=k) e;refine#[v,P1,λb=>r b∨u b,p,m,.cons h l (λb hb z=>n b hb (w b (.inr z))) λb=>QAZ,λb hb z=>z.elim (λz=>n b z (w b (.inl hb))) (g b hb),λb hb=>(q b).mpr ?_];rcases hb with hb|hb|hb;exact .inr (w b (.inl hb));exact .inl hb;exact .inr (w b (.inr hb))
theorem ZH{α:Type}:∀{l:List α}{k:α},l.Nodup->¬ k∈l->(l++[k]).Nodup
 |[],k,_,_=>by simp|a::r,k,h,hk=>by let#[u,z]:=Qa.mp h;show(a::(r++[k])).Nodup;refine Qa.mpr #[λm=>?_,ZH z λm=>hk (QK.mpr (Or.inr m))];rcases QW.mp m with q|q;exact u q;exact hk (QK.mpr (Or.inl (QI.mp q).symm))
theorem aJ(h:F a=Js)(r:Trs K F H Jt L us P)(n:¬ P a):Tr K F (XA H a (.lst L)) Jt (.ref a) (.lst us) λb=>b=a∨P b :=
 .lst (S':=P) ZA h (r.mono (.refl _) λb hb=>#[xA λz=>n (z▸hb),(r.dom b hb).2]) n λb=>QAZ
theorem jD(ha:Z a)(b:jv)(u:HO)(e:H b=Jr u)(hb:¬ Z b):XA H a M b=Jr u:=by have h:b≠a:=λz=>hb (by rw[z];exact ha);rw[xA h];exact e
theorem VB(b:jv)(e:XA H a M b=Js):H b=none:=by by_cases hb:b=a;rw[hb,ZA]at e;cases e;rw[xA hb]at e;exact e
theorem L7{m:Mt}{N:T->T->Prop}{R:VK}(f:Same F H)(r:Tr K F H Jt v s Z)(rv:Trs K F H Jt vs ts W)(dj:∀b,Z b->¬ W b)(h:JK m s ts N)
  (k:∀w r s' H' S1 Zr,(∀b u,H b=Jr u->¬ Z b->H' b=Jr u)->(∀b,H' b=Js->H b=Js)->Tr K F H' Jt v s' S1->Tr K F H' Jt w r Zr->(∀b,Zr b->¬ S1 b)->(∀b,S1 b∨Zr b->Z b∨W b∨H b=Js)->N r s'->R w H'):O7 K m v vs H R:=by
 cases m with
 |append =>
  let#[us0,t0,rfl,rfl,h]:=h;cases r with
  |@lst _ a p _ _ S' h1 h2 l I g =>
   have e:Z a:=(g a).mpr (.inl rfl);cases rv with
   |@cons _ w t ws us _ W1 W2 X r2 n q =>
    cases r2 with
    |nil n2 =>
     have hW:∀b,W b↔W1 b:=λb=>by rw[q b];simp[n2 b]
     refine#[a,p,w,rfl,rfl,h1,by rw[l.9];exact h.1,k .non (.d .none) _ _ _ (λ_=>False) (jD e) VB (aJ h2 (Trs.append l (Trs.one X) λb hb hw=>dj b ((g b).mpr (.inr hb)) ((hW b).mpr hw)) λz=>z.elim I λz=>dj a e ((hW a).mpr z)) (.d .non λ_ z=>z) (λ_ z=>z.elim) (λb hb=>?_) h.2];rcases hb with(hb|hb|hb)|hb;exact .inl (hb▸e);exact .inl ((g b).mpr (.inr hb));exact .inr (.inl ((hW b).mpr hb));exact hb.elim
 |pop =>
  let#[us0,i,j,t0,rfl,rfl,hi,ht,q]:=h;cases r with
  |@lst _ a p _ _ S' h1 h2 l I g =>
   have e:Z a:=(g a).mpr (.inl rfl);let#[w,P1,P2,g1,g2,g3,g4,g5]:=l.erase ht;have na:¬ P1 a:=λz=>I (g5 a (.inl z));have nb:¬ P2 a:=λz=>I (g5 a (.inr z));cases rv with
   |cons X r2 n q2 =>
    cases r2;cases X with
    |d X n1 =>
     cases X;refine#[a,i,p,j,w,rfl,rfl,h1,by rw[l.9];exact hi,g1,k w t0 _ _ _ P1 (jD e) VB (aJ h2 g3 nb) (g2.mono (.refl _) λb hb=>#[xA λz=>na (z▸hb),(g2.dom b hb).2]) (λb hb z=>?_) (λb hb=>?_) q];rcases z with z|z
     ·exact na (z▸hb)
     exact g4 b hb z;rcases hb with(hb|hb)|hb
     ·exact .inl (hb▸e)
     exact .inl ((g b).mpr (.inr (g5 b (.inr hb))));exact .inl ((g b).mpr (.inr (g5 b (.inl hb))))
 |reverse =>
  let#[ds,rfl,rfl,q]:=h;cases rv;cases r with|@lst _ a p _ _ S' h1 h2 l I g=>have e:Z a:=(g a).mpr (.inl rfl);exact#[a,p,rfl,rfl,h1,k .non (.d .none) _ _ _ (λ_=>False) (jD e) VB (aJ h2 (Trs.of_reps (l.un (oA ds)).1.reverse) λz=>z) (.d .non λ_ z=>z) (λ_ z=>z.elim) (λb hb=>by rcases hb with(hb|hb)|hb;exact .inl (hb▸e);exact hb.elim;exact hb.elim) q]
 |_=>exact h.elim
theorem Trs.setD(w:Rep K F A x){S:uB}(n:Nat)(h:Trs K F H Jt vs ts S):∃P,Trs K F H Jt (vs.set n A) (ts.set n (.d x)) P/\∀b,P b->S b:=by
 revert n;refine Trs.ind (R:=λst vs ts S=>∀n:Nat,∃P,Trs K F H st (vs.set n A) (ts.set n (.d x)) P/\∀b,P b->S b) (λ{_ S} z n=>#[S,.nil z,λ_ h=>h]) (λ{_ _ _ _ _ _ S1 B} h t m q k n=>?_) h;cases n with|zero=>exact#[B,.cons (S1:=λ_=>False) (.d w λ_ z=>z) t (λ_ z=>z.elim) λb=>by simp,λb hb=>(q b).mpr (.inr hb)]|succ n=>let#[P,e,u]:=k n;exact#[λb=>S1 b∨P b,.cons h e (λb hb z=>m b hb (u b z)) λb=>QAZ,λb hb=>(q b).mpr (hb.imp id (u b))]
theorem Trs.part{S:uB}(h:Trs K F H Jt vs ts S)(e:ts[i]?=Jr t):∃v S1,vs[i]?=Jr v/\Tr K F H Jt v t S1/\(∀b,S1 b->S b) /\
  ∀(w:Hp) t' u,(∀b,S b->¬ S1 b->w b=H b)->Tr K F w Jt v t' u->(∀b,u b->S1 b)->∃P,Trs K F w Jt vs (ts.set i t') P/\∀b,P b->S b:=by
 revert i;refine Trs.ind (R:=λst vs ts S=>∀{i:Nat},ts[i]?=Jr t->∃v S1,vs[i]?=Jr v/\Tr K F H st v t S1/\(∀b,S1 b->S b)/\∀(w:Hp) t' u,(∀b,S b->¬ S1 b->w b=H b)->Tr K F w st v t' u->(∀b,u b->S1 b)->∃P,Trs K F w st vs (ts.set i t') P/\∀b,P b->S b) (λn i e=>by cases e) (λ{_ _ _ _ _ _ m P2} h t n q p i e=>?_) h;cases i with|zero=>cases e;exact#[_,m,rfl,h,λb hb=>(q b).mpr (.inl hb),λw t' u k r f=>#[λb=>u b∨P2 b,.cons r (t.mono (.refl _) λb hb=>#[k b ((q b).mpr (.inr hb)) λz=>n b z hb,(t.dom b hb).2]) (λb hb z=>n b (f b hb) z) λb=>QAZ,λb hb=>(q b).mpr (hb.imp (f b) id)]]|succ i=>let#[v,S1,h1,h2,g,I]:=p (i:=i) e;refine#[v,S1,h1,h2,λb hb=>(q b).mpr (.inr (g b hb)),λw t' u k r f=>?_];let#[P,g1,l]:=I w t' u (λb hb X=>k b ((q b).mpr (.inr hb)) X) r f;exact#[λb=>m b∨P b,.cons (h.mono (.refl _) λb hb=>#[k b ((q b).mpr (.inl hb)) λz=>n b hb (g b z),(h.dom b hb).2]) g1 (λb hb z=>n b hb (l b z)) λb=>QAZ,λb hb=>(q b).mpr (hb.imp id (l b))]
def Vl(ks:List D)(k:D):List D:=match dA ks k with
 |some _=>ks|none=>ks++[k]
def ml{α:Type}(ks:List D)(vs:List α)(k:D)(x:α):List α:=match dA ks k with
 |some n=>vs.set n x|none=>vs++[x]
theorem mN{α u:Type}[DecidableEq α](k:α)(h:u->α)(f:u->u)(hf:∀p,h (f p)=h p):∀(l:List u) (n:Nat),(l.map h).Nodup->(l.map h)[n]?=Jr k->(∀(g:u->V) (x:V),(∀p,h p=k->g (f p)=x)->(l.map λp=>if h p=k then f p else p).map g=(l.map g).set n x)
 |[],n,_,e=>by simp at e|p::r,0,nd,e=>by
  intro g x m;have e:h p=k:=by simpa using e
  rw[QU]at nd;let#[w,X]:=Qa.mp nd;have e2:(r.map λp=>if h p=k then f p else p)=r:=by rw[show r=r.map id from(QAK r).symm,Qh];refine qV λq hq=>?_;have:h q≠k:=λz=>w (QV.mpr #[q,by simpa using hq,z.trans e.symm]);simp[this]
  rw[QU,e2,QU,QU,hQ e,m p e];rfl
 |p::r,n+1,nd,e=>by
  intro g x m;rw[QU]at nd;let#[w,X]:=Qa.mp nd;have e:(r.map h)[n]?=Jr k:=by simpa using e
  have I:¬ h p=k:=λz=>w (by rw[z];exact Qq e);rw[QU,QU,QU,hI I,mN k h f hf r n X e g x m];rfl
theorem put_keys{α h u:Type}[DecidableEq α](k:α)(z:h->α)(f:h->h)(g:h->u)(w:∀p,g (f p)=g p)(l:List h):(l.map λp=>if z p=k then f p else p).map g=l.map g:=by rw[Qh];refine qV λp _=>?_;show g (if z p=k then f p else p)=g p;split;exact w p;rfl
theorem CI.put{k:D}(f:Same F H)(ha:H a=Jr o)(dk:CI K F b o ks vs)(ry:Rep K F J k)(hk:vF b k)(hl:ks.9<jz)
  (kk:∀o',CI K F b o' (Vl ks k) (ml ks vs k A)->R (XA H a o')):sP K (.ref a) J A H R:=by
 cases b with
 |true =>
  let#[ep,h,rfl,rfl,rfl,h4,r]:=dk;let#[q,rfl]:=hk;cases ry with
  |@tup p _ _ hq rq =>
   cases TF rq;refine#[ep,h,q,ha,λp hp=>f.tupl (h4 p hp),f.tupl hq,by simpa using hl,λX=>kk _ ?_];have u:=NF q h;unfold zK Vl ml;cases e:dA (h.map λp=>tD p.1) (tD q) with
   |none =>
    rw[e]at u;have u:gG h q=none:=u;rw[u];refine#[X,h++[(q,p,A)],rfl,by simp,by simp,λx g=>?_,?_];rcases QW.mp g with g|g
    ·exact h4 x g
    rw[QI.mp g];exact hq;rw[Qb];refine ZH r λm=>aC.mp e ?_;let#[x,g,ex]:=QV.mp m;exact QV.mpr #[x,g,by rw[ex]]
   |some n =>
    rw[e]at u;have w:=bE e;have l:(h.map (·.1))[n]?=Jr q:=by
     rw[Qi]at w ⊢;cases I:h[n]? with|none=>rw[I]at w;cases w|some x=>rw[I]at w;rw[qO,Qu]at w ⊢;exact cY w
    have hs:(gG h q).isSome=true:=by
     rw[u];have:n<h.length:=by have:=(Qd.mp l).1;simpa using this
     simp[this]
    rw[hQ hs];refine#[X,_,rfl,(put_keys q (·.1) (λp=>(p.1,p.2.1,A)) (λp=>tD p.1) (λ_=>rfl) h).symm,(mN q (·.1) (λp=>(p.1,p.2.1,A)) (λ_=>rfl) h n r l (·.2.2) A λ_ _=>rfl).symm,λx g=>?_,?_];let#[y,hy,ey]:=QV.mp g;have hy:=h4 y hy;by_cases z:y.1=q;rw[hQ z]at ey;subst ey;exact hy;rw[hI z]at ey;subst ey;exact hy;have:=put_keys q (·.1) (λp:KE=>(p.1,p.2.1,A)) (·.1) (λ_=>rfl) h;rw[this];exact r
 |false =>
  let#[z,rfl]:=hk;cases ry;rcases dk with⟨h,hne,rfl,rfl,rfl,r⟩| ⟨ep,rfl,rfl,rfl⟩
  rotate_left
  exact .inr #[ep,ha,kk _ (.inl #[[(.inr z,A)],by simp,rfl,rfl,rfl,by simp])];refine .inl #[h,ha,by simpa using hl,kk _ (.inl ?_)];have u:=zI (.inr z) h;have ez:kD (.inr z)=.str z:=rfl;rw[ez]at u;unfold jS Vl ml;rw[zP];cases e:dA (h.map λp=>kD p.1) (.str z) with
  |none=>rw[e]at u;have u:BJ h (.inr z)=none:=u;rw[u];refine#[h++[(.inr z,A)],by simp,rfl,by simp[ez],by simp,?_];rw[Qb];refine ZH r λm=>aC.mp e ?_;let#[x,g,ex]:=QV.mp m;exact QV.mpr #[x,g,by rw[ex];rfl]|some n =>
   rw[e]at u;have w:=bE e;have l:(h.map (·.1))[n]?=Jr (.inr z):=by
    rw[Qi]at w ⊢;cases I:h[n]? with|none=>rw[I]at w;cases w|some x=>rw[I]at w;rw[qO,Qu]at w ⊢;exact US w
   have hs:(BJ h (.inr z)).isSome=true:=by
    rw[u];have:n<h.length:=by have:=(Qd.mp l).1;simpa using this
    simp[this]
   rw[hQ hs];refine#[_,by simpa using hne,rfl,(put_keys (.inr z) (·.1) (λp=>(p.1,A)) (λp=>kD p.1) (λ_=>rfl) h).symm,(mN (.inr z) (·.1) (λp=>(p.1,A)) (λ_=>rfl) h n r l (·.2) A λ_ _=>rfl).symm,?_];have:=put_keys (.inr z) (·.1) (λp:Key×V=>(p.1,A)) (·.1) (λ_=>rfl) h;rw[this];exact r
theorem oO(h:F a=Js)(u:CI K F b o ks L)(r:Trs K F H Jt L us P)(n:¬ P a):Tr K F (XA H a o) Jt (.ref a) (.dct b ks us) λb=>b=a∨P b :=
 .dct (S':=P) ZA u h (r.mono (.refl _) λb hb=>#[xA λz=>n (z▸hb),(r.dom b hb).2]) n λb=>QAZ
theorem mY(f:Same F H)(r:Tr K F H Jt v s Z)(ry:Rep K F J y)(rx:Rep K F A x)(h:Vh s y x N)
  (k:∀s' H' S1,(∀b u,H b=Jr u->¬ Z b->H' b=Jr u)->(∀b,H' b=Js->H b=Js)->Tr K F H' Jt v s' S1->(∀b,S1 b->Z b)->N s'->R H'):sP K v J A H R:=by
 cases s with
 |lst ts =>
  cases y with
  |int i =>
   let#[n,hn,q]:=h;cases ry;cases r with|@lst _ a xs _ _ S' h1 h2 m I l=>have g:Z a:=(l a).mpr (.inl rfl);let#[P,X,p]:=m.setD rx n;refine#[xs,n,h1,by rw[m.9];exact hn,k _ _ _ (jD g) VB (aJ h2 X λz=>I (p a z)) (λb hb=>?_) q];rcases hb with hb|hb;exact hb▸g;exact(l b).mpr (.inr (p b hb))
  |_=>exact h.elim
 |dct b ks ts =>
  let#[hk,hl,q]:=h;cases r with
  |@dct _ _ a o _ vs _ _ S' h1 dk h2 m I l =>
   have g:Z a:=(l a).mpr (.inl rfl);refine dk.put f h1 ry hk hl λo' w=>?_;unfold Vl ml at w;unfold yS at q;cases e:dA ks y with
   |some n=>rw[e]at w q;let#[P,X,p]:=m.setD rx n;refine k _ _ _ (jD g) VB (oO h2 w X λz=>I (p a z)) (λb hb=>?_) q;rcases hb with hb|hb;exact hb▸g;exact(l b).mpr (.inr (p b hb))
   |none=>rw[e]at w q;have X:=Trs.append m (Trs.one (Tr.d (S:=λ_=>False) rx λ_ z=>z)) λ_ _ z=>z;refine k _ _ _ (jD g) VB (oO h2 w X λz=>z.elim I id) (λb hb=>?_) q;rcases hb with hb|hb|hb;exact hb▸g;exact(l b).mpr (.inr hb);exact hb.elim
 |_=>exact h.elim
theorem CI.vs_inj{m:Hp}{f:List D}{u:LV}(h:CI K F b o ks vs)(h':CI K m b o f u):vs=u:=by
 cases b with|true=>let#[l,k,e,_,rfl,_]:=h;let#[g,w,z,_,rfl,_]:=h';rw[e]at z;cases z;rfl|false=>rcases h with⟨k,_,e,_,rfl,_⟩| ⟨l,e,_,rfl⟩<;>rcases h' with⟨w,_,z,_,rfl,_⟩| ⟨g,z,_,rfl⟩<;>rw[e]at z<;>cases z<;>rfl
theorem R5{F0:Hp}{n:Nat}{w:V}(f:Same F H)(r:Tr K F H Jt (.ref a) (.dct b ks ts) Z)(l:H a=Jr o)(q:CI K F0 b o ks vs)(hw:vs[n]?=Jr w)(ht:ts[n]?=Jr s)
  (ry:Rep K F J y) (rx:Rep K F A x) (h:Vh s y x N)
  (k:∀s' g S1,(∀b u,H b=Jr u->¬ Z b->g b=Jr u)->(∀b,g b=Js->H b=Js)->Tr K F g Jt (.ref a) (.dct b ks (ts.set n s')) S1->(∀b,S1 b->Z b)->N s'->R g):sP K w J A H R:=by
 cases r with
 |@dct _ _ a o' _ vs' _ _ S' h1 dk h2 h3 h4 p =>
  rw[l]at h1;cases h1;cases q.vs_inj dk;have ha:Z a:=(p a).mpr (.inl rfl);let#[w',S1,g1,g2,g3,g4]:=h3.part ht;rw[hw]at g1;cases g1;refine mY f g2 ry rx h λs' g X hh dm rs sub q2=>?_;have keep:∀b,¬ S1 b->H b≠Js->g b=H b:=λb hb m=>by
   cases e:H b with|none=>exact h7 e m|some u=>exact hh b u e hb
  have na:¬ S1 a:=λz=>h4 (g3 a z);let#[P,p1,I]:=g4 g s' X (λb hb m=>keep b m (h3.dom b hb).1) rs sub;refine k _ g (λb=>b=a∨P b) (λb u e hb=>hh b u e λz=>hb ((p b).mpr (.inr (g3 b z)))) dm (.dct (S':=P) ((keep a na (by rw[l];simp)).trans l) dk h2 p1 (λz=>h4 (I a z)) λb=>QAZ) (λb hb=>?_) q2;rcases hb with hb|hb;exact hb▸ha;exact(p b).mpr (.inr (I b hb))
theorem Mc{p:jv}(f:Same F H)(X:H p=Js)(r:Tr K F H Jt v t Z)(ry:Rep K F J y)(h:Lc y t N)
  (k:∀s' l S1,(∀b u,H b=Jr u->¬ Z b->l b=Jr u)->(∀b,l b=Js->H b=Js)->Tr K F l Jt v s' S1->(∀b,S1 b->Z b∨b=p)->N s'->R l):lJ K v [J,.ref p] (XA H p (.dT 0 [])) λ_ l=>R l:=by
 let#[ks,ts,rfl,hk,hl,h]:=h;cases r with
 |@dct _ _ a o _ vs _ _ S' h1 dk h2 h3 h4 h5 =>
  have ha:Z a:=(h5 a).mpr (.inl rfl);let#[ep,w,rfl,rfl,rfl,d4,d5]:=dk;let#[q,rfl]:=hk;have ap:a≠p:=aA h1 X;have fp:F p=none:=f.free X;have sm:Same H (XA H p (.dT 0 [])):=HB X;cases ry with
  |@tup c _ _ hq rq =>
   cases TF rq;have vf:=NF q w;refine#[a,c,.ref p,ep,w,q,rfl,rfl,(xA ap).trans h1,λx g=>(f.trans sm).tupl (d4 x g),(f.trans sm).tupl hq,by simpa using hl,λu eu=>?_,λen I=>?_];rcases h with⟨n,e,q⟩| ⟨e,q⟩
   ·have r0:Tr K F H Jt (.ref a) (.dct Jt (w.map λp=>tD p.1) ts) Z:=.dct h1 #[ep,w,rfl,rfl,rfl,d4,d5] h2 h3 h4 h5
    refine k _ _ Z (λb u e _=>sm b u e) (λb e=>VB b e) (r0.mono (.refl _) λb hb=>#[xA λz=>(r0.dom b hb).1 (by rw[z];exact X),(r0.dom b hb).2]) (λb hb=>.inl hb) q
   rw[e]at vf;rw[vf]at eu;cases eu;rcases h with⟨n,e,q⟩| ⟨e,q2⟩
   ·have hn:=bE e
    rw[e]at vf;have:n<w.length:=by have:=(Qd.mp hn).1;simpa using this
    rw[vf]at en;have en:(w.map (·.2.2))[n]?=none:=en;rw[List.getElem?_eq_none_iff,QF]at en;omega
   have ep2:zK w q c (.ref p)=w++[(q,c,.ref p)]:=by unfold zK;rw[en];rfl
   rw[ep2];have np:¬ S' p:=λz=>(h3.dom p z).1 X;have g0:Tr K F (XA H p (.dT 0 [])) Jt (.ref p) (.dct Jt [] []) λb=>b=p :=
    .dct (S':=λ_=>False) (vs:=[]) ZA #[0,[],rfl,rfl,rfl,λ_ z=>(nomatch z),Qo] fp (.nil λ_ z=>z) (λz=>z) λb=>by simp
   have g3:Trs K F (XA H p (.dT 0 [])) Jt (w.map (·.2.2)) ts S':=h3.mono (.refl _) λb hb=>#[xA λz=>np (z▸hb),(h3.dom b hb).2]
   have g1:=Trs.append g3 (Trs.one g0) λb hb z=>np (z▸hb);have dk':CI K F Jt (.dT I (w++[(q,c,.ref p)])) ((w.map λp=>tD p.1)++[tD q]) (w.map (·.2.2)++[.ref p]):=by
    refine#[I,_,rfl,by simp,by simp,λx g=>?_,?_];rcases QW.mp g with g|g
    ·exact d4 x g
    rw[QI.mp g];exact hq;rw[Qb];refine ZH d5 λm=>aC.mp e ?_;let#[x,g,ex]:=QV.mp m;exact QV.mpr #[x,g,by rw[ex]]
   refine k _ _ _ (λb u e hb=>?_) (λb e=>VB b (VB b e)) (oO h2 dk' g1 λz=>z.elim h4 ap) (λb hb=>?_) q2;rw[xA λz=>hb (by rw[z];exact ha)];exact sm b u e;rcases hb with hb|hb|hb
   ·exact .inl (hb▸ha)
   exact .inl ((h5 b).mpr (.inr hb));exact .inr hb
end
end
section
variable{K:QE}{Γ:Ev}{Ψ:PEv}
section
variable{p:PX}{F H:Hp}{S:Ft}{ρ:kA}{Z:uB}
noncomputable abbrev JX(K:QE)(Γ:Ev)(Ψ:PEv)(p:PX):Prop:=∀{E:XE}{x:XK}{F H:Hp}{S:Ft}{ρ:kA}{h:St}{Q:TK}{R:VK},Rl K F H S ρ h->rE K F H S ρ E x->(pe Ψ p E).e ρ Q->IA K (fG p) F H S ρ h Q R->(wp K Γ p x).e h H R
theorem DR(f:JX K Γ Ψ p){E:XE}{w:XK}{σ:St}{Q:Bool->kA->Prop}{R:Bool->Hp->Prop}(I:Rl K F H S ρ σ)(X:rE K F H S ρ E w)(h:(pe Ψ p E).e ρ λt _ y=>vH t.er λb=>Q b y)(k:eG K F H S ρ σ Q R) :
  (wp K Γ p w).e σ H λx i=>kF K x i R :=
 f I X h λv l j g z t n Z s u r q=>NT (r.tr.rep u.fh) q λc a=>k c l j g z s u a
theorem PSnd.of_e(w:∀E ρ Q,(pe Ψ p E).t ρ Q=(pe Ψ p E).e ρ λt _ y=>vH t.er λb=>Q b y)(z:∀v σ H R,(wp K Γ p v).t σ H R=(wp K Γ p v).e σ H λx f=>kF K x f R)(ha:∀E,(pe Ψ p E).a=eD.a)(u:JX K Γ Ψ p):PSnd K Γ Ψ p where
 e:=u
 t:=λI X h k=>by rw[w]at h;rw[z];exact DR u I X h k
 a:=λI X _ h k=>by rw[ha]at h;exact h.elim
theorem PSnd.of_0(x:∀E,(pe Ψ p E).t=eD.t)(ha:∀E,(pe Ψ p E).a=eD.a)(y:JX K Γ Ψ p):PSnd K Γ Ψ p where
 e:=y
 t:=λI X h k=>by rw[x]at h;exact h.elim
 a:=λI X _ h k=>by rw[ha]at h;exact h.elim
theorem PSnd.of_t(l:∀E ρ Q,(pe Ψ p E).e ρ Q=(pe Ψ p E).t ρ λb u=>Q (.d (.bool b)) Ju u)(v:∀z σ H R,(wp K Γ p z).t σ H R=(wp K Γ p z).e σ H λx m=>B4 x m R)(ha:∀E,(pe Ψ p E).a=eD.a)
  (f:∀{E:XE}{z:XK}{F H:Hp}{S:Ft}{ρ:kA}{σ:St}{Q:Bool->kA->Prop}{R:VK},Rl K F H S ρ σ->rE K F H S ρ E z->(pe Ψ p E).t ρ Q->eG K F H S ρ σ Q (λb=>R (.bl b))->(wp K Γ p z).e σ H R):PSnd K Γ Ψ p where
 e:=λI X h k=>by rw[l]at h;exact f I X h λb j i g y s w q=>IA.d k s w (.bl b) q
 t:=λI X h k=>by rw[v];exact f I X h λb j i g y s w q=>k b j i g y s w q
 a:=λI X _ h k=>by rw[ha]at h;exact h.elim
theorem c9(i:Nat):JX K Γ Ψ (.xt i):=by
 intro E f F H S ρ u Q R I X h k;have x:Kl ρ[i]? λt=>Q t Ju ρ:=h;show(match u[i]? with|some (Jr v)=>R v H|_=>False);have y:∀s,ρ[i]?=Jr (Jr s)->Q s.t Ju ρ->(match u[i]? with|some (Jr v)=>R v H|_=>False):=λs e q=>by let#[v,a,w]:=I.sl i _ e;rw[a];exact k v F H S ρ s.t Ju (S i) .refl I #[w.weak,λz=>(by cases z),λ_ b hb=>#[i,s,QI.mpr rfl,e,hb],λz=>(by cases z)] q
 unfold Kl at x;split at x;rename_i e;exact y _ e x;rename_i e;exact y _ e x;exact x.elim;exact x.elim
theorem Ye{m:Mt}{v:V}{s:T}(h:isMut m=Jt)(x:KH m s=Jt)(r:Tr K F H Jt v s Z):UX K m.ty v H:=by
 unfold KH at x;split at x;cases r with
 |lst y _ _ _ _ =>
  refine .inl #[?_,_,gC.of y];cases m with|append=>rfl|pop=>rfl|reverse=>rfl|_=>cases x
 cases x
theorem Im{m:Mt}{o as:PX}(io:PSnd K Γ Ψ o)(ia:PSnd K Γ Ψ as):JX K Γ Ψ (.mt m o as):=by
 intro E EK F H S ρ J Q R I X h k;show(wp K Γ o EK).e J H λx G=>UX K m.ty x G/\(wp K Γ as EK).a J G λl g=>O7 K m x l g R;cases hm:isMut m with
 |false =>
  have h:(pe Ψ o E).e ρ λx n L=>YS m (vA x n).vw=Jt/\sq (vA x n) L ((pe Ψ as E).a []) λf y=>Xg m (vA x n).vw (GB f) λz k=>Q z k y:=by have B:(if isMut m=Jt then _ else _):=h;rw[hm,hI (by simp)]at B;exact B
  refine bh (P1:=λx n=>YS m (vA x n).vw=Jt) (R1:=λv G=>UX K m.ty v G) (RR:=λv l g=>O7 K m v l g R) io ia I X h (λv F' H' x n Za r p=>jj r p) λv l F' H' S' ρ' x n f Za Y s I' X' r _ tn q=>?_;rw[KJ _ rfl]at q;exact Ve s I' r tn q k
 |true =>
  have h:n9 (CY o) λj=>AC ρ[j]? λt=>KH m t=Jt/\(pe Ψ as E).a [] (ρ.set j (Jr (.kw t))) λf y=>cE f=Jt/\y[j]?=Jr (Jr (.kw t))/\JK m t (zF f) λr s'=>Q r Jt (y.set j (Jr (.own s'))):=by have B:(if isMut m=Jt then _ else _):=h;rw[hm,hQ rfl]at B;exact B
  cases o with
  |xt j =>
   have h:AC ρ[j]? _:=h;unfold AC at h;split at h;rename_i t u;let#[ht,q1]:=h;let#[v0,hv,A]:=I.sl j _ u;have IL:=I.lock1 u;have n0:=I.lock1U u;have A:Tr K F H Jt v0 t (S j):=A;have XL:=X.lock1 u;show(match J[j]? with|some (Jr v)=>_|_=>False);rw[hv];refine#[Ye hm ht A,?_];refine ia.a (md:=[]) IL XL (λj u=>by cases as<;>cases u) q1 λl F2 g S2 y f W Y M I2 C _ O=>?_;let#[he,hj2,O]:=O;have r2:Tr K F2 g Jt v0 t (S j):=M.toStp.keep A n0;have hw:=C.held;have trs:=C.av.trs se he;have wS:∀b,S j b->¬ W b:=λb hb P=>by rcases C.fr b P with q|q;exact(A.dom b hb).1 q;exact n0 b hb q
   refine L7 I2.fh r2 trs wS O λw r s' H3 S3 Zr hh dm N rr dz hf q=>?_;let#[st,I3,nw]:=nH I u hv M I2 hh dm N (λb hb=>hf b (.inl hb)) hw C.fr;have zr:∀b,Zr b->S j b∨W b∨g b=none:=λb hb=>hf b (.inr hb);refine k w F2 H3 _ _ r Jt Zr st I3 #[rr,λ_ b hb=>?_,λz=>(by cases z),λ_ i sl e b hb z=>?_] q;rcases zr b hb with q|q|q
   ·exact .inr #[j,t,u,q]
   exact(C.fr b q).imp id (lock1U u);exact .inl (M.dm b q);rcases uA e with⟨rfl,_,_⟩| ⟨n,e⟩
   ·rw[NA]at z
    exact dz b hb z
   rw[rA (qC n)]at z;exact nw b (zr b hb) i sl (qC n) e z
   all_goals exact h.elim
  |_=>exact h.elim
theorem IA.dct{ws:LN}{F H x y:Hp}{S S1:Ft}{ρ h:kA}{σ:St}{Q:TK}{R:VK}(k:IA K ws F H S ρ σ Q R)(s:Ste F H S ρ x y S1 h)(I:Rl K x y S1 h σ){p:jv}(g:H p=Js)(m:x p=Js)(j:Held x y S1 h λb=>b=p){o:HO}{b:Bool}{ks:List D}{vs:LV}{ts:LT}{W:uB}(C:CI K x b o ks vs)(r:Trs K x y Jt vs ts W)
  (B:∀b,W b->H b=Js∨U ρ S b) (f:Held x y S1 h W) (a:¬ W p) (q:Q (.dct b ks ts) Jt h):R (.ref p) (XA y p o):=by
 have Y:∀b u,H b=Jr u->b≠p:=λb u e=>aA e g;have X:Ste F H S ρ x (XA y p o) S1 h:=#[#[s.ff,λb u e n=>by rw[xA (Y b u e)];exact s.hh b u e n,λb e=>s.dm b (VB b e),s.fn,s.uu,s.bo],s.ow]
 have E:Rl K x (XA y p o) S1 h σ:=#[λb u e=>by rw[xA λz=>by rw[z,m]at e;cases e];exact I.fh b u e,I.len,λi w e=>by let#[v,A,l]:=I.sl i w e;exact#[v,A,l.mono (.refl _) λb hb=>#[xA λz=>j.nw i w e b z hb,(l.dom b hb).2]],I.dj]
 refine k _ x _ S1 h _ Jt (λb=>b=p∨W b) X E #[.dct ZA C m (r.mono (.refl _) λb hb=>#[xA λz=>a (z▸hb),(f.dom b hb).2]) a (λb=>QAZ),λ_ b hb=>?_,λz=>(by cases z),λ_ i w e b hb z=>?_] q;rcases hb with hb|hb
 ·exact .inl (hb▸g)
 exact B b hb;rcases hb with hb|hb
 ·exact j.nw i w e b hb z
 exact f.nw i w e b hb z
theorem VR.strict{u y:Hp}{S1:Ft}{h:kA}{ws:LN}{v:V}{t:T}{n:Bool}(r:VR K ws H S ρ u y S1 h v t n Z)(e:rG t n=Jt):∃W,Tr K u y Jt v t W/\Held u y S1 h W/\∀b,W b->H b=Js∨U ρ S b:=by
 cases n with
 |true=>exact#[Z,r.tr,r.held,r.fr rfl]|false =>
  have w:=r.tr;cases t with
  |d x=>cases w with|d q _=>exact#[λ_=>False,.d q λ_ z=>z,.none,λ_ z=>z.elim]
  |_=>cases e
theorem iQ{σ:St}(I:Rl K F H S ρ σ){p:jv}(h:H p=Js)(o:HO):Held F (XA H p o) S ρ λb=>b=p :=
 #[λb hb=>#[by rw[hb,ZA];simp,by rw[hb];exact I.fh.free h],λi x e b hb z=>(I.dom e z).1 (by rw[hb];exact h)]
theorem BA(g:GOk K Γ Ψ):∀(p:PX),PSnd K Γ Ψ p
 | .xt i=>#[c9 i,λI X h k=>DR (Γ:=Γ) (Ψ:=Ψ) (c9 i) I X h k,λI X _ h k=>h.elim]|.int i=>#[λI X h k=>IA.d k .refl I (.int i) h,λI X h k=>k _ _ _ _ _ .refl I h,λI X _ h k=>h.elim]|.str x=>#[λI X h k=>IA.d k .refl I (.str x) h,λI X h k=>h.elim,λI X _ h k=>h.elim]|.bl b=>#[λI X h k=>IA.d k .refl I (.bl b) h,λI X h k=>k _ _ _ _ _ .refl I h,λI X _ h k=>h.elim]|.non=>#[λI X h k=>IA.d k .refl I .non h,λI X h k=>k _ _ _ _ _ .refl I h,λI X _ h k=>h.elim]|.glo x=>.of_e (λ_ _ _=>rfl) (λ_ _ _ _=>rfl) (λ_=>rfl) λ{E L F H S ρ G Q R} I X h k=>by have h:(match Ψ.va x with|some d=>Q (.d d) Ju ρ|none=>False):=h;split at h;rename_i d e;exact IA.d k .refl I (g.va x d e F) h;exact h.elim
 | .bty _ _=>#[λI X h k=>h.elim,λI X h k=>h.elim,λI X _ h k=>h.elim]|.bin op a b=>.of_e (λ_ _ _=>rfl) (λ_ _ _ _=>rfl) (λ_=>rfl) λ{E L F H S ρ G Q R} I X h k =>
  vY (P:=λx n y m M=>binT op (vA x n).vw (vA y m).vw λz k=>Q z k M) (RR:=λx y H2=>E8 K op x y H2 R) (BA g a) (BA g b) I X h λv w O N S' A x n y m Za Zb s C X' ra _ rb q=>Pf s C ra rb q k
 | .cmp op a b=>.of_t (λ_ _ _=>rfl) (λ_ _ _ _=>rfl) (λ_=>rfl) λ{E L F H S ρ G Q R} I X h k =>
  vY (P:=λx n y m M=>G8 op x.er (vA y m) λk=>Q k M) (RR:=λx y H2=>T3 K op x y H2 R) (BA g a) (BA g b) I X h λv w O N S' A x n y m Za Zb s C X' ra _ rb q =>
   F8 C.fh (by have:=ra.rep C.fh;rwa [mV]at this) rb q λc qc=>k c O N S' A s C qc
 | .neg a=>.of_0 (λ_=>rfl) (λ_=>rfl) λ{E L F H S ρ G Q R} I X h k=>by
  refine(BA g a).e (Q:=λx _ B=>Je x λt=>Q t Ju B) I X h λv O N S' A x n Z s C r q=>?_;have tr:=r.tr;let#[i,rfl,q2]:=(show Je x λt=>Q t Ju A from q)
  cases tr with|d rr _=>cases rr;exact IA.d k s C (.int _) q2
 | .and a b=>#[λ{E L F H S ρ G Q R} I X h k=>by
   refine(BA g a).e (Q:=λx _ B=>Cg x.er λc=>if c=Jt then(pe Ψ b E).e B Q else Q (.d (.bool Ju)) Ju B) (R:=λx J=>B4 x J λc H2=>if c=Jt then(wp K Γ b L).e G H2 R else R (.bl Ju) H2) I X h λv O N S' A x n Z s C r q=>?_;refine U4 (r.tr.rep C.fh) q λc qc=>?_;cases c with|false=>exact IA.d k s C (.bl Ju) qc|true=>exact(BA g b).e C (X.from s.toStp) qc ((k.from s).vars λi hi=>QS _ hi),
  λ{E L F H S ρ G Q R} I X h k=>by
   refine(BA g a).t (Q:=λc B=>if c=Jt then(pe Ψ b E).t B Q else Q Ju B) (R:=λc J=>if c=Jt then(wp K Γ b L).t G J R else R Ju J) I X h λc O N S' A s C qc=>?_;cases c with|false=>exact k _ O N S' A s C qc|true=>exact(BA g b).t C (X.from s.toStp) qc (eG.from k s),λI X _ h k=>h.elim]
 | .or a b=>#[λ{E L F H S ρ G Q R} I X h k=>by
   refine(BA g a).e (Q:=λx _ B=>Cg x.er λc=>if c=Jt then Q (.d (.bool Jt)) Ju B else(pe Ψ b E).e B Q) (R:=λx J=>B4 x J λc H2=>if c=Jt then R (.bl Jt) H2 else(wp K Γ b L).e G H2 R) I X h λv O N S' A x n Z s C r q=>?_;refine U4 (r.tr.rep C.fh) q λc qc=>?_;cases c with|true=>exact IA.d k s C (.bl Jt) qc|false=>exact(BA g b).e C (X.from s.toStp) qc ((k.from s).vars λi hi=>QS _ hi),
  λ{E L F H S ρ G Q R} I X h k=>by
   refine(BA g a).t (Q:=λc B=>if c=Jt then Q Jt B else(pe Ψ b E).t B Q) (R:=λc J=>if c=Jt then R Jt J else(wp K Γ b L).t G J R) I X h λc O N S' A s C qc=>?_;cases c with|true=>exact k _ O N S' A s C qc|false=>exact(BA g b).t C (X.from s.toStp) qc (eG.from k s),λI X _ h k=>h.elim]
 | .not a=>#[λ{E L F H S ρ G Q R} I X h k=>by
   refine(BA g a).e (Q:=λx _ B=>vH x.er λc=>Q (.d (.bool (!c))) Ju B) (R:=λx J=>kF K x J λc H2=>R (.bl (!c)) H2) I X h λv O N S' A x n Z s C r q=>?_;exact NT (r.tr.rep C.fh) q λc qc=>IA.d k s C (.bl _) qc,
  λ{E L F H S ρ G Q R} I X h k=>(BA g a).t (Q:=λc B=>Q (!c) B) (R:=λc J=>R (!c) J) I X h λc O N S' A s C qc=>k _ O N S' A s C qc,λI X _ h k=>h.elim]
 | .call f as=>.of_e (λ_ _ _=>rfl) (λ_ _ _ _=>rfl) (λ_=>rfl) λ{E L F H S ρ G Q R} I X h k=>R8 g (BA g as) I X h k|.isi a c=>by
  have key:∀{E:XE}{L:XK}{F H:Hp}{S:Ft}{ρ:kA}{G:St}{Q:Bool->kA->Prop}{R:VK},Rl K F H S ρ G->rE K F H S ρ E L->(pe Ψ (.isi a c) E).t ρ Q->eG K F H S ρ G Q (λb=>R (.bl b))->(wp K Γ (.isi a c) L).e G H R:=by
   intro E L F H S ρ G Q R I X h k;refine(BA g a).e (Q:=λx _ B=>pj c x.er λb=>Q b B) I X h λv O N S' A x n Z s C r q=>?_;cases c with|bty z n=>let#[b,h1,h2,q]:=q;exact Ie (r.tr.rep C.fh) h1 h2 (k b O N S' A s C q)|_=>exact q.elim
  refine#[λI X h k=>key I X h λb O N S' A s C q=>IA.d k s C (.bl b) q,λ{E L F H S ρ G Q R} I X h k=>?_,λI X _ h k=>h.elim];exact key (R:=λv J=>kF K v J R) I X h λb O N S' A s C q=>k b O N S' A s C q
 | .bi f as=>.of_e (λ_ _ _=>rfl) (λ_ _ _ _=>rfl) (λ_=>rfl) λ{E L F H S ρ G Q R} I X h k =>
  YT (P:=λxs B=>tX f (GB xs) λz k=>Q z k B) (RR:=λvs J=>ck K f vs J R) (BA g as) I X h λvs O N S' A xs Y s C X' tn _ q=>by rw[KJ _ rfl]at q;exact zg s C tn q k
 | .mt m o as=>.of_e (λ_ _ _=>rfl) (λ_ _ _ _=>rfl) (λ_=>rfl) (Im (BA g o) (BA g as))|.idx a b=>by
  have he:JX K Γ Ψ (.idx a b):=λ{E L F H S ρ G Q R} I X h k =>
   vY (P:=λx n y m M=>(GK (vA x n).vw (vA y m).vw λz=>Q z Ju M)∨(dO (vA x n).vw y.er λz=>Q z Ju M)) (RR:=λx y H2=>bW K x y H2 R) (BA g a) (BA g b) I X h λv w O N S' A x n y m Za Zb s C X' ra za rb q=>by rcases q with q|q;exact yf s C ra za rb q k;exact Jf s C ra za (by have:=rb.rep C.fh;rwa [mV]at this) q k
  exact#[he,λI X h k=>DR he I X h k,λI X _ h k=>h.elim]
 | .slc a lo hi=>.of_0 (λ_=>rfl) (λ_=>rfl) λ{E L F H S ρ G Q R} I X h k=>by
  have part:∀(p:PX),PSnd K Γ Ψ p->∀{F H:Hp}{S:Ft}{ρ:kA}{x:T}{P:Option Int->kA->Prop}{RP:Option Int->Hp->Prop},Rl K F H S ρ G->rE K F H S ρ E L ->
    sq (α:=Option Int) x ρ (if isNop p=Jt then λρ (R:Option Int->kA->Prop)=>R Js ρ else λρ R=>(pe Ψ p E).e ρ λl _ M=>YD l.er λo=>R o M) P ->
    (∀o O N S' A,Ste F H S ρ O N S' A->Rl K O N S' A G->(∀st v Zx,Tr K F H st v x Zx->Tr K O N st v x Zx)->P o A->RP o N) ->
    (if isNop p=Jt then λ(R:Option Int->Hp->Prop)=>R Js H else λR=>(wp K Γ p L).e G H λl H2=>mK l H2 R) RP:=by
   intro p ip F H S ρ x P RP I X h k;cases hn:isNop p with
   |true=>simp only[hn,if_true]at h ⊢;refine k Js F H S ρ .refl I (λ_ _ _ r=>r) ?_;unfold sq at h;split at h<;>exact h|false =>
    simp only[hn,qF,if_false]at h ⊢;have h2:sq x ρ (cu (pe Ψ p E).e) λy A=>YD y.1.er λo=>P o A:=by unfold sq at h ⊢;exact h
    refine Bh ip I X h2 λw O N S' A y m Z s C kp _ r q=>O6 (r.tr.rep C.fh) q λo qo=>k o O N S' A s C kp qo
  refine VD (BA g a) I X h λv F1 J S1 B x n Za s1 I1 X1 r1 _ z1 h1=>?_;refine part lo (BA g lo) I1 X1 h1 λl F2 H2 S2 M s2 I2 k2 h2=>?_;refine part hi (BA g hi) I2 (X1.from s2.toStp) h2 λu F3 H3 S3 ρ3 s3 I3 k3 h3=>?_;exact Bc (s1.trans (s2.trans s3)) I3 (k3 _ _ _ (k2 _ _ _ r1)) h3 k
 | .nop=>#[λI X h k=>h.elim,λI X h k=>h.elim,λI X _ h k=>h.elim]|.lst as=>.of_0 (λ_=>rfl) (λ_=>rfl) λ{E L F H S ρ G Q R} I X h k=>by refine(BA g as).a (md:=[]) (R:=λxs J=>xs.9<=jz/\∀p,J p=Js->R (.ref p) (XA J p (.lst xs))) I X (λj hj=>by cases as<;>cases hj) h λvs O N S' A xs W Y s C r _ q=>?_;exact#[by rw[r.av.9];exact q.2.1,λp hp=>IA.list k s C hp (r.av.trs se q.1) r.fr r.held q.2.2]|.tup as=>.of_0 (λ_=>rfl) (λ_=>rfl) λ{E L F H S ρ G Q R} I X h k=>by refine(BA g as).a (md:=[]) (R:=λxs J=>xs.9<=jz/\∀p,J p=Js->R (.ref p) (XA J p (.tup xs))) I X (λj hj=>by cases as<;>cases hj) h λvs O N S' A xs W Y s C r _ q=>?_;exact#[by rw[r.av.9];exact q.2.1,λp hp=>IA.tup k s C hp (r.av.trs se q.1) r.fr r.held q.2.2]|.comp mask tgs tg ik its cond elt=>.of_0 (λ_=>rfl) (λ_=>rfl) λ{E L F H S ρ G Q R} I X h k=>by
  refine YT (RR:=λvs J=>rC K ik vs J λxs st H2=>GV K xs st tg (if isNop cond=Jt then λ_ H Q=>Q Jt H else(wp K Γ cond (λ_ _ _=>False)).t) (wp K Γ elt (λ_ _ _=>False)).e (HH tgs.9 mask G) H2 R) (BA g its) I X h λvs F1 J S1 B xs Y s1 I1 X1 tn tm q1=>?_;rw[KJ _ rfl]at q1;refine nI I1.fh tn q1 λxs ys st pr hst hc=>?_;refine N3 (us:=fG elt) ?_ ?_ s1 I1 pr (λb hb=>?_) hst hc k;intro F H S ρ G Q R I h k;cases hn:isNop cond with|true=>simp only[hn,if_true]at h ⊢;exact k Jt F H S ρ .refl I h|false=>simp only[hn,qF,if_false]at h ⊢;exact(BA g cond).t I rE.never h k
  intro F H S ρ G Q R I h k;exact(BA g elt).e I rE.never h k;let#[i,sl,_,h2,h3]:=tm b hb;exact I1.dom h2 h3
 | .lset a=>.of_0 (λ_=>rfl) (λ_=>rfl) λ{E L F H S ρ G Q R} I X h k =>
  VD (P:=λx n B=>A9 (vA x n).vw λz k=>Q z k B) (RR:=λx J=>NY K x J R) (BA g a) I X h λv O N S' A x n Z s C _ r _ _ #[us,ss,e,hb,l,q]=>by let#[p,xs,_,rfl,hp,rp,_]:=r.ls C.fh e;obtain rfl:=mC (rp.un hb).1;exact#[p,ss,rfl,hp,l,λzs nd m=>k.d s C (.int _) (q zs nd m)]
 | .sset a=>.of_0 (λ_=>rfl) (λ_=>rfl) λ{E L F H S ρ G Q R} I X h k =>
  VD (P:=λx n B=>MJ (vA x n).vw λz k=>Q z k B) (RR:=λx J=>IR K x J R) (BA g a) I X h λv O N S' A x n Z s C _ r _ _ hq=>by
   rcases hq with⟨us,ss,e,hb,l,q⟩| ⟨us,rs,e,hb,⟨l,hn⟩,q⟩
   let#[p,xs,_,rfl,hp,rp,_]:=r.ls C.fh e;obtain rfl:=mC (rp.un hb).1;exact .inl #[p,ss,rfl,hp,l,λa zs hl nd m so=>k.listD s C hl (kI zs) (q zs nd m so)];let#[p,xs,_,rfl,hp,rp,_]:=r.ls C.fh e;have rr:=(rp.un hb).1;refine .inr #[λx r=>Rep K O x (tpS r),p,xs,rs,#[rfl,hp,mU rr,λx r h=>?_],l,hn,λzs nd m=>#[(q zs nd m).1,λa ys hl pr=>k.listD s C hl (eU pr) (q zs nd m).2]];unfold tpS at h;cases h with|tup sq rs=>exact#[_,rfl,C.fh.tupl (mC rs▸sq)]
 | .dnew b=>.of_0 (λ_=>rfl) (λ_=>rfl) λ{E L F H S ρ G Q R} I X h k=>by
  intro p hp;have hh:=iQ I hp (.dT 0 []);have e:=IA.dct (o:=.dT 0 []) (b:=b) (ks:=[]) (vs:=[]) (ts:=[]) (W:=λ_=>False) k (Ste.refl.new hp (.dT 0 [])) (I.new hp _) hp (I.fh.free hp) hh ?_ (.nil λ_ z=>z) (λ_ z=>z.elim) .none (λz=>z) h;rw[M5]at e;exact e;cases b with
  |true=>exact#[0,[],rfl,rfl,rfl,λ_ z=>(nomatch z),Qo]
  |false=>exact .inr #[0,rfl,rfl,rfl]
 | .dsp a b=>.of_0 (λ_=>rfl) (λ_=>rfl) λ{E L F H S ρ G Q R} I X h k=>by
  intro p hp;have hh:=iQ I hp (.dT 0 []);have s0:Ste F H S ρ F (XA H p (.dT 0 [])) S ρ:=Ste.refl.new hp _;refine VD (BA g a) (I.new hp _) (X.from s0.toStp) h λy F1 J S1 B x n Z s1 I1 X1 _ er _ #[he,q1]=>?_;have hh1:=hh.step s1.toStp I1;have ry:=er he;refine(BA g b).e I1 X1 q1 λv F2 H2 S2 M t m Zb s2 I2 r2 q2=>?_;have hh2:=hh1.step s2.toStp I2;let#[he2,hk,q2]:=q2;let#[W,rw,hw,frw]:=(r2.from s1.toStp).strict he2;have hp2:H2 p=Jr (.dT 0 []):=s2.hh p _ (s1.hh p _ ZA (hh.nu p rfl)) (hh1.nu p rfl);have np:¬ W p:=λz=>by rcases frw p z with q|q;rw[ZA]at q;cases q;exact hh.nu p rfl q
  have ry2:=ry.mono s2.ff;refine#[hp2,?_];generalize x.er=d at hk ry2 q2;let#[ks,rfl]:=hk;cases ry2 with|@tup c _ _ hq rq=>cases TF rq;refine#[c,ks,rfl,I2.fh.tupl hq,λep=>?_];exact IA.dct (o:=.dT ep [(ks,c,v)]) (b:=Jt) (vs:=[v]) (ts:=[t]) k (s0.trans (s1.trans s2)) I2 hp (hh2.dom p rfl).2 hh2 #[ep,_,rfl,rfl,rfl,λz hz=>by rw[QI.mp hz];exact hq,by simp] (Trs.one rw) (λb hb=>by rcases frw b hb with q|q;exact .inl (VB b q);exact .inr q) hw np q2
 | .ny=>#[λI X h k=>h.elim,λI X h k=>h.elim,λ{E L F H S ρ G md Q R} I X _ h k=>k [] F H S ρ [] (λ_=>False) (λ_=>False) .refl I #[.nil λ_ z=>z,λ_ z=>z.elim,λ_ z=>z.elim,λ_ _ _ _ z=>z.elim] (by cases md with|nil=>rfl|cons m r=>cases m<;>rfl) h]
 | .nr a as=>#[λI X h k=>h.elim,λI X h k=>h.elim,λ{E L F H S ρ G md Q R} I X hm h k=>by
  show(wp K Γ a L).e G H λx J=>(wp K Γ as L).a G J λxs H2=>R (x::xs) H2;have vr2:∀i∈fG as,i∈fG (.nr a as):=λi hi=>QS _ hi;cases hmd:(md.headD .ky).isMut with
  |true =>
   have h2:K2 a=Jt/\(pe Ψ as E).a md.tail ρ λxs B=>Q ((.d .none,Jt)::xs) B:=by have h3:(if(md.headD .ky).isMut=Jt then _ else _):=h;rw[hmd,hQ rfl]at h3;exact h3
   obtain⟨m,md',rfl⟩:∃m md',md=m::md':=by
    cases md with|nil=>cases hmd|cons m md'=>exact#[m,md',rfl]
   have em:m=.chg:=by have hmd:m.isMut=true:=hmd;cases m<;>first|rfl|cases hmd
   subst em;cases a with
   |xt j=>let#[v,hv]:=hm j (show j∈j::cA md' as from QD);show(match G[j]? with|some (Jr v)=>_|_=>False);rw[hv];refine(BA g as).a I X (λi hi=>hm i (QC _ hi)) h2.2 λvs O N S' A xs W Y s C r mv q=>?_;refine k (v::vs) O N S' A _ W Y s C #[.chg hmd r.av,r.fr,(r.vars vr2).tm,r.nw] ?_ q;show(Jr (Jr v))::(lB md' vs).map _=G[j]?::(cA md' as).map _;have mv:(lB md' vs).map (λv=>Jr (Jr v))=(cA md' as).map (λj=>G[j]?):=mv;rw[hv,mv]
   |_=>exact h7 h2.1 (by simp[K2])
  |false =>
   have h2:(pe Ψ a E).e ρ λx n B=>sq (α:=List (T×Bool)) (if n=Jt then .d .none else x) B ((pe Ψ as E).a md.tail) λxs M=>Q ((x,n)::xs) M:=by have h3:(if(md.headD .ky).isMut=Jt then _ else _):=h;rw[hmd,hI (by simp)]at h3;exact h3
   have hroots:cA md (.nr a as)=cA md.tail as:=by
    cases md with|nil=>cases as<;>rfl|cons m md'=>have hmd:m.isMut=false:=hmd;cases m<;>first|rfl|cases hmd
   have hmv:∀v vs,lB md (v::vs)=lB md.tail vs:=λv vs=>by unfold lB;generalize md.headD .ky=m at hmd;cases m<;>first | (cases vs<;>rfl)|cases hmd
   refine(BA g a).e I X h2 λv F1 J S1 B x n Z s1 I1 r1 q1=>?_;refine Dh (BA g as) I1 (X.from s1.toStp) (λi hi=>hm i (by rw[hroots];exact hi)) q1 λvs F2 H2 S2 M xs W Y s2 I2 kp hs r2 mv q2=>?_;have s12:=s1.trans s2;have r2':=(r2.from s1.toStp).vars vr2;have mv':(lB md (v::vs)).map (λv=>Jr (Jr v))=(cA md (.nr a as)).map (λj=>G[j]?):=by rw[hroots,hmv];exact mv
   cases n with
   |true =>
    have hd:=r1.held;have hd2:=hd.step s2.toStp I2;refine k (v::vs) F2 H2 S2 M _ (λb=>Z b∨W b) Y s12 I2 #[.new hmd (s2.toStp.keep r1.tr hd.nu) r2.av (λb hb hw=>?_) λb=>QAZ,λb hb=>?_,r2'.tm,λi sl e b hb=>?_] mv' q2;rcases r2.fr b hw with q|q
    ·exact(hd.dom b hb).1 q
    exact hd.nu b hb q;rcases hb with hb|hb
    ·exact r1.fr rfl b hb
    exact r2'.fr b hb;rcases hb with hb|hb
    ·exact hd2.nw i sl e b hb
    exact r2.nw i sl e b hb
   |false =>
    have za:∀b,Z b->∃(i:Nat) (s:Sl),i∈fG a/\M[i]?=Jr (Jr s)/\S2 i b:=by
     cases hd:x.isD with
     |true =>
      intro b hb;exfalso;have tr:=r1.tr;cases x with
      |d x=>cases tr with|d r n=>exact n b hb
      |_=>cases hd
     |false=>let#[e1,e2]:=hs hd;rw[e1,e2];exact r1.tm rfl
    refine k (v::vs) F2 H2 S2 M _ W (λb=>Z b∨Y b) s12 I2 #[.tmp hmd (kp _ _ _ r1.tr) (λb hb=>.inl hb) (r2.av.sub λb hb=>.inr hb),r2'.fr,λb hb=>?_,r2.nw] mv' q2;rcases hb with hb|hb;let#[i,sl,h1,h2]:=za b hb;exact#[i,sl,Qg _ h1,h2];exact r2'.tm b hb]
end
end
structure Sts(C J:LN)(F H:Hp)(S:Ft)(ρ:kA)(σ:St)(F' H':Hp)(S':Ft)(ρ':kA)(σ':St):Prop where
 ff:Same F F'
 hh:∀b u,H b=Jr u->¬ U ρ S b->H' b=Jr u
 dm:∀b,H' b=Js->H b=Js
 fn:∀b,F b=Js->F' b≠Js->U ρ S b∨H b=Js
 uu:∀b,U ρ' S' b->U ρ S b∨H b=Js
 bo:∀(j:Nat) t,j∉J->ρ'[j]?=Jr (Jr (.kw t))->t.isD=Ju->ρ[j]?=Jr (Jr (.kw t))/\S' j=S j/\σ'[j]?=σ[j]?
 sg:∀j∈C,σ'[j]?=σ[j]?
structure Stc(C:LN)(F H:Hp)(S:Ft)(ρ:kA)(σ:St)(F' H':Hp)(S':Ft)(ρ':kA)(σ':St):Prop where
 ff:Same F F'
 hh:∀b u,H b=Jr u->¬ U ρ S b->H' b=Jr u
 dm:∀b,H' b=Js->H b=Js
 fn:∀b,F b=Js->F' b≠Js->U ρ S b∨H b=Js
 uu:∀b,U ρ' S' b->U ρ S b∨H b=Js
 sg:∀j∈C,σ'[j]?=σ[j]?
section
variable{K:QE}{Γ:Ev}{Ψ:PEv}{E:XE}{M:XK}{F H p X B L:Hp}{S S1 G:Ft}{ρ y Y:kA}{σ g A:St}{C J:LN}
section
variable{t:T}{Z:uB}{i:Nat}
theorem Stp.sts(s:Stp F H S ρ p X S1 y):Sts C J F H S ρ σ p X S1 y σ:=#[s.ff,s.hh,s.dm,s.fn,s.uu,λj t _ e h=>let#[z,x]:=s.bo j t e h;#[z,x,rfl],λ_ _=>rfl]
theorem Sts.refl:Sts C J F H S ρ σ F H S ρ σ:=Stp.refl.sts
theorem Sts.trans(a:Sts C J F H S ρ σ p X S1 y g)(b:Sts C [] p X S1 y g B L G Y A):Sts C J F H S ρ σ B L G Y A where
 ff:=a.ff.trans b.ff
 hh:=λx u h n=>b.hh x u (a.hh x u h n) λz=>by rcases a.uu x z with q|q;exact n q;rw[q]at h;cases h
 dm:=λx h=>a.dm x (b.dm x h)
 fn:=λx h z=>by
  by_cases q:p x=Js;rcases b.fn x q z with w|w
  ·exact a.uu x w
  exact .inr (a.dm x w);exact a.fn x h q
 uu:=λx h=>by rcases b.uu x h with w|w;exact a.uu x w;exact .inr (a.dm x w)
 bo:=λj t v h n=>by let#[o,m,l]:=b.bo j t (by simp) h n;let#[f,e,k]:=a.bo j t v o n;exact#[f,m.trans e,l.trans k]
 sg:=λj v=>(b.sg j v).trans (a.sg j v)
theorem Sts.c(s:Sts C J F H S ρ σ p X S1 y g):Stc C F H S ρ σ p X S1 y g:=#[s.ff,s.hh,s.dm,s.fn,s.uu,s.sg]
theorem Stc.trans(a:Stc C F H S ρ σ p X S1 y g)(b:Stc C p X S1 y g B L G Y A):Stc C F H S ρ σ B L G Y A where
 ff:=a.ff.trans b.ff
 hh:=λx u h n=>b.hh x u (a.hh x u h n) λz=>by rcases a.uu x z with q|q;exact n q;rw[q]at h;cases h
 dm:=λx h=>a.dm x (b.dm x h)
 fn:=λx h z=>by
  by_cases q:p x=Js;rcases b.fn x q z with w|w
  ·exact a.uu x w
  exact .inr (a.dm x w);exact a.fn x h q
 uu:=λx h=>by rcases b.uu x h with w|w;exact a.uu x w;exact .inr (a.dm x w)
 sg:=λj v=>(b.sg j v).trans (a.sg j v)
theorem rE.fromS(h:rE K F H S ρ E M)(s:Sts C J F H S ρ σ p X S1 y g):rE K p X S1 y E M:=λx k B L G Y v f r q =>
 h x k B L (λ_ _=>False) [] #[s.ff.trans v.ff,λb u e n=>v.hh b u (s.hh b u e n) (λz=>(s.uu b z).elim n λw=>(by rw[w]at e;cases e)),λb e=>s.dm b (v.dm b e),λb e z=>by
  by_cases q:p b=Js;rcases v.fn b q z with w|w
  ·exact s.uu b w
  exact .inr (s.dm b w);exact s.fn b e q,λb #[i,t,e,_]=>by simp at e,λj t e=>by simp at e] f r q
structure EndsOk(K:QE)(C:LN)(F H:Hp)(S:Ft)(ρ:kA)(σ:St)(Z:PEnds)(Dn:Ends):Prop where
 nx:∀F' H' S' ρ' σ',Sts C [] F H S ρ σ F' H' S' ρ' σ'->Rl K F' H' S' ρ' σ'->Z.nx ρ'->Dn.nx σ' H'
 rt:∀v t W F' H' S' ρ' σ',Stc C F H S ρ σ F' H' S' ρ' σ'->Rl K F' H' S' ρ' σ'->Tr K F' H' Jt v t W->Held F' H' S' ρ' W->(∀b,W b->H b=Js∨U ρ S b)->Z.rt t ρ'->Dn.rt v H'
 bk:∀F' H' S' ρ' σ',Sts C [] F H S ρ σ F' H' S' ρ' σ'->Rl K F' H' S' ρ' σ'->Z.bk ρ'->Dn.bk σ' H'
 ct:∀F' H' S' ρ' σ',Sts C [] F H S ρ σ F' H' S' ρ' σ'->Rl K F' H' S' ρ' σ'->Z.ct ρ'->Dn.ct σ' H'
theorem Mn(s:Sts C J F H S ρ σ p X S1 y g){W:uB}(h:∀b,W b->X b=Js∨U y S1 b):∀b,W b->H b=Js∨U ρ S b:=λb hb=>by rcases h b hb with q|q;exact .inl (s.dm b q);exact(s.uu b q).symm
theorem EndsOk.from{Z:PEnds}{b:Ends}(ok:EndsOk K C F H S ρ σ Z b)(s:Sts C [] F H S ρ σ p X S1 y g):EndsOk K C p X S1 y g Z b :=
 #[λa k w z x u I q=>ok.nx a k w z x (s.trans u) I q,λv t W a k w z x u I r h e q=>ok.rt v t W a k w z x (s.c.trans u) I r h (Mn s e) q,
  λa k w z x u I q=>ok.bk a k w z x (s.trans u) I q,λa k w z x u I q=>ok.ct a k w z x (s.trans u) I q]
theorem Sts.setD(s:Sts C J F H S ρ σ p X S1 y g)(i:Nat)(a:i∉C)(v:V)(k:t.isD=Jt)(Z:uB):Sts C J F H S ρ σ p X (ZG S1 i Z) (y.set i (Jr (.kw t))) (g.set i (Jr v)) :=
 #[s.ff,s.hh,s.dm,s.fn,λb #[j,u,z,w]=>by
  rcases uA z with⟨_,e,_⟩| ⟨n,z⟩
  cases e;rw[rA (qC n)]at w;exact s.uu b #[j,u,z,w],
 λj u h e x=>by
  rcases uA e with⟨_,e,_⟩| ⟨n,e⟩
  injection e with e;injection e with e;subst e;rw[k]at x;cases x;rw[rA (qC n),LD n];exact s.bo j u h e x,
 λj h=>by have n:i≠j:=λe=>a (e▸h);rw[LD n];exact s.sg j h]
theorem Rl.setD(I:Rl K F H S ρ σ)(i:Nat){v:V}{x:D}(r:Rep K F v x):Rl K F H (ZG S i λ_=>False) (ρ.set i (bD x)) (σ.set i (Jr v)) :=
 I.setB i (.d r λ_ z=>z) λ_ _ _ _ _ z=>z.elim
theorem Rl.setN(I:Rl K F H S ρ σ)(i:Nat){v:V}(r:Tr K F H Jt v t Z)(hz:∀(j:Nat) s,j≠i->ρ[j]?=Jr (Jr s)->∀b,Z b->¬ S j b):Rl K F H (ZG S i Z) (ρ.set i (Jr (.own t))) (σ.set i (Jr v)) where
 fh:=I.fh
 len:=by simpa using I.len
 sl:=λj s h=>by
  rcases uA h with⟨rfl,e,hl⟩| ⟨w,h⟩
  cases e;exact#[v,xU (by rw[<- I.len];exact hl),by rw[NA];exact r];rw[LD w,rA (qC w)];exact I.sl j s h
 dj:=λj k a s n u x b hb hk=>by
  rcases uA u with⟨e,_,_⟩| ⟨f,u⟩
  subst e;rw[NA]at hb;rcases uA x with⟨e,_,_⟩| ⟨z,x⟩
  exact n e;rw[rA (qC z)]at hk;exact hz k s (qC z) x b hb hk;rw[rA (qC f)]at hb;rcases uA x with⟨e,_,_⟩| ⟨z,x⟩
  subst e;rw[NA]at hk;exact hz j _ n u b hk hb;rw[rA (qC z)]at hk;exact I.dj j k a s n u x b hb hk
theorem Sts.setN(s:Sts C J F H S ρ σ p X S1 y g)(i:Nat)(w:i∉C)(v:V)(t:T)(a:∀b,Z b->H b=Js∨U ρ S b):Sts C J F H S ρ σ p X (ZG S1 i Z) (y.set i (Jr (.own t))) (g.set i (Jr v)) :=
 #[s.ff,s.hh,s.dm,s.fn,λb #[j,u,z,x]=>by
  rcases uA z with⟨rfl,_,_⟩| ⟨n,z⟩
  rw[NA]at x;exact(a b x).symm;rw[rA (qC n)]at x;exact s.uu b #[j,u,z,x],
 λj u h e k=>by
  rcases uA e with⟨_,e,_⟩| ⟨n,e⟩
  cases e;rw[rA (qC n),LD n];exact s.bo j u h e k,
 λj h=>by have n:i≠j:=λe=>w (e▸h);rw[LD n];exact s.sg j h]
theorem RL:∀(u:LN) (ds:List D) {ρ x:kA},oB u (ds.map T.d) ρ=Jr x->∀(j:Nat) t,x[j]?=Jr (Jr (.kw t))->t.isD=Ju->j∉u/\ρ[j]?=Jr (Jr (.kw t))
 |[],[],ρ,x,h,j,t,e,hd=>by simp only[we,oB,Qu]at h;subst h;exact#[(by simp),e]|[],_::_,_,_,h,_,_,_,_=>by simp[oB]at h|_::_,[],_,_,h,_,_,_,_=>by simp[oB]at h|i::u,d::ds,ρ,x,h,j,t,e,hd=>by
  simp only[QU,oB]at h;let#[w,v]:=RL u ds h j t e hd;rcases uA v with⟨_,q,_⟩| ⟨n,q⟩
  injection q with q;injection q with q;subst q;cases hd;exact#[λm=>(QK.mp m).elim (λz=>n z.symm) w,q]
theorem Rl.frz1(I:Rl K F H S ρ σ)(h:ρ[i]?=Jr (Jr (.own t))):Rl K (FH F H (S i)) H (ZG S i λ_=>False) (ρ.set i (bD t.er)) σ/\Sts C [] F H S ρ σ (FH F H (S i)) H (ZG S i λ_=>False) (ρ.set i (bD t.er)) σ:=by
 let#[v,hv,r]:=I.sl i _ h;have k:=kG (H:=H) λb (hb:S i b)=>(r.dom b hb).2;have O:Rl K F H S (ρ.set i Js) σ:=I.drop (by simp) λj s e=>by
  rcases uA e with⟨_,z,_⟩| ⟨_,e⟩
  cases z;exact e
 have l:Held F H S (ρ.set i Js) (S i):=#[r.dom,λj s e b hb z=>by
  rcases uA e with⟨_,q,_⟩| ⟨n,e⟩
  cases q;exact I.dj i j t s n h e b hb z]
 have N:=O.frz l;have f:Rep K (FH F H (S i)) v t.er:=Tr.kept k r λb u hb e=>by rw[DH hb];exact e
 have a:=N.setD i f;have W:(ρ.set i Js).set i (bD t.er)=ρ.set i (bD t.er):=by simp
 have o:σ.set i (Jr v)=σ:=by apply wV;intro j;rw[wx];split;rename_i e;subst e;split;exact hv.symm;rename_i n;rw[qL ()];rfl
 rw[W,o]at a;refine#[a,#[k,λb u e _=>e,λb e=>e,λb e z=>.inl ?_,λb #[j,u,x,w]=>.inl ?_,λj u _ e m=>?_,λ_ _=>rfl]];by_cases hb:S i b
 ·exact#[i,t,h,hb]
 rw[uC hb]at z;exact h7 e z;rcases uA x with⟨_,q,_⟩| ⟨n,x⟩
 ·cases q
 rw[rA (qC n)]at w;exact#[j,u,x,w];rcases uA e with⟨_,q,_⟩| ⟨n,e⟩
 ·injection q with q;injection q with q;subst q;cases m
 exact#[e,rA (qC n),rfl]
theorem FW{f:Option Sl->Option Sl}:ρ.modify i f=match ρ[i]? with|some o=>ρ.set i (f o)|none=>ρ:=by
 apply wV;intro j;rw[QA2];cases h:ρ[i]? with|none=>simp only;by_cases e:i=j;subst e;simp[h];simp[e]|some o=>simp only;rw[wx];by_cases e:i=j;subst e;let#[hl,rfl]:=Qd.mp h;simp[hl];simp[e]
theorem pP{α:Type}{l:List α}{o:α}(h:l[i]?=Jr o):l.set i o=l:=by apply wV;intro j;rw[wx];split;rename_i e;subst e;rw[hQ (Qd.mp h).1,h];rfl
theorem Rl.frzAt:∀(x:LN) {F:Hp}{S:Ft}{ρ:kA},Rl K F H S ρ σ->∃z S',Rl K z H S' (frzAt x ρ) σ/\Sts C [] F H S ρ σ z H S' (frzAt x ρ) σ
 |[],F,S,ρ,I=>#[F,S,I,.refl]|i::x,F,S,ρ,I=>by
  have one:∃p S1,Rl K p H S1 (ρ.modify i OS) σ/\Sts C [] F H S ρ σ p H S1 (ρ.modify i OS) σ:=by
   rw[FW];cases h:ρ[i]? with
   |none=>exact#[F,S,I,.refl]|some o =>
    cases o with
    |none=>have e:ρ.set i (OS Js)=ρ:=pP h;simp only[e];exact#[F,S,I,.refl]|some u =>
     cases u with|kw t=>have e:ρ.set i (OS (Jr (.kw t)))=ρ:=pP h;simp only[e];exact#[F,S,I,.refl]|own t=>exact#[_,_,I.frz1 h]
  let#[p,S1,a,w]:=one;let#[B,G,k,v]:=Rl.frzAt x a;exact#[B,G,k,w.trans v]
end
end
noncomputable def gI(C:LN):PT->Bool
 | .seq s r=>gI C s&&gI C r|.set i _=>!C.contains i|.own i _=>!C.contains i|.ife _ a b=>gI C a&&gI C b|.for_ x _ _ h=>x.ix.all (λi=>!C.contains i)&&gI C h|.nil=>Jt|.expr _=>Jt|.ret _=>Jt|.tset y _=>y.all λi=>!C.contains i|.six _ _ _=>Jt|.sdf _ _=>Jt|.whl _ h=>gI C h|.frz _ s=>gI C s
section
variable{K:QE}{Γ:Ev}{Ψ:PEv}{E:XE}{O:XK}{F H D B F2 N:Hp}{S S1 P:Ft}{ρ A M:kA}{σ G R:St}{C J:LN}
theorem Sts.bind{L:LN}(s:Sts C J F H S ρ σ D B S1 A G)(b:Bd L D B S1 A G F2 N P M R)(v:∀j∈L,j∈J)(w:∀j∈L,j∉C):Sts C J F H S ρ σ F2 N P M R :=
 #[s.ff.trans b.ff,λx u e n=>b.hh x u (s.hh x u e n),λx e=>s.dm x (b.dm x e),λx e z=>by
  by_cases q:D x=Js;exact .inr (s.dm x (b.fn x q z));exact s.fn x e q,λx u=>s.uu x (b.U u),λj t h e y=>by
  let#[l,i,g]:=b.out j λz=>h (v j z);rw[l]at e;let#[f,a,k]:=s.bo j t h e y;exact#[f,i.trans a,g.trans k],λj h=>(b.out j λz=>w j z h).2.2.trans (s.sg j h)]
theorem nV{g:Tg}{body:PEnds->kA->Prop}{tb:TS}{Z:PEnds}{o:Ends}{xs:List Item}{p:LT}{st:Hp->Prop}{Y:uB}
  (ib:∀{F H:Hp}{S:Ft}{ρ:kA}{σ:St}{Z:PEnds}{o:Ends},Rl K F H S ρ σ->rE K F H S ρ E O->body Z ρ->EndsOk K C F H S ρ σ Z o->tb o σ H)
  (I:Rl K F H S ρ σ) (X:rE K F H S ρ E O) (hC:∀j∈g.ix,j∉C) (pr:Kv (VX K F H Y) xs p) (hy:∀b,Y b->¬ U ρ S b/\H b≠Js/\F b=Js) (hst:∀f k,Same F f->Same f k->(∀b,Y b->k b=H b)->st k) (h:MG body g Z p ρ)
  (onx:∀f k S' z w,Sts C g.ix F H S ρ σ f k S' z w->Rl K f k S' z w->Z.nx z->o.nx w k)
  (ort:∀v t W f k S' z w,Stc C F H S ρ σ f k S' z w->Rl K f k S' z w->Tr K f k Jt v t W->Held f k S' z W->(∀b,W b->H b=Js∨U ρ S b)->Z.rt t z->o.rt v k):Jg K xs st g tb o σ H:=by
 intro J hJ;have len:=qt pr;have yk:∀{D B:Hp}{S1:Ft}{A:kA}{G:St},Sts C g.ix F H S ρ σ D B S1 A G->∀b,Y b->B b=H b/\D b=none:=λ{D B S1 A G} s b hb=>by
  let#[n,d1,d2]:=hy b hb;refine#[?_,?_];cases e:H b with|none=>exact h7 e d1|some u=>exact s.hh b u e n
  by_cases q:D b=Js
  ·exact q
  exact((s.fn b d2 q).elim n d1).elim
 refine#[λi m w k=>i<=xs.9/\m=xs.9 - i/\∃z f S',Sts C g.ix F H S ρ σ f k S' z w/\Rl K f k S' z w/\MG body g Z (p.drop i) z,#[_,Q5 _,rfl,ρ,F,S,.refl,I,by simpa using h],?_];rintro i m G B ⟨hi,rfl,A,D,S1,L,I1,h1⟩;have hs:=hst D B L.ff I1.fh λb hb=>(yk L b hb).1;rcases QCI i xs.9 with l|hge;refine .inr #[hJ.go i B hs l,λw k=>i+1<=xs.9/\∃z f S',Sts C g.ix F H S ρ σ f k S' z w/\Rl K f k S' z w/\MG body g Z (p.drop (i+1)) z,λw k #[a,b]=>#[_,(),a,rfl,b],λx N hyl=>?_];let#[it,hx,hm]:=hJ.yld i B x N hs l hyl;let#[y,hd,ry]:=Paired.get_of pr hx;rw[hd]at h1;unfold MG at h1;have key:L3.bindI K g it G B λR N=>tb { o with nx:=λw k=>i+1<=xs.9/\∃z f S',Sts C g.ix F H S ρ σ f k S' z w/\Rl K f k S' z w/\MG body g Z (p.drop (i+1)) z,ct:=λw k=>i+1<=xs.9/\∃z f S',Sts C g.ix F H S ρ σ f k S' z w/\Rl K f k S' z w/\MG body g Z (p.drop (i+1)) z,bk:=o.nx } R N:=by
  refine kL I1 (λb hb u=>?_) (ry.mono L.ff (yk L)) h1 λM R F2 H3 P bd I2 h2=>?_;rcases L.uu b u with q|q
  ·exact(hy b hb).1 q
  exact(hy b hb).2.1 q;have s2:=L.bind bd (λj hj=>hj) hC;exact ib I2 (X.fromS s2) h2 #[λf k S' z w Q I' q=>#[l,z,f,S',s2.trans Q,I',q],λv t W f k S' z w Q I' r hw fr q=>ort v t W f k S' z w (s2.c.trans Q) I' r hw (Mn s2 fr) q,
   λf k S' z w Q I' q=>onx f k S' z w (s2.trans Q) I' q,λf k S' z w Q I' q=>#[l,z,f,S',s2.trans Q,I',q]]
 exact vL hm key;have e:p.drop i=[]:=WA ();rw[e]at h1;exact .inl #[hJ.stop i B hs hge,onx D B S1 A G L I1 h1]
theorem iF:∀(J:LN) (ρ:kA) (i:Nat) s,(kill J ρ)[i]?=Jr (Jr s)->ρ[i]?=Jr (Jr s)/\(i∈J->∀t,s=.kw t->t.isD=Jt)
 |[],ρ,i,s,h=>#[h,λz=>by simp at z]|j::J,ρ,i,s,h=>by
  unfold kill at h;let#[x,w]:=iF J _ i s h;rw[QA2]at x;by_cases e:j=i;subst e;simp only[reduceIte]at x;cases q:ρ[j]? with
  |none=>rw[q]at x;cases x|some o =>
   rw[q]at x;have x:JF o=Jr s:=by simpa using x
   cases o with
   |none=>cases x|some v =>
    cases v with
    |own t=>cases x;exact#[rfl,λ_ u z=>by cases z]|kw t =>
     have x:(if t.isD=Jt then Jr (Sl.kw t) else Js)=Jr s:=x;cases y:t.isD with|true=>rw[y,hQ rfl]at x;cases x;exact#[rfl,λ_ u z=>by cases z;exact y]|false=>rw[y]at x;simp at x
  simp only[e,if_false]at x;refine#[by simpa using x,λm=>w ((QK.mp m).elim (λz=>h7 z.symm e) id)]
theorem BK:∀(J:LN) (ρ:kA),(kill J ρ).9=ρ.9
 |[],_=>rfl|j::J,ρ=>by unfold kill;rw[BK J];simp
theorem Sts.kill(s:Sts C J F H S ρ σ D B S1 A G):Sts C [] F H S ρ σ D B S1 (L3.kill J A) G :=
 #[s.ff,s.hh,s.dm,s.fn,λb #[i,t,y,x]=>s.uu b #[i,t,(iF J A i _ y).1,x],λj t _ e h=>by let#[y,x]:=iF J A j _ e;by_cases z:j∈J;rw[x z t rfl]at h;cases h;exact s.bo j t z y h,s.sg]
theorem fQ:∀(L:LN) (ρ:kA) (j:Nat),(lock L ρ)[j]?=if j∈L then ρ[j]?.map aF else ρ[j]?
 |[],ρ,j=>by simp[lock]|i::L,ρ,j=>by
  have x:∀o,aF (aF o)=aF o:=λo=>by
   match o with
   |none=>rfl|some (.own _)=>rfl|some (.kw _)=>rfl
  unfold lock;rw[fQ L,QA2];by_cases e:i=j;subst e;cases h:ρ[i]? with|none=>simp|some o=>simp[x]
  have y:¬ j=i:=λz=>e z.symm;simp[e,y]
theorem dQ:∀(L:LN) (ρ:kA),(lock L ρ).9=ρ.9
 |[],_=>rfl|i::L,ρ=>by unfold lock;rw[dQ L];simp
theorem DJ:∀(L:LN) (x ρ:kA) (j:Nat),(∀i∈L,i<ρ.9)->(KC L x ρ)[j]?=if j∈L then Jr (x[j]?.getD Js) else ρ[j]?
 |[],x,ρ,j,_=>by simp[KC]|i::L,x,ρ,j,h=>by unfold KC;rw[DJ L x _ j (λk hk=>by simpa using h k (QC _ hk)),wx];by_cases e:i=j;subst e;simp[h i QD];have y:¬ j=i:=λz=>e z.symm;simp[e,y]
theorem CJ:∀(L:LN) (h ρ:kA),(KC L h ρ).9=ρ.9
 |[],_,_=>rfl|i::L,h,ρ=>by unfold KC;rw[CJ L];simp
theorem CG{ρ:kA}:∀(x:LN),∀i∈zC ρ x,∃t,ρ[i]?=Jr (Jr (.own t))
 |[],i,h=>by simp[zC]at h|j::x,i,h=>by
  unfold zC at h;split at h
  ·rename_i ho
   rcases QK.mp h with e|e
   ·subst e
    unfold pK at ho;split at ho;rename_i t e;exact#[t,e]
    all_goals cases ho
   exact CG x i e
  exact CG x i h
theorem oK{ρ:kA}{i:Nat}{t:T}(h:ρ[i]?=Jr (Jr (.own t))):∀(x:LN),i∈x->i∈zC ρ x
 |[],hi=>by simp at hi|j::x,hi=>by
  unfold zC;rcases QK.mp hi with e|e;subst e;have:pK ρ[i]?=true:=by rw[h];rfl
  rw[hQ this];exact QD;have:=oK h x e;split;exact QC _ this;exact this
section
variable{L:LN}(y:∀i∈L,∃t,ρ[i]?=Jr (Jr (.own t)))
include y
theorem NI{i:Nat}{s:Sl}(h:(lock L ρ)[i]?=Jr (Jr s)):(i∈L/\∃t,ρ[i]?=Jr (Jr (.own t))/\s=.kw t)∨(i∉L/\ρ[i]?=Jr (Jr s)):=by rw[fQ]at h;by_cases x:i∈L;rw[hQ x]at h;let#[t,e]:=y i x;rw[e]at h;injection h with h;injection h with h;exact .inl #[x,t,e,h.symm];rw[hI x]at h;exact .inr #[x,h]
theorem ZE{b:jv}(h:U (lock L ρ) S b):U ρ S b:=by
 let#[i,t,x,z]:=h;rcases NI y x with⟨_,u,_,e⟩| ⟨_,x⟩
 cases e;exact#[i,t,x,z]
theorem Rl.lock(I:Rl K F H S ρ σ):Rl K F H S (L3.lock L ρ) σ where
 fh:=I.fh
 len:=by rw[dQ];exact I.len
 sl:=λi s e=>by
  rcases NI y e with⟨_,t,h,rfl⟩| ⟨_,h⟩
  let#[v,u,x]:=I.sl i _ h;exact#[v,u,x.weak];exact I.sl i s h
 dj:=λi j t s n k w=>by
  rcases NI y k with⟨_,_,_,z⟩| ⟨_,u⟩
  cases z;rcases NI y w with⟨_,a,x,_⟩| ⟨_,x⟩
  ·exact I.dj i j t _ n u x
  exact I.dj i j t s n u x
theorem Rl.lockU(I:Rl K F H S ρ σ){i:Nat}(x:i∈L){b:jv}(hb:S i b):¬ U (L3.lock L ρ) S b:=λ#[j,t,h,v]=>by
 let#[w,e]:=y i x;rcases NI y h with⟨_,_,_,z⟩| ⟨u,h⟩
 cases z;exact I.dj j i t _ (λz=>u (z▸x)) h e b v hb
theorem OV(I:Rl K F H S ρ σ)(s:Sts C [] F H S (lock L ρ) σ D B S1 A G)(W:Rl K D B S1 A G)(hl:∀i∈L,A[i]?=ρ[i]?.map aF) :
  ∃P,Rl K D B P (KC L ρ A) G/\Sts C [] F H S ρ σ D B P (KC L ρ A) G:=by
 classical
 have l1:∀i∈L,∃t,ρ[i]?=Jr (Jr (.own t))/\A[i]?=Jr (Jr (.kw t)):=λi h=>by let#[t,e]:=y i h;have:=hl i h;rw[e]at this;exact#[t,e,this]
 have hlt:∀i∈L,i<A.length:=λi h=>by let#[t,_,e]:=l1 i h;exact(Qd.mp e).1
 let P:Ft:=λi=>if i∈L then S i else S1 i
 have l:∀i∈L,P i=S i:=λi h=>hQ h;have g:∀i,i∉L->P i=S1 i:=λi h=>hI h;have get:∀i a,(KC L ρ A)[i]?=Jr (Jr a)->(i∈L/\∃t,ρ[i]?=Jr (Jr (.own t))/\A[i]?=Jr (Jr (.kw t))/\a=.own t)∨(i∉L/\A[i]?=Jr (Jr a)):=λi a e=>by rw[DJ L ρ A i hlt]at e;by_cases h:i∈L;rw[hQ h]at e;let#[t,f,Y]:=l1 i h;rw[f]at e;injection e with e;have e:Jr (Sl.own t)=Jr a:=e;injection e with e;exact .inl #[h,t,f,Y,e.symm];rw[hI h]at e;exact .inr #[h,e]
 have Q:∀i∈L,∀k a,k∉L->A[k]?=Jr (Jr a)->∀b,S i b->¬ S1 k b:=λi h k a hk e b hb z=>by
  let#[t,f,_]:=l1 i h;cases a with
  |own u=>rcases s.uu b ⟨k,u,e,z⟩ with q|q;exact I.lockU y h hb q;exact(I.dom f hb).1 q
  |kw u =>
   cases o:u.isD with
   |true=>exact W.isD e o z|false =>
    let#[m,p,_]:=s.bo k u (by simp) e o;rw[p]at z;rcases NI y m with⟨q,_⟩| ⟨_,m⟩
    exact hk q;exact I.dj i k t _ (λq=>hk (q▸h)) f m b hb z
 refine#[P,#[W.fh,by rw[CJ];exact W.len,λi a e=>?_,λi k t a n f Y b hb hk=>?_],#[s.ff,λb u e n=>s.hh b u e λz=>n (ZE y z),s.dm,λb e z=>(s.fn b e z).imp (ZE y) id,λb #[i,t,h1,h2]=>?_,λj t _ e o=>?_,s.sg]];rcases get i a e with⟨h,t,f,Y,rfl⟩| ⟨h,f⟩
 ·rw[l i h]
  let#[v,m,p]:=I.sl i _ f;cases o:t.isD with
  |true =>
   let#[v',g3,g4]:=W.sl i _ Y;refine#[v',g3,?_];have nb:∀b,¬ S i b:=λb=>I.isD f o;cases t with
   |d x =>
    have g4:Tr K D B Ju v' (.d x) (S1 i):=g4;cases g4 with|d r _=>exact .d r nb
   |_=>cases o
  |false =>
   let#[_,_,g5]:=s.bo i t (by simp) Y o;refine#[v,g5.trans m,?_];have p:Tr K F H Jt v t (S i):=p;refine p.mono s.ff λb hb=>?_;let#[d1,d2]:=p.dom b hb;have nu:=I.lockU y h hb;refine#[?_,?_];cases eb:H b with|none=>exact h7 eb d1|some u=>exact s.hh b u eb nu
   by_cases q:D b=Js
   ·exact q
   exact((s.fn b d2 q).elim nu d1).elim
 rw[g i h];exact W.sl i a f;rcases get i _ f with⟨h,t',X,a2,_⟩| ⟨h,X⟩
 ·rw[l i h]at hb
  rcases get k a Y with⟨w,t2,Z,b2,_⟩| ⟨w,Z⟩
  rw[l k w]at hk;exact I.dj i k t' _ n X Z b hb hk;rw[g k w]at hk;exact Q i h k a w Z b hb hk
 rw[g i h]at hb;rcases get k a Y with⟨w,t2,Z,b2,_⟩| ⟨w,Z⟩
 rw[l k w]at hk;exact Q k w i _ h X b hk hb;rw[g k w]at hk;exact W.dj i k t a n X Z b hb hk;rcases get i _ h1 with⟨h,t',X,a2,_⟩| ⟨h,X⟩
 ·rw[l i h]at h2
  exact .inl #[i,t',X,h2]
 rw[g i h]at h2;exact(s.uu b #[i,t,X,h2]).imp (ZE y) id;rcases get j _ e with⟨_,_,_,_,z⟩| ⟨hj,f⟩
 ·cases z
 let#[m,p,g3]:=s.bo j t (by simp) f o;rcases NI y m with⟨q,_⟩| ⟨_,m⟩
 exact h7 q hj;exact#[m,(g j hj).trans p,g3]
end
theorem XN{i:Nat}(h:(!C.contains i)=Jt):i∉C:=λz=>by have:C.contains i=true:=Qs.mpr z;rw[this]at h;cases h
theorem jQ{x:LN}(h:(x.all λi=>!C.contains i)=Jt):∀i∈x,i∉C:=λi y=>XN (qN.mp h i y)
theorem VV:∀{xs:List (T×Bool)},DO xs=Jt->∀t∈YL xs,t.isD=Jt
 |[],_,t,h=>by simp[YL]at h|p::r,h,t,y=>by
  simp only[DO,Qe]at h;simp only[YL,QK]at y;rcases y with rfl|y;let#[x,n]:=p;cases n with
  |true=>rfl|false =>
   have z:=h.1;cases x with|d x=>rfl|_=>cases z
  exact VV h.2 t y
theorem Tn.bare{Y:uB}{vs:LV}{ts:LT}(h:Tn K F H Y vs ts):(∀t∈ts,t.isD=Jt)->Tn K F H (λ_=>False) vs ts:=by
 induction h with
 |nil=>exact λ_=>.nil|@cons v t vs ts Z r z a w =>
  intro y;refine .cons (Z:=λ_=>False) ?_ (λ_ z=>z) (w λu k=>y u (QC _ k));have y:=y t QD;cases t with
  |d x=>cases r with|d q _=>exact .d q λ_ z=>z
  |_=>cases y
theorem FY{v:V}{t:T}{W:uB}{Z:PEnds}{h:Ends}(ok:EndsOk K C F H S ρ σ Z h)(s:Ste F H S ρ D B S1 A)(I:Rl K D B S1 A σ)(r:Tr K D B Jt v t W)(x:Held D B S1 A W)(y:∀b,W b->H b=Js∨U ρ S b)(q:Z.rt t A):h.rt v B :=
 ok.rt v t W D B S1 A σ (s.toStp.sts (J:=[])).c I r x y q
theorem c6(g:GOk K Γ Ψ):∀(e:PX) {F H:Hp}{S:Ft}{ρ:kA}{σ:St}{Z:PEnds}{k:Ends},Rl K F H S ρ σ->rE K F H S ρ E O->kJ Ψ E Z.rt e ρ->EndsOk K C F H S ρ σ Z k->(wp K Γ e O).e σ H k.rt:=by
  intro e F H S ρ σ Z k I X h ok;have f:∀e,(pe Ψ e E).e ρ (λx n A=>rG x n=Jt/\Z.rt x A)->(wp K Γ e O).e σ H k.rt:=λe h=>by refine(BA g e).e (Q:=λx n A=>rG x n=Jt/\Z.rt x A) I X h λv F' H' S' l x n Za s J r #[Y,q]=>?_;let#[W,m,o,fr]:=r.strict Y;exact FY ok s J m o fr q
  cases e with
  |xt i =>
   have y:Bm ρ i Z.rt ρ[i]?:=h;show(match σ[i]? with|some (Jr v)=>k.rt v _|_=>False)
   match a:ρ[i]?,y with
   |some (Jr (.own t)),y =>
    let#[v,w,r]:=I.sl i _ a;rw[w];have I0:Rl K F H S (ρ.set i Js) σ:=I.drop (by simp) λj s e=>by
     rcases uA e with⟨_,z,_⟩| ⟨_,e⟩
     cases z;exact e
    refine ok.rt v t (S i) F H S (ρ.set i Js) σ #[.refl _,λb u e _=>e,λb e=>e,λb e z=>h7 e z,λb #[j,u,w,L]=>.inl ?_,λ_ _=>rfl] I0 r #[r.dom,λj s e b hb z=>?_] (λb hb=>.inr #[i,t,a,hb]) y;rcases uA w with⟨_,z,_⟩| ⟨_,w⟩
    ·cases z
    exact#[j,u,w,L];rcases uA e with⟨_,q,_⟩| ⟨n,e⟩
    ·cases q
    exact I.dj i j t s n a e b hb z
   |some (Jr (.kw t)),y =>
    let#[v,w,r]:=I.sl i _ a;rw[w];let#[p,y]:=y;cases t with
    |d x =>
     have r:Tr K F H Ju v (.d x) (S i):=r;cases r with|d q n=>exact FY (W:=λ_=>False) ok .refl I (.d q λ_ z=>z) .none (λ_ z=>z.elim) y
    |_=>cases p
   |some Js,y=>exact y.elim|none,y=>exact y.elim
  |_=>exact f _ h
theorem pH(g:GOk K Γ Ψ):∀(p:PT) {F H:Hp}{S:Ft}{ρ:kA}{σ:St}{Z:PEnds}{Dn:Ends},gI C p=Jt->Rl K F H S ρ σ->rE K F H S ρ E O->pB Ψ E p Z ρ->EndsOk K C F H S ρ σ Z Dn->jP K Γ O p Dn σ H
 | .nil,_,_,_,_,_,_,_,c,I,X,h,ok=>ok.nx _ _ _ _ _ .refl I h|.seq s r,_,_,_,_,_,_,_,c,I,X,h,ok=>by let#[c1,c2]:=yA c;exact pH g s c1 I X h #[λF' H' S' L σ' s' J q=>pH g r c2 J (X.fromS s') q (ok.from s'),ok.rt,ok.bk,ok.ct]|.set i e,F,H,S,ρ,σ,Z,Dn,c,I,X,h,ok=>by have hi:=XN c;refine VD (RR:=λx B=>Dn.nx (σ.set i (Jr x)) B) (BA g e) I X h λv F' H' S' L x n Za s J X' r er _ #[he,q]=>?_;exact ok.nx _ _ _ _ _ (s.toStp.sts.setD i hi v rfl _) (J.setD i (er he)) q|.expr e,F,H,S,ρ,σ,Z,Dn,c,I,X,h,ok=>(BA g e).e I X h λv F' H' S' L x n Za s J r q=>ok.nx _ _ _ _ _ s.toStp.sts J q|.ret e,F,H,S,ρ,σ,Z,Dn,c,I,X,h,ok=>c6 g e I X h ok|.ife t a b,F,H,S,ρ,σ,Z,Dn,c,I,X,h,ok=>by
  let#[c1,c2]:=yA c;refine(BA g t).t I X h λk F' H' S' L s J q=>?_;cases k with|true=>exact pH g a c1 J (X.from s.toStp) q (ok.from s.toStp.sts)|false=>exact pH g b c2 J (X.from s.toStp) q (ok.from s.toStp.sts)
 | .for_ tg ik its body,F,H,S,ρ,σ,Z,Dn,c,I,X,h,ok=>by
  let#[c1,c2]:=yA c;have hC:=jQ c1;refine YT (RR:=λvs B=>rC K ik vs B λxs st N=>Jg K xs st tg (jP K Γ O body) Dn σ N) (BA g its) I X h λvs D B S1 A xs Y s1 I1 X1 tn tm q=>?_;rw[KJ _ rfl]at q;have ok1:=ok.from s1.toStp.sts;cases ha:DO xs with
  |true=>have tn':=tn.bare (VV ha);refine nI I1.fh tn' q λits ys st pr hst hc=>?_;rw[ha,hQ rfl]at hc;refine nV (λI X h ok=>pH g body c2 I X h ok) I1 X1 hC pr (λb z=>z.elim) hst hc ?_ ?_;exact λF' H' S' L σ' s' I' q=>ok1.nx _ _ _ _ _ s'.kill (I'.drop (BK _ _) λi sl e=>(iF _ _ i sl e).1) q;exact λv t W F' H' S' L σ' s' I' r hw fr q=>ok1.rt v t W F' H' S' L σ' s' I' r hw fr q|false =>
   refine nI I1.fh tn q λits' ys st pr hst hc=>?_;rw[ha,hI (by simp)]at hc;have hL:=CG (ρ:=A) (fG its);have IL:=I1.lock hL;have sL:Sts C [] D B S1 A σ D B (λ_ _=>False) [] σ:=#[.refl _,λb u e _=>e,λb e=>e,λb e z=>h7 e z,λb #[i,t,e,_]=>by simp at e,λj t _ e=>by simp at e,λ_ _=>rfl]
   have XL:rE K D B S1 (lock (zC A (fG its)) A) E O:=λx dx F2 N P M s2 f r q =>
    X1 x dx F2 N (λ_ _=>False) [] #[s2.ff,λb u e n=>s2.hh b u e λz=>n (ZE hL z),s2.dm,λb e z=>(s2.fn b e z).imp (ZE hL) id,λb #[i,t,e,_]=>by simp at e,λj t e=>by simp at e] f r q
   refine nV (λI X h ok=>pH g body c2 I X h ok) IL XL hC pr (λb hb=>?_) hst hc ?_ ?_;let#[i,sl,h1,h2,h3]:=tm b hb;refine#[λu=>?_,I1.dom h2 h3];cases sl with
   |own t=>exact I1.lockU hL (oK h2 _ h1) h3 u|kw t =>
    let#[j,t',e1,e2]:=u;rcases NI hL e1 with⟨_,_,_,z⟩| ⟨_,e1⟩
    cases z;exact I1.dj j i t' _ (λz=>by subst z;rw[h2]at e1;cases e1) e1 h2 b e2 h3
   intro F' H' S' L σ' s' I' #[q1,q2];have sk:=s'.kill;have Ik:=I'.drop (BK tg.ix L) λi sl e=>(iF _ _ i sl e).1;let#[P,I2,s2]:=OV hL I1 sk Ik λi hi=>(q1 i hi).2;exact ok1.nx _ _ _ _ _ s2 I2 q2;intro v t W F' H' S' L σ' s' I' r hw fr q;exact ok1.rt v t W F' H' S' L σ' #[s'.ff,λb u e n=>s'.hh b u e λz=>n (ZE hL z),s'.dm,λb e z=>(s'.fn b e z).imp (ZE hL) id,λb u=>(s'.uu b u).imp (ZE hL) id,s'.sg] I' r hw (λb hb=>(fr b hb).imp id (ZE hL)) q
 | .own i e,F,H,S,ρ,σ,Z,Dn,c,I,X,h,ok=>by refine(BA g e).e (Q:=λx n A=>rG x n=Jt/\Z.nx (A.set i (Jr (.own x)))) I X h λv F' H' S' L x n Za s J r #[he,q]=>?_;let#[W,r2,hw,fr]:=r.strict he;exact ok.nx _ _ _ _ _ (s.toStp.sts.setN i (XN c) v x fr) (J.setN i r2 λj sl _ e b hb=>hw.nw j sl e b hb) q|.tset is e,F,H,S,ρ,σ,Z,Dn,c,I,X,h,ok=>by
  have hc:=jQ c;refine VD (RR:=λx B=>dE K (.tp is) x σ B Dn.nx) (BA g e) I X h λv F' H' S' L x n Za s J X' r er _ #[he,q]=>?_;have q2:II (.tp is) (.d x.er) L λM=>Z.nx M/\∀(j:Nat) t,M[j]?=Jr (Jr (.kw t))->t.isD=Ju->j∉is:=by
   generalize x.er=d at q;cases d with
   |tuple ds=>let#[M,e,q]:=q;exact#[M,e,q,λj t h1 h2=>(RL is ds e j t h1 h2).1]|dict kvs =>
    have q:(match KB kvs with | .tp ts=>∃M,oB is ts L=Jr M/\Z.nx M|_=>False):=q;unfold KB at q;cases ek:RC kvs with|none=>rw[ek]at q;exact q.elim|some b=>rw[ek]at q;exact q.elim
   |_=>exact q.elim
  refine kL (Y:=λ_=>False) (it:=.one v) J (λb z=>z.elim) #[λ_=>False,.d (er he) λ_ z=>z,λ_ z=>z] q2 λM R F2 N P bd J2 qn=>?_;have st:=(s.toStp.sts (σ:=σ) (C:=C) (J:=is)).bind bd (λj hj=>hj) hc;exact ok.nx _ _ _ _ _ #[st.ff,st.hh,st.dm,st.fn,st.uu,λj t _ e hd=>st.bo j t (qn.2 j t e hd) e hd,st.sg] J2 qn.1
 | .six o i e,F,H,S,ρ,σ,Z,Dn,c,I,X,h,ok=>by
  have later:∀{j:Nat}{t:T}{v0:V},ρ[j]?=Jr (Jr (.own t))->Tr K F H Jt v0 t (S j)->∀{F' H':Hp}{S':Ft}{L:kA},Ste F H S (ρ.set j (Jr (.kw t))) F' H' S' L->Tr K F' H' Jt v0 t (S j)/\∀b,S j b->H' b=H b:=λ{j t v0} hj r0 {F' H' S' L} s=>#[s.toStp.keep r0 (I.lock1U hj),λb hb=>by
   cases e:H b with|none=>exact h7 e (r0.dom b hb).1|some u=>exact s.hh b u e (I.lock1U hj b hb)]
  cases o with
  |xt j =>
   have h:AC ρ[j]? _:=h;unfold AC at h;split at h;rename_i t hj;let#[v0,hv,r0]:=I.sl j _ hj;have r0:Tr K F H Jt v0 t (S j):=r0;show(wp K Γ e O).e σ H λv B=>(wp K Γ (.xt j) O).e σ B λov N=>(wp K Γ i O).e σ N λiv H3=>sP K ov iv v H3 λH4=>Dn.nx σ H4;refine VD (BA g e) (I.lock1 hj) (X.lock1 hj) h λxv D B S1 A x n Zx s1 I1 X1 _ er1 _ #[he,q1]=>?_;have rx:=er1 he;show(match σ[j]? with|some (Jr v)=>_|_=>False);rw[hv];refine VD (BA g i) I1 X1 q1 λiv F2 N P M y m Zy s2 I2 X2 _ er2 _ #[he2,hj2,q2]=>?_;have s12:=s1.trans s2;refine mY I2.fh (later hj r0 s12).1 (er2 he2) (rx.mono s2.ff) q2 λt' H3 S3 hh dm rt sub q=>?_;let#[st,I3,_]:=nH (W:=λ_=>False) I hj hv s12 I2 hh dm rt (λb hb=>.inl (sub b hb)) .none (λ_ z=>z.elim);exact ok.nx _ _ _ _ _ st.toStp.sts I3 q
   all_goals exact h.elim
  |idx a k =>
   cases a with
   |xt j =>
    have h:AC ρ[j]? _:=h;unfold AC at h;split at h;rename_i t hj;let#[v0,hv,r0]:=I.sl j _ hj;have r0:Tr K F H Jt v0 t (S j):=r0;show(wp K Γ e O).e σ H λv B=>(wp K Γ (.xt j) O).e σ B λov N=>(wp K Γ k O).e σ N λzv H3=>bW K ov zv H3 λow H4=>(wp K Γ i O).e σ H4 λiv H5=>sP K ow iv v H5 λH6=>Dn.nx σ H6;refine VD (BA g e) (I.lock1 hj) (X.lock1 hj) h λxv D B S1 A x n Zx s1 I1 X1 _ er1 _ #[he,q1]=>?_;have rx:=er1 he;show(match σ[j]? with|some (Jr v)=>_|_=>False);rw[hv];refine VD (BA g k) I1 X1 q1 λzv F2 N P M z l Zz s2 I2 X2 _ er2 _ #[hez,b,ks,ts,n,s,et,hk,hf,ht,q2]=>?_;have s12:=s1.trans s2;have rz:=er2 hez;subst et;let#[r2,k2]:=later hj r0 s12;obtain⟨a,o,vs,ea,ho,dk,hw⟩:∃a o vs,v0=.ref a/\N a=Jr o/\CI K F2 b o ks vs/\∃w,vs[n]?=Jr w/\S j a:=by
     cases r2 with|dct h1 dk h2 h3 h4 h5=>let#[w,_,g1,_]:=h3.get ht;exact#[_,_,_,rfl,h1,dk,w,g1,(h5 _).mpr (.inl rfl)]
    let#[w,hw,sa]:=hw;subst ea;have gd:=(dk.mono I2.fh).get ho (rz.mono I2.fh) hk;rw[hf]at gd;have gd:NO K N a zv (vs[n]?):=gd;rw[hw]at gd;have fin:(wp K Γ i O).e σ N λiv H5=>sP K w iv xv H5 λH6=>Dn.nx σ H6:=by
     refine VD (BA g i) I2 X2 q2 λiv F3 H3 S3 ρ3 y m Zy s3 I3 X3 _ er3 _ #[he3,hj3,q3]=>?_;have s13:=s12.trans s3;let#[r3,k3]:=later hj r0 s13;have ho3:H3 a=Jr o:=by rw[k3 a sa,<- k2 a sa];exact ho
     refine R5 I3.fh r3 ho3 dk hw ht (er3 he3) ((rx.mono s2.ff).mono s3.ff) q3 λt' H4 S4 hh dm rt sub q=>?_;let#[st,I4,_]:=nH (W:=λ_=>False) I hj hv s13 I3 hh dm rt (λb hb=>.inl (sub b hb)) .none (λ_ z=>z.elim);exact ok.nx _ _ _ _ _ st.toStp.sts I4 q
    cases zv with|str z=>exact#[w,gd,fin]|ref c=>exact#[w,gd,fin]|_=>exact gd.elim
    all_goals exact h.elim
   |_=>exact h.elim
  |_=>exact h.elim
 | .sdf j k,F,H,S,ρ,σ,Z,Dn,c,I,X,h,ok=>by
  have h:AC ρ[j]? _:=h;unfold AC at h;split at h;rename_i t hj;let#[v0,hv,r0]:=I.sl j _ hj;have r0:Tr K F H Jt v0 t (S j):=r0;let#[hd,h]:=h;show(match σ[j]? with|some (Jr v)=>UX K "dict" v H/\(wp K Γ k O).e σ H λx B=>∀p,B p=Js->lJ K v [x,.ref p] (XA B p (.dT 0 [])) λ_ N=>Dn.nx σ N|_=>False);rw[hv];constructor;cases r0 with
  |@dct _ b _ _ _ _ _ _ _ h1 dk _ _ _ _ =>
   cases b with|true=>let#[ep,kvs,rfl,_]:=dk;exact .inr (.inr (.inl #[rfl,.inr #[ep,kvs,h1]]))|false=>cases hd
  |_=>cases hd
  refine VD (BA g k) (I.lock1 hj) (X.lock1 hj) h λiv D B S1 A y m Zy s1 I1 X1 _ er _ #[he,hj1,q1]=>?_;intro p hp;have r1:=s1.toStp.keep r0 (I.lock1U hj);refine Mc I1.fh hp r1 (er he) q1 λt' H3 S3 hh dm rt sub q=>?_;let#[st,I3,_]:=nH (W:=λ_=>False) I hj hv s1 I1 hh dm rt (λb hb=>(sub b hb).imp id λ(z:b=p)=>.inr (by rw[z];exact hp)) .none (λ_ z=>z.elim);exact ok.nx _ _ _ _ _ st.toStp.sts I3 q
  all_goals exact h.elim
 | .whl t body,F,H,S,ρ,σ,Z,Dn,c,I,X,h,ok=>by
  let#[W,#[m0,w0],turn]:=h;refine#[λm σ' H'=>∃L F' S',Sts C [] F H S ρ σ F' H' S' L σ'/\Rl K F' H' S' L σ'/\W m L,#[m0,ρ,F,S,.refl,I,w0],?_];rintro m G B ⟨A,D,S1,s1,I1,w1⟩;refine(BA g t).t I1 (X.fromS s1) (turn m A w1) λk F' H' S' L s' J q=>?_;have s2:=s1.trans s'.toStp.sts;cases k with
  |false=>exact ok.nx _ _ _ _ _ s2 J q|true =>
   refine#[λσ' H'=>∃m',m' < m/\∃L F' S',Sts C [] F H S ρ σ F' H' S' L σ'/\Rl K F' H' S' L σ'/\W m' L,λ_ _ z=>z,?_];refine pH g body c J (X.fromS s2) q #[?_,?_,?_,?_];exact λF' H' S' L σ' s' I' #[m',hm,w]=>#[m',hm,L,F',S',s2.trans s',I',w]
   exact λv t W F' H' S' L σ' s' I' r hw fr q=>ok.rt v t W F' H' S' L σ' (s2.c.trans s') I' r hw (Mn s2 fr) q;exact λF' H' S' L σ' s' I' q=>ok.nx _ _ _ _ _ (s2.trans s') I' q;exact λF' H' S' L σ' s' I' #[m',hm,w]=>#[m',hm,L,F',S',s2.trans s',I',w]
 | .frz is s,F,H,S,ρ,σ,Z,Dn,c,I,X,h,ok=>by let#[F',S',I',s']:=I.frzAt (C:=C) is;exact pH g s c I' (X.fromS s') h (ok.from s')
end
section
variable{z:Ev}{n:Need}
noncomputable def El(x:Str)(n:String):Bool:=(x==("bool":Str)&&n == "bool")||(x==("int":Str)&&n == "int")||(x==("str":Str)&&n == "str")||(x==("list":Str)&&n == "list")||(x==("tuple":Str)&&n == "tuple")||(x==("ValueError":Str)&&n == "ValueError")
theorem Zc{x:Str}{n:String}(h:El x n=Jt):Ku x=Jr (.type n):=by simp only[El,wj,Qe,beq_iff_eq]at h;rcases h with((((⟨rfl,rfl⟩| ⟨rfl,rfl⟩)|⟨rfl,rfl⟩)|⟨rfl,rfl⟩)|⟨rfl,rfl⟩)|⟨rfl,rfl⟩<;>kernel_rfl
structure Need where
 fn:LS
 va:LS
 no:LS
noncomputable def Jn(n:Need):ItK->Bool
 | .val=>Jt|.rng1=>n.no.contains ("range":Str)|.enum=>n.no.contains ("enumerate":Str)|.itm=>Jt
def jB(n:Need):PX->Bool
 | .glo x=>n.va.contains x|.bty x t=>n.no.contains x&&El x t|.bin _ a b | .cmp _ a b | .and a b | .or a b | .idx a b | .nr a b | .dsp a b=>jB n a&&jB n b
 | .not a | .neg a | .lst a | .tup a=>jB n a
 | .slc a b c=>jB n a&&(jB n b&&jB n c)|.lset a=>n.no.contains "len" && (n.no.contains "set" && jB n a)|.sset a=>n.no.contains "sorted" && (n.no.contains "set" && jB n a)|.call f y=>n.fn.contains f&&jB n y|.bi f y=>n.no.contains f.nm&&jB n y|.isi a c=>n.no.contains ("isinstance":Str)&&(jB n a&&jB n c)|.mt _ o y=>jB n o&&jB n y|.comp _ _ _ w u h v=>Jn n w&&(jB n u&&(jB n h&&jB n v))|_=>Jt
def JE(n:Need):PT->Bool
 | .seq s r=>JE n s&&JE n r|.set _ e=>jB n e|.own _ e=>jB n e|.expr e=>jB n e|.ret e=>jB n e|.ife c a b=>jB n c&&(JE n a&&JE n b)|.for_ _ y x h=>Jn n y&&(jB n x&&JE n h)|.tset _ e=>jB n e|.six o i e=>jB n o&&(jB n i&&jB n e)|.sdf i k=>jB n (Lh i k)|.whl c b=>jB n c&&JE n b|.frz _ s=>JE n s|.nil=>Jt
noncomputable def kO(z:Ev)(n:Need):Glob:=#[z,λf=>f∈n.fn,λx=>x∈n.va,λx=>x∈n.no]
theorem V2{x:ItK}(h:Jn n x=Jt):Yj (kO z n) x:=by
 cases x with|val=>trivial|itm=>trivial|_=>exact Qs.mp h
theorem UC:∀(p:PX),jB n p=Jt->DA (kO z n) p:=by
 intro p;induction p with
 |glo x=>intro h;exact Qs.mp h|bty x t=>intro h;let#[v,u]:=yA h;exact#[Qs.mp v,Zc u]|bin _ a b y w|cmp _ a b y w|and a b y w|or a b y w|idx a b y w|nr a b y w|dsp a b y w=>intro h;let#[v,u]:=yA h;exact#[y v,w u]
 |not a y|neg a y|lst a y|tup a y=>intro h;exact y h
 |slc a b c y w i=>intro h;let#[v,e]:=yA h;let#[u,k]:=yA e;exact#[y v,w u,i k]|call f l y=>intro h;let#[v,u]:=yA h;exact#[Qs.mp v,y u]|lset a y=>intro h;let#[v,u]:=yA h;let#[k,g]:=yA u;exact#[Qs.mp v,Qs.mp k,y g]|sset a y=>intro h;let#[v,u]:=yA h;let#[k,g]:=yA u;exact#[Qs.mp v,Qs.mp k,y g]|bi f l y=>intro h;let#[v,u]:=yA h;exact#[Qs.mp v,y u]|isi a c y i=>intro h;let#[v,e]:=yA h;let#[u,k]:=yA e;exact#[Qs.mp v,y u,i k]|mt _ o l q y=>intro h;let#[v,u]:=yA h;exact#[q v,y u]|comp _ _ _ Z m j Y X s r=>intro h;let#[v,h]:=yA h;let#[u,h]:=yA h;let#[k,g]:=yA h;exact#[V2 v,X u,s k,r g]|_=>intro _;trivial
theorem ZW:∀(p:PT),JE n p=Jt->iE (kO z n) p:=by
 intro p;induction p with
 |seq s r f l=>intro h;let#[u,y]:=yA h;exact#[f u,l y]|set _ e|own _ e|expr e|ret e|tset _ e=>intro h;exact UC _ h
 |six o i e=>intro h;let#[u,x]:=yA h;let#[y,w]:=yA x;exact#[UC _ u,UC _ y,UC _ w]|sdf i k=>intro h;exact UC _ h|frz _ s f=>intro h;exact f h|whl c b v=>intro h;let#[u,y]:=yA h;exact#[UC _ u,v y]|ife c a b m v=>intro h;let#[u,x]:=yA h;let#[y,w]:=yA x;exact#[UC _ u,m y,v w]|for_ _ q j g v=>intro h;let#[u,x]:=yA h;let#[y,w]:=yA x;exact#[V2 u,UC _ y,v w]|_=>intro _;trivial
noncomputable def MK(N h:LS)(sc:kl):Bool:=sc.kind==.function&&!sc.isCoroutine&&!sc.isGenerator&&fI N&&N.take h.9==h &&
 h.all (λx=>sc.names.lookup x==Jr .local||sc.names.lookup x==Jr .cell)&&sc.names.all λy=>y.2 != .free
theorem RI{N x:LS}{sc:kl}(h:MK N x sc=Jt):FnScope N x sc:=by simp only[MK,Qe,qN,wj,beq_iff_eq,Q4,bne_iff_ne,ne_eq]at h;let#[#[#[#[#[#[b,a],k],w],v],u],y]:=h;exact#[b,a,k,zE w,v,u,y]
def jC(n:Need)(b:PT)(N h:LS)(st:kf):Bool:=MK N h (GA st)&&nO b #[N,GA st] (bC st)&&JE n b
def Nd:Md->T->Sl
 | .chg,t=>.own t|_,t=>.kw t
noncomputable def MD:List Md->LT->kA
 |_,[]=>[]|md,t::ts=>Jr (Nd (md.headD .ky) t)::MD md.tail ts
def OA(N:LS)(md:List Md)(ts:LT):kA:=MD md ts++Q9 (N.9 - ts.9) Js
noncomputable def DB:Nat->List Md->Nat->LN
 |_,_,0=>[]|k,md,n+1=>match md.headD .ky with
  | .chg=>k::DB (k+1) md.tail n|_=>DB (k+1) md.tail n
def pZ:Option (LT)->(LT->Prop)->Prop
 |some os,Q=>Q os|none,_=>False
def FC(P:PSp)(n:Nat)(Q:T->LT->Prop):PEnds where
 nx:=λh=>pZ (SA (DB 0 P.md n) h) (Q (.d .none))
 rt:=λt h=>pZ (SA (DB 0 P.md n) h) (Q t)
abbrev Ep(Ψ:PEv)(b:PT)(p:PSp)(N h:LS)(ds:LT)(Q:T->LT->Prop):Prop:=ds.9=h.9/\pF Ψ b (FC p h.9 Q) (OA N p.md ds)
abbrev EO(Ψ:PEv)(b:PT)(p:PSp)(N x:LS):Prop:=∀(h:LT) (Q:T->LT->Prop) (E:XE),p.run h Q E->h.9=x.9/\pF Ψ b (FC p x.9 Q) (OA N p.md h)
def ZR(h:Str->Option Jw)(x:Str):V:=((h x).bind cJ).getD .non
def Bj(K:QE)(h:Str->Option Jw)(Ψ:PEv):Ev:=#[λf=>lift K (Ψ.sp f),ZR h]
structure ValsOk(P:jt)(w:jw)(K:QE)(mg:Str->Option Jw)(Ψ:PEv)(va:LS):Prop where
 rep:∀x d,Ψ.va x=Jr d->∀F,Rep K F (ZR mg x) d
 has:∀x∈va,∃u v,mg x=Jr u/\cJ u=Jr v
theorem nU{u:Jw}{v:V}(h:cJ u=Jr v):nA v u:=by cases u<;>first | (obtain rfl:=Q1 h;first|rfl|exact#[_,rfl])|exact nomatch (show(none:Option V)=Jr v from h)
end
section
variable{P:jt}{w:jw}{K:QE}{mg:Str->Option Jw}{base:j0}{Ψ:PEv}
section
variable{k:Nat}{F H:Hp}{Y M:uB}{md:List Md}{vs:LV}{ts:LT}{N l:LS}{R:PSp}{x o:Str}{st:kf}{f:jv}{p:Kw}{b:PT}{n:Need}
def NC(P:jt)(w:jw)(K:QE)(mg:Str->Option Jw)(base:j0)(Ψ:PEv)(k:Nat)(f:Str):Prop :=
 ∃(a:jv) (p:Kw) (l:LS),FnOk P w K mg base MX k a p l (lift K (Ψ.sp f))/\mg f=Jr (.ref a)/\Wm K (.ref a)=Jt/\JG K p l []
theorem NC.mono{j:Nat}{f:Str}(h:NC P w K mg base Ψ j f)(hk:j<=k):NC P w K mg base Ψ k f:=by let#[a,p,l,z,y]:=h;exact#[a,p,l,z.mono hk,y]
theorem ArgsR.length(h:ArgsR K F H Y md vs ts):vs.9=ts.length:=by
 induction h with|nil=>rfl|chg _ _ e=>exact Fz Nat.succ e|rd _ _ _ _ e=>exact Fz Nat.succ e
theorem tH:∀(m:List Md) (ts:LT),(MD m ts).9=ts.9
 |_,[]=>rfl|m,d::ds=>by unfold MD;rw[QL,QL,tH]
theorem mZ{m:Md}(h:m≠.chg)(t:T):Nd m t=.kw t:=by cases m<;>first|rfl|exact h7 rfl h
theorem FG(md:List Md)(v:V)(vs:LV):lB md (v::vs)=match md.headD .ky with | .chg=>v::lB md.tail vs|_=>lB md.tail vs:=by first | (rw[lB];done) | (rw[lB];cases md.headD .ky<;>rfl)
theorem iK(md:List Md)(v:T)(vs:LT):UB md (v::vs)=match md.headD .ky with | .chg=>v::UB md.tail vs|_=>UB md.tail vs:=by first | (rw[UB];done) | (rw[UB];cases md.headD .ky<;>rfl)
theorem kM(md:List Md)(t:T)(ts:LT):MD md (t::ts)=Jr (Nd (md.headD .ky) t)::MD md.tail ts:=by rw[MD]
theorem j9(h:ArgsR K F H Y md vs ts)(r:Trs K F H Jt (lB md vs) (UB md ts) M) :
  ∃Z:Ft,(∀(i:Nat) s,(MD md ts)[i]?=Jr (Jr s)->∃v,vs[i]?=Jr v/\Tr K F H s.st v s.t (Z i))/\(∀(i:Nat) t,(MD md ts)[i]?=Jr (Jr (.own t))->∀b,Z i b->M b)/\(∀(i:Nat) t,(MD md ts)[i]?=Jr (Jr (.kw t))->∀b,Z i b->Y b) /\
   ∀(i j:Nat) t u,i≠j->(MD md ts)[i]?=Jr (Jr (.own t))->(MD md ts)[j]?=Jr (Jr (.own u))->∀b,Z i b->¬ Z j b:=by
 induction h generalizing M with
 |nil=>exact#[λ_ _=>False,λi s e=>by simp[MD]at e,λi t e=>by simp[MD]at e,λi t e=>by simp[MD]at e,λi j t u _ e=>by simp[MD]at e]|@chg md v vs t ts hm L W =>
  have I:lB md (v::vs)=v::lB md.tail vs:=by rw[FG,hm]
  have G:UB md (t::ts)=t::UB md.tail ts:=by rw[iK,hm]
  rw[I,G]at r;cases r with
  |@cons _ _ _ _ _ _ J S X O n q =>
   let#[Z,C,a,B,A]:=W O;have E:MD md (t::ts)=Jr (.own t)::MD md.tail ts:=by rw[kM,hm];rfl
   rw[E];refine#[λi=>match i with|0=>J|i+1=>Z i,λi s e=>?_,λi u e b hb=>?_,λi u e b hb=>?_,λi j u w m e g b hb y=>?_];cases i with|zero=>simp at e;subst e;exact#[v,rfl,X]|succ i=>exact C i s (by simpa using e)
   cases i with|zero=>exact(q b).mpr (.inl hb)|succ i=>exact(q b).mpr (.inr (a i u (by simpa using e) b hb))
   cases i with|zero=>simp at e|succ i=>exact B i u (by simpa using e) b hb
   cases i with
   |zero =>
    cases j with|zero=>exact m rfl|succ j=>exact n b hb (a j w (by simpa using g) b y)
   |succ i =>
    cases j with|zero=>exact n b y (a i u (by simpa using e) b hb)|succ j=>exact A i j u w (λz=>m (by rw[z])) (by simpa using e) (by simpa using g) b hb y
 |@rd md v vs t ts J hm X Q L W =>
  have I:lB md (v::vs)=lB md.tail vs:=by rw[FG];cases e:md.headD .ky<;>first|exact h7 e hm|rfl
  have G:UB md (t::ts)=UB md.tail ts:=by rw[iK];cases e:md.headD .ky<;>first|exact h7 e hm|rfl
  rw[I,G]at r;let#[Z,C,a,B,A]:=W r;have E:MD md (t::ts)=Jr (.kw t)::MD md.tail ts:=by rw[kM,mZ hm]
  rw[E];refine#[λi=>match i with|0=>J|i+1=>Z i,λi s e=>?_,λi u e b hb=>?_,λi u e b hb=>?_,λi j u w m e g b hb y=>?_];cases i with|zero=>simp at e;subst e;exact#[v,rfl,X]|succ i=>exact C i s (by simpa using e)
  cases i with|zero=>simp at e|succ i=>exact a i u (by simpa using e) b hb
  cases i with|zero=>exact Q b hb|succ i=>exact B i u (by simpa using e) b hb
  cases i with
  |zero=>simp at e|succ i =>
   cases j with|zero=>simp at g|succ j=>exact A i j u w (λz=>m (by rw[z])) (by simpa using e) (by simpa using g) b hb y
theorem gY(f:Same F H)(h:ArgsR K F H Y md vs ts)(hm:Trs K F H Jt (lB md vs) (UB md ts) M)(B:∀b,Y b->¬ M b) :
  ∃S,Rl K F H S (OA N md ts) (iD N vs)/\∀b,U (OA N md ts) S b->M b:=by
 let#[Z,W,a,X,r]:=j9 h hm;have hl:=h.9;have get:∀(i:Nat) s,(OA N md ts)[i]?=Jr (Jr s)->(MD md ts)[i]?=Jr (Jr s):=λi s e=>by
  unfold OA at e;rcases QCI i ts.9 with z|z
  ·rwa [qK (by rw[tH];exact z)]at e
  rw[Q0 (by rw[tH];exact z),Wd]at e;split at e<;>cases e
 refine#[Z,#[f,?_,λi s e=>?_,λi j t s n q m b hb y=>?_],λb #[i,t,e,hb]=>a i t (get i _ e) b hb];unfold OA iD;rw[QM,QM,tH,QF,wD,wD,hl];let#[v,g,A]:=W i s (get i s e);refine#[v,?_,A];unfold iD;rw[qK (by rw[QF];exact(Qd.mp g).1),Qi,g];rfl;cases s with|own u=>exact r i j t u n (get i _ q) (get j _ m) b hb y|kw u=>exact B b (X j u (get j _ m) b y) (a i t (get i _ q) b hb)
theorem JM:∀{md:List Md}{k n:Nat}{vs:LV}{σ:St},vs.9=n->(∀(i:Nat) v,vs[i]?=Jr v->σ[k+i]?=Jr (Jr v))->(lB md vs).map (λv=>Jr (Jr v))=(DB k md n).map λj=>σ[j]?
 |md,k,0,vs,σ,h,g=>by
  cases vs with|nil=>rfl|cons _ _=>cases h
 |md,k,n+1,vs,σ,h,g=>by
  cases vs with
  |nil=>cases h|cons v vs =>
   have y:=JM (md:=md.tail) (k:=k+1) (n:=n) (vs:=vs) (σ:=σ) (by simpa using h) λi w z=>by have:=g (i+1) w (by simpa using z);rw[show k+1+i=k+(i+1) by omega];exact this
   have u:=g 0 v rfl;rw[FG];unfold DB;cases e:md.headD .ky with|chg=>simp only[QU,y];rw[show σ[k]?=Jr (Jr v) from u]|_=>exact y
theorem jL:∀{md:List Md}{k n j:Nat},j∈DB k md n->k<=j
 |md,k,0,j,h=>by simp[DB]at h|md,k,n+1,j,h=>by
  unfold DB at h;cases e:md.headD .ky with
  |chg=>rw[e]at h;rcases QK.mp h with z|z;omega;have:=jL z;omega
  |_=>rw[e]at h;have:=jL h;omega
theorem OQ:∀(md:List Md) (k n:Nat),(DB k md n).Nodup
 |md,k,0=>Qo|md,k,n+1=>by
  have h:=OQ md.tail (k+1) n;unfold DB;cases e:md.headD .ky with|chg=>exact Qa.mpr #[λz=>by have:=jL z;omega,h]|_=>exact h
theorem A2(F:Fun K x o st f p)(JB:jC n b N l st=Jt)(hc:gI (DB 0 R.md l.9) b=Jt)
  (fns:∀g∈n.fn,NC P w K mg base Ψ k g) (G:ValsOk P w K mg Ψ n.va) (nos:∀y∈n.no,mg y=Js)
  (body:∀ts Q E,R.run ts Q E->ts.9=l.9/\pF Ψ b (FC R l.9 Q) (OA N R.md ts)):FnOk P w K mg base MX (k+1) f p l (lift K R):=by
 let#[c12,c3]:=yA JB;let#[c1,c2]:=yA c12;have S:=RI c1;refine F.ok S (λvs H Q E h=>?_) (λcdv A L s H vs Q E hr h=>?_);let#[F',ts,M,Y,h1,h2,h3,h4,h5]:=h;rw[h2.9];exact(body ts _ _ h5).1;let#[F',ts,M,Y,h1,h2,h3,h4,h5]:=h;have q:=(body ts _ _ h5).2;have hlen:=(body ts _ _ h5).1;have ok:OkS ((zT MX P w K mg base N o (GA st) f cdv A L s H E).nox) #[N,GA st] (kO (Bj K mg Ψ) n) E0:={
  N:=rfl
  sc:=rfl
  calm:=rfl
  un:=by have:=hr.un;show(A.deeper _).units+66<kx;omega
  fn:=λg hg=>by let#[a,gd,gps,g1,g2,g3,g4]:=fns g hg;exact#[MX,k,a,gd,gps,g1,hr,g2,g3,g4,Ui,λ_ _ _ _ _ z=>z]
  val:=λy hy=>by let#[u,v,e1,e2]:=G.has y hy;refine#[u,e1,?_];show nA (ZR mg y) u;unfold ZR;rw[e1];show nA ((cJ u).getD .non) u;rw[e2];exact nU e2
  no:=λy hy=>nos y hy
  po:=PassesOwn.never
  nd:=S.nd
  cel:=λ_=>rfl }
 refine#[_,(im b ok c2 (ZW b c3)).1,?_];let#[S0,I,hU]:=gY (N:=N) h1 h2 h3 h4;have g:GOk K (Bj K mg Ψ) Ψ:=#[λ_ _ _ _ _ h=>h,λy d e F=>G.rep y d e F]
 have hvl:vs.9=l.length:=h2.length.trans hlen;have fin:∀v t W C B J m X,Stc (DB 0 R.md l.9) F' H S0 (OA N R.md ts) (iD N vs) C B J m X->Rl K C B J m X->Tr K C B Jt v t W->Held C B J m W->(∀b,W b->H b=Js∨U (OA N R.md ts) S0 b) ->
   pZ (SA (DB 0 R.md l.9) m) (λos=>∀v F3 H3 Z M',Frm M F' H F3 H3->Tr K F3 H3 Jt v t Z->Trs K F3 H3 Jt (lB R.md vs) os M'->(∀b,Z b->¬ M' b)->(∀b,Z b∨M' b->M b∨H b=Js)->Q v H3)->Q v B:=by
  intro v t W C B J m X s I2 r hw fr q;cases eo:SA (DB 0 R.md l.9) m with
  |none=>rw[eo]at q;exact q.elim|some os =>
   rw[eo]at q;have hv:(lB R.md vs).map (λv=>Jr (Jr v))=(DB 0 R.md l.9).map λj=>X[j]?:=by rw[JM (md:=R.md) (k:=0) (n:=l.9) (vs:=vs) (σ:=iD N vs) hvl λi w hw=>?_];exact qV λj O=>(s.sg j O).symm;unfold iD;rw[Wt,qK (by rw[QF];exact(Qd.mp hw).1),Qi,hw];rfl
   have trs:=I2.trs (OQ _ _ _) eo hv;have own:∀j∈DB 0 R.md l.9,∃t,m[j]?=Jr (Jr (.own t)):=λj O=>by let#[i,hi]:=WI.mp O;let#[t,_,e]:=(ZD eo).2 i j hi;exact#[t,e]
   have lk:∀b,U (OA N R.md ts) S0 b∨H b=Js->M b∨H b=none:=λb hb=>hb.imp (hU b) id;refine q v C B W _ #[s.ff,I2.fh,λb u e n=>s.hh b u e λz=>n (hU b z),s.dm,λb e z=>lk b (s.fn b e z)] r trs (λb hb #[j,O,z]=>?_) λb hb=>?_;let#[t',e]:=own j O;exact hw.nw j _ e b hb z;rcases hb with hb|⟨j,O,z⟩
   ·exact lk b (fr b hb).symm
   let#[t',e]:=own j O;exact lk b (s.uu b #[j,t',e,z])
 refine pH g b hc I (λ_ _ _ _ _ _ _ _ _ z=>z.elim) q #[?_,?_,λ_ _ _ _ _ _ _ z=>z.elim,λ_ _ _ _ _ _ _ z=>z.elim];intro C B J m X s I2 q;exact fin .non (.d .none) (λ_=>False) C B J m X s.c I2 (.d .non λ_ z=>z) .none (λ_ z=>z.elim) q;intro v t W C B J m X s I2 r hw fr q;exact fin v t W C B J m X s I2 r hw fr q
theorem C2{h:PEv}(F:Fun K x o st f p)(hm:mg x=Jr (.ref f))(hb:JG K p l [])(JB:jC n b N l st=Jt)(hc:gI (DB 0 R.md l.9) b=Jt)
  (v:∀g∈n.fn,NC P w K mg base Ψ k g) (z:ValsOk P w K mg Ψ n.va) (u:∀y∈n.no,mg y=Js)
  (body:∀ts Q E,R.run ts Q E->ts.9=l.9/\pF Ψ b (FC R l.9 Q) (OA N R.md ts)) (a:h.sp x=R):NC P w K mg base h (k+1) x :=
 #[f,p,l,by rw[a];exact A2 F JB hc v z u body,hm,F.kp,hb]
theorem g8(F:Fun K x o st f p)(hm:mg x=Jr (.ref f))(hb:JG K p l [])(JB:jC n b N l st=Jt)(u:∀ts Q E,¬ (Ψ.sp x).run ts Q E):NC P w K mg base Ψ (k+1) x:=by refine#[f,p,l,F.ok (RI (yA (yA JB).1).1) (λvs H Q E h=>?_) (λi A y s H vs Q E m h=>?_),hm,F.kp,hb];let#[j,ts,M,Y,g,e,a,v,z]:=h;exact(u _ _ _ z).elim;let#[j,ts,M,Y,g,e,a,v,z]:=h;exact(u _ _ _ z).elim
end
end
noncomputable def FP:PSp where
 md:=[.kz]
 run:=λx Q _=>∃h:LJ,h.9<=63/\(∀n∈h,QBJ n<=1048576)/\x=[.lst ((h.map Jy).map T.d)]/\Q (.d (.bool Jt)) []
def oZ:PSp:=#[[],λ_ _ _=>False,λ_ _ h=>h]
theorem TL{K:QE}{F:Hp}:∀(ns:LJ),Reps K F (ns.map V.int) (ns.map Jy)
 |[]=>.nil|n::r=>.cons (.int n) (TL r)
theorem EJ{K:QE}{F:Hp}:∀(ns:LS),Reps K F (ns.map V.str) (ns.map Jx)
 |[]=>.nil|n::r=>.cons (.str n) (EJ r)
theorem De(K:QE)(H:Hp)(a:jv)(ns:LJ)(hl:ns.9<=63)(h:∀n∈ns,QBJ n<=1048576)(x:gC K H a (ns.map V.int)):lift K FP [.ref a] H (λv _=>v=.bl Jt) λ_ _ _=>False:=by
 refine#[H,[.lst ((ns.map Jy).map T.d)],λ_=>False,λ_=>False,.refl _,.rd (Z:=λ_=>False) (by simp[FP]) (.lstF x (TL ns) λ_ z=>z) (λ_ z=>z) .nil,.nil λ_ z=>z,λ_ z=>z.elim,ns,hl,h,rfl,λv w u Z y _ r _ _ _=>?_];cases r with|d r _=>cases r;rfl
theorem JR{ns:LJ}:∀n∈ns,QA3 (.int n)<=Wf (ns.map QBA.int):=by
 induction ns with|nil=>intro n h;cases h|cons m ns x=>intro n h;show _<=QA3 (.int m)+1+Wf (ns.map QBA.int);rcases QK.mp h with rfl|h;omega;have:=x n h;omega
theorem A8{ns:LJ}(h:QBA.layableAll [.list (ns.map .int)]=Jt):∀n∈ns,QBJ n<=1048576:=by
 intro n z;have v:=(PySem.W.layableW_iff.mp (PySem.W.layableW_arg h _ QD)).2.2;have k:Wf (ns.map QBA.int)<=2 ^ 20:=v;have y:=JR n z;have u:QA3 (.int n)=if n==0 then 0 else n.natAbs.log2+1:=rfl
 rw[PySem.intBits_le_iff];by_cases x:n=0;subst x;exact Nat.pow_pos (by decide);have:(n==0)=false:=by simpa using x
 rw[u,this]at y;have w:n.natAbs.log2+1<=1048576:=by have:n.natAbs.log2+1<=Wf (ns.map QBA.int):=y;omega
 exact(Nat.log2_lt (show n.natAbs≠0 by omega)).mp ()
def lR(K:QE)(x:Str)(st:kf):Prop:=∃f h,WJ K ju x=Jr (Jr (.ref f))/\Fun K x x st f h
def lL(K:QE)(x:Str)(d:D):Prop:=∃u v,WJ K ju x=Jr (Jr u)/\cJ u=Jr v/\∀F,Rep K F v d
theorem yY{K:QE}{x:Str}{f:jv}{xs:LS}{w:Option jv}{its:LW}{n:Nat}{v:Array (Option Jw)}(a:WJ K ju x=Jr (Jr (.ref f)))
  (l:K.lookup f=Jr #[.type "tuple",w,.seq its.toArray n,v]) (h:its.map cJ=xs.map λy=>Jr (.str y)) (hz:xs.9<=jz):lL K x (.tuple (xs.map Jx)):=by
 refine#[_,_,a,rfl,λF=>.tup (.inr #[_,its.toArray,n,l,rfl,rfl,?_,?_]) (EJ xs)];have:=Fz wR h;simp at this;simp;omega;have z:∀(its:LW) (xs:LS),its.map cJ=xs.map (λy=>Jr (.str y))->bA (xs.map V.str) its:=by
  intro its;induction its with
  |nil =>
   intro xs h;cases xs with|nil=>exact .nil|cons _ _=>simp at h
  |cons u its k =>
   intro xs h;cases xs with|nil=>simp at h|cons y xs=>simp only[QU,QAb]at h;exact .cons (nU h.1) (k xs h.2)
 simpa using z its xs h
section
variable{P:jt}{w:jw}{K:QE}{mg:Str->Option Jw}{base h:j0}{Ψ:PEv}
section
variable{x:Str}{c:PEv}{st:kf}{z:LS}{k:Nat}{n:Need}
theorem lL.inMg(X:K.In h)(G:h.Ns ju mg){d:D}(v:lL K x d):(∀F,Rep K F (ZR mg x) d)/\∃u v,mg x=Jr u/\cJ u=Jr v:=by
 let#[u,v,b,y,a]:=v;have e:=QB0 X G b;refine#[λF=>?_,u,v,e,y];have:ZR mg x=v:=by unfold ZR;rw[e];show(cJ u).getD .non=v;rw[y];rfl
 rw[this];exact a F
theorem D2{R:PSp}{N:LS}{b:PT}(X:K.In h)(G:h.Ns ju mg)(D:lR K x st)(JB:jC n b N z st=Jt)(hc:gI (DB 0 R.md z.9) b=Jt)
  (hb:∀(kV i l:Jw) (p:Option jv) (j ct:Jw) (us:LW),us.9=z.9->xx (wr x x (IC st) (bC st) (GA st) .none kV i l p j ct) #[us,[]]=hT (z.zip us))
  (e:∀g∈n.fn,NC P w K mg base Ψ k g) (u:ValsOk P w K mg Ψ n.va) (v:∀y∈n.no,WJ K ju y=Jr Js)
  (body:∀ts Q E,R.run ts Q E->ts.9=z.9/\pF Ψ b (FC R z.9 Q) (OA N R.md ts)) (o:c.sp x=R):NC P w K mg base c (k+1) x:=by
 let#[f,q,a,F]:=D;exact C2 F (QB0 X G a) (F.binds hb) JB hc e u (λy m=>QDD X G (v y m)) body o
theorem zX{N:LS}{b:PT}(X:K.In h)(G:h.Ns ju mg)(D:lR K x st)(JB:jC n b N z st=Jt)
  (hb:∀(kV y v:Jw) (g:Option jv) (u ct:Jw) (us:LW),us.9=z.9->xx (wr x x (IC st) (bC st) (GA st) .none kV y v g u ct) #[us,[]]=hT (z.zip us))
  (e:∀ts Q E,¬ (Ψ.sp x).run ts Q E):NC P w K mg base Ψ (k+1) x:=by
 let#[f,i,a,F]:=D;exact g8 F (QB0 X G a) (F.binds hb) JB e
theorem NC.to(h:NC P w K mg base Ψ k x)(e:c.sp x=Ψ.sp x):NC P w K mg base c k x:=by let#[f,v,z,u,y]:=h;exact#[f,v,z,by rw[e];exact u,y]
theorem Fe{j:jv}(X:K.In h)(G:h.Ns ju mg)(D:lR K "law" st)(q:z=[x])(g:mg "law"=Jr (.ref j))(hs:Ψ.sp "law"=FP)
  (hb:∀(kV v i:Jw) (l:Option jv) (b ct:Jw) (us:LW),us.9=z.9->xx (wr "law" "law" (IC st) (bC st) (GA st) .none kV v i l b ct) #[us,[]]=hT (z.zip us))
  (H:∀base:j0,K.In base->base.Ns ju mg->∀f y,Fun K "law" "law" st f y->mg "law"=Jr (.ref f)->FnOk P w K mg base MX k f y z (lift K (Ψ.sp "law"))) :
  ∃y:Kw,(∀(s:jx) (u:Jw),Yz s y #[[u],[]] [(x,u)])/\∀base:j0,K.In base->base.Ns ju mg->FnOk P w K mg base MX k j y [x] (lift K FP):=by
 let#[f,y,a,F]:=D;have e:=g.symm.trans (QB0 X G a);cases e;subst q;refine#[y,λs u=>?_,λbase p o=>?_];let#[Z,Y,kV,v,i,l,b,ct,m,rfl,lk,r]:=F.ex;exact .of_eq (hb kV v i l b ct [u] rfl);rw[<- hs];exact H base p o j y F g
end
end
theorem iC{α:Type}{body:T->(Option T->Prop)->Prop}(g f:α->T):∀(l:List α) (h:LT) (Q:LT->Prop),(∀x∈l,∀R:Option T->Prop,R (Jr (f x))->body (g x) R)->h.9+l.9<=jz->Q (h++l.map f)->oD body (l.map g) h Q
 |[],h,Q,_,hl,q=>by simp only[we,oD];exact#[by simpa using hl,by simpa using q]|x::r,h,Q,hb,hl,q=>by simp only[QU,oD];refine hb x QD _ ?_;simp only[QL]at hl;refine#[(),iC g f r _ Q (λy z=>hb y (QC _ z)) (by simp;omega) (by simpa using q)]
theorem iA{α:Type}{body:T->(Option T->Prop)->Prop}(g f:α->T)(p:α->Bool):∀(l:List α) (h:LT) (Q:LT->Prop),(∀x∈l,∀R:Option T->Prop,R (if p x=Jt then Jr (f x) else Js)->body (g x) R)->h.9+l.9<=jz->Q (h++(l.filter p).map f)->oD body (l.map g) h Q
 |[],h,Q,_,hl,q=>by simp only[we,oD];exact#[by simpa using hl,by simpa using q]|x::r,h,Q,hb,hl,q=>by
  simp only[QU,oD];refine hb x QD _ ?_;simp only[QL]at hl;cases u:p x with|true=>refine#[(),iA g f p r _ Q (λy z=>hb y (QC _ z)) (by simp;omega) ?_];rw[Wl,hQ u]at q;simpa using q|false=>refine iA g f p r _ Q (λy z=>hb y (QC _ z)) () ?_;rw[Wl,hI (by rw[u];simp)]at q;exact q
theorem ZO{α:Type}{xs:List α}{i:Int}(h0:0<=i)(x:i<xs.9):∃v,pE xs i=Jr v/\xs[i.toNat]?=Jr v:=by
 have h:i.toNat<xs.length:=()
 have e:((i.toNat:Nat):Int)=i:=()
 have q:=KO (qA h);rw[e]at q;exact#[xs[i.toNat],q,qA h]
theorem VO{α h:Type}(f:α->h)(xs:List α)(i:Int):pE (xs.map f) i=(pE xs i).map f:=by
 unfold pE;rw[QF];cases AO xs.9 i with|none=>rfl|some j=>exact Qi
theorem cB{Ψ:PEv}{E:XE}{α:Type}{body:PT}{u:Tg}{Z:PEnds}(g:α->T)(W:List α->kA->Prop)(h0:∀ρ,W [] ρ->Z.nx ρ)
  (hs:∀x xs ρ (N:kA->Prop),(∀y,W xs y->N y)->W (x::xs) ρ->II u (g x) ρ λz=>pB Ψ E body { Z with nx:=N,ct:=N,bk:=Z.nx } z):∀(xs:List α) (ρ:kA),W xs ρ->MG (pB Ψ E body) u Z (xs.map g) ρ
 |[],ρ,w=>h0 ρ w|x::xs,ρ,w=>hs x xs ρ (λh=>MG (pB Ψ E body) u Z (xs.map g) h) (λh v=>cB g W h0 hs xs h v) w
noncomputable def d9(y:List (Str×PSp))(h:List (Str×D)):PEv:=#[λf=>(y.lookup f).getD oZ,λx=>h.lookup x]
theorem FT{P:jt}{w:jw}{K:QE}{u:Str->Option Jw}{h:j0}{k:List (Str×PSp)}{tbl:List (Str×D)}{z:LS}(X:K.In h)(G:h.Ns ju u)(v:∀p∈tbl,lL K p.1 p.2)
  (y:(z.all λx=>(tbl.map wl).contains x)=Jt):ValsOk P w K u (d9 k tbl) z:=by
 refine#[λx d e F=>((v (x,d) (ql e)).inMg X G).1 F,λx a=>?_];have:=qN.mp y x a;let#[p,b,e]:=QV.mp (Qs.mp this);rw[<- e];exact((v p b).inMg X G).2
theorem TM{α:Type}[BEq α][LawfulBEq α]{l m:List α}(h:(l.all λx=>m.contains x)=Jt):∀x∈l,x∈m:=λx y=>Qs.mp (qN.mp h x y)
section
variable{a b c:PX}{i:Nat}{n:Int}{x:Str}{m:Mt}{f:Str}{g:Bi}{u:Vy}{w:vt}{is:List Bool}{h:LS}{z:Tg}{v:ItK}{y:String}
theorem DT:fG (.xt i)=[i]:=rfl
theorem GL:fG (.nr a b)=fG a++fG b:=rfl
theorem yP:fG .ny=[]:=rfl
end
def kC{α:Type}(o:Option α)(K:α->Prop):Prop:=∃a,o=Jr a/\K a
theorem kC.mk{α:Type}{o:Option α}{a:α}{K:α->Prop}(e:o=Jr a)(k:K a):kC o K:=#[a,e,k]
theorem OB{α:Type}{a:α}{K:α->Prop}:kC (Jr a) K=K a:=h8 #[λ#[_,e,k]=>by cases e;exact k,λk=>#[a,rfl,k]]
theorem lF{α h:Type}{o:Option α}{f:α->h}{K:h->Prop}:kC (o.map f) K=kC o λa=>K (f a):=by
 cases o with|none=>exact h8 #[λ#[_,e,_]=>(by cases e),λ#[_,e,_]=>(by cases e)]|some a=>rw[qO,OB,OB]
def rB(Ψ:PEv)(e:PX)(E:XE)(ρ:kA)(K:TK):Prop:=(pe Ψ e E).e ρ K
def rN(Ψ:PEv)(e:PX)(E:XE)(ρ:kA)(K:Bool->kA->Prop):Prop:=(pe Ψ e E).t ρ K
def lK(Ψ:PEv)(e:PX)(E:XE)(md:List Md)(ρ:kA)(K:List (T×Bool)->kA->Prop):Prop:=(pe Ψ e E).a md ρ K
def yW(p:PSp)(ts:LT)(K:T->LT->Prop)(E:XE):Prop:=p.run ts K E
def g9(x:T)(n:Bool)(Ψ:PEv)(b:PX)(E:XE)(ρ:kA)(K:TK):Prop:=sq (vA x n) ρ (cu (pe Ψ b E).e) λy h=>K y.1 y.2 h
def T5(x:T)(n:Bool)(Ψ:PEv)(b:PX)(E:XE)(md:List Md)(ρ:kA)(K:List (T×Bool)->kA->Prop):Prop:=sq (if n=Jt then .d .none else x) ρ ((pe Ψ b E).a md) K
def Bp(x:T)(n:Bool)(Ψ:PEv)(b:PX)(E:XE)(ρ:kA)(K:List (T×Bool)->kA->Prop):Prop:=sq (vA x n) ρ ((pe Ψ b E).a []) K
def oI(i:Nat)(σ ρ:kA)(K:TK):Prop:=Kl σ[i]? λt=>K t Ju ρ
def GY(i:Nat)(σ:kA)(ρ:kA)(j:Nat)(R:T->kA->Prop):Prop:=Bm ρ j R σ[i]?
def SJ(Ψ:PEv)(E:XE)(r:PT)(Z:PEnds)(i:Nat)(x:T)(n:Bool)(ρ:kA):Prop:=rG x n=Jt/\pB Ψ E r Z (ρ.set i (bD x.er))
def Ci(Ψ:PEv)(E:XE)(r:PT)(Z:PEnds)(i:Nat)(x:T)(n:Bool)(ρ:kA):Prop:=rG x n=Jt/\pB Ψ E r Z (ρ.set i (Jr (.own x)))
def fC(x:T)(n:Bool)(P:Prop):Prop:=rG x n=Jt/\P
def fE(h:Vy)(x:T)(n:Bool)(y:T)(m:Bool)(Q:T->Bool->Prop):Prop:=binT h (vA x n).vw (vA y m).vw Q
def OC(h:vt)(x y:T)(Q:Bool->Prop):Prop:=G8 h x.er y Q
def Kc(x:T)(Q:Bool->Prop):Prop:=vH x.er Q
def CL(f:Bi)(xs:List (T×Bool))(Q:T->Bool->Prop):Prop:=tX f (GB xs) Q
def xC(x:T)(n:Bool)(y:T)(m:Bool)(Q:T->Prop):Prop:=GK (vA x n).vw (vA y m).vw Q∨dO (vA x n).vw y.er Q
def Rg(Ψ:PEv)(E:XE)(c:PX)(q:PT)(Z:PEnds)(ρ:kA):Prop:=pB Ψ E (.whl c q) Z ρ
def Kh(t y x:T)(Q:T->Prop):Prop:=Vh t y.er x.er Q
def Jh(z t:T)(Q:T->(T->T)->Prop):Prop:=Yh z.er t Q
def Hh(y t:T)(Q:T->Prop):Prop:=Lc y.er t Q
def dN(x:T)(n:Bool)(l u:Option Int)(Q:T->Bool->Prop):Prop:=XG (vA x n).vw l u Q
def ZK(xs:List (T×Bool))(C:LT->Prop):Prop:=cE xs=Jt/\C (zF xs)
def DK(h:ItK)(xs:List (T×Bool))(R:LT->Prop):Prop:=BB h (GB xs) R
def jn(m:Mt)(x:T)(n:Bool)(xs:List (T×Bool))(Q:T->Bool->Prop):Prop:=Xg m (vA x n).vw (GB xs) Q
def mB(md:List Md)(xs:List (T×Bool))(C:LT->Prop):Prop:=kC (YA md xs []) C
def sG(Ψ:PEv)(E:XE)(mask:List Bool)(x:LS)(z:Tg)(h y:PX)(ρ:kA):T->(Option T->Prop)->Prop:=VF z (ZL x.9 mask (lockA ρ)) (if isNop h=Jt then λρ R=>R Jt ρ else(pe Ψ h E).t) (pe Ψ y E).e
def Y4(h:Tg)(x:T)(ρ:kA)(K:kA->Prop):Prop:=II h x ρ K
section
variable{Ψ:PEv}{E:XE}{ρ:kA}{K:TK}{L:Bool->kA->Prop}{M:List (T×Bool)->kA->Prop}{a b c as its Y U:PX}{Z:T->kA->Prop}
section
variable{i j:Nat}{x:T}{v:vt}{f t:Str}{p:PSp}{md:List Md}{n:Bool}{mask m:List Bool}{w:LS}{g:Tg}{X:ItK}{R:Option T->Prop}{s:Option Sl}{σ:kA}{ts:LT}
theorem Mb:rB Ψ (.xt i) E ρ K=oI i ρ ρ K:=rfl
theorem jb:rN Ψ (.xt i) E ρ L=oI i ρ ρ λt _ ρ=>Kc t λb=>L b ρ:=rfl
theorem Ab{i:Int}:rB Ψ (.int i) E ρ K=K (.d (.int i)) Ju ρ:=rfl
theorem Ob{x:Str}:rB Ψ (.str x) E ρ K=K (.d (.str x)) Ju ρ:=rfl
theorem yl{x:Bool}:rB Ψ (.bl x) E ρ K=K (.d (.bool x)) Ju ρ:=rfl
theorem Rb:rB Ψ .non E ρ K=K (.d .none) Ju ρ:=rfl
theorem iG{x:Str}{d:D}(h:Ψ.va x=Jr d):rB Ψ (.glo x) E ρ K=K (.d d) Ju ρ:=by show(match Ψ.va x with|some d=>K (.d d) Ju ρ|none=>False)=_;rw[h]
theorem yc{v:Vy}:rB Ψ (.bin v a b) E ρ K=rB Ψ a E ρ λx n u=>g9 x n Ψ b E u λy m h=>fE v x n y m λz k=>K z k h:=rfl
theorem zb:rN Ψ (.cmp v a b) E ρ L=rB Ψ a E ρ λx n z=>g9 x n Ψ b E z λy m h=>OC v x (vA y m) λk=>L k h:=rfl
theorem jc:rB Ψ (.cmp v a b) E ρ K=rN Ψ (.cmp v a b) E ρ λk h=>K (.d (.bool k)) Ju h:=rfl
theorem vb:rN Ψ (.and a b) E ρ L=rN Ψ a E ρ λc h=>if c=Jt then rN Ψ b E h L else L Ju h:=rfl
theorem Fo:rN Ψ (.or a b) E ρ L=rN Ψ a E ρ λc h=>if c=Jt then L Jt h else rN Ψ b E h L:=rfl
theorem yb:rN Ψ (.not a) E ρ L=rN Ψ a E ρ λc h=>L (!c) h:=rfl
theorem lA(h:Ψ.sp f=p)(hm:p.md=md)(A:(md.all λm=>!m.isMut)=Jt):rB Ψ (.call f as) E ρ K=lK Ψ as E md ρ λxs y=>mB md xs λts=>yW p ts (λr u=>u=[]/\K r Jt y) E:=by
 have q:∀(md:List Md) (as:PX),(md.all λm=>!m.isMut)=Jt->cA md as=[]:=by
  intro md;induction md with
  |nil=>intro as _;cases as<;>rfl|cons m md W =>
   intro as h;rw[wK,Qe]at h;cases m with
   |chg=>cases h.1|_=>cases as with|nr a as=>exact W as h.2|_=>rfl
 show(∃u,SA (cA (Ψ.sp f).md as) ρ=Jr u/\(cA (Ψ.sp f).md as).Nodup/\(pe Ψ as E).a (Ψ.sp f).md (clear (cA (Ψ.sp f).md as) ρ) λxs y=>∃ts,YA (Ψ.sp f).md xs u=Jr ts/\(Ψ.sp f).run ts (λr l=>∃z,yC (cA (Ψ.sp f).md as) l y=Jr z/\K r Jt z) E)=_;rw[h,hm,q md as A];have o:∀(r:T) (u:LT) (y:kA),(∃z,yC [] u y=Jr z/\K r Jt z)=(u=[]/\K r Jt y):=by
  intro r u y;cases u with|nil=>exact h8 #[λ#[_,e,k]=>by cases e;exact#[rfl,k],λk=>#[_,rfl,k.2]]|cons _ _=>exact h8 #[λ#[_,e,k]=>(by cases e),λk=>(by cases k.1)]
 have:=λ(y:kA)=>funext λr=>funext λu=>o r u y;simp only[this];exact h8 #[λ#[_,e,_,k]=>by cases e;exact k,λk=>#[_,rfl,Qo,k]]
theorem zl{f:Bi}:rB Ψ (.bi f as) E ρ K=lK Ψ as E [] ρ λxs h=>CL f xs λz k=>K z k h:=rfl
theorem Ke{m:Mt}{z:Str}(h:isMut m=Ju):YS m (vA (.d (.str z)) n).vw=true:=by cases n<;>cases m<;>first|rfl|cases h
theorem v5:rB Ψ (.mt .join a as) E ρ K=rB Ψ a E ρ λx n y=>YS .join (vA x n).vw=Jt/\Bp x n Ψ as E y λxs h=>jn .join x n xs λz k=>K z k h:=rfl
theorem Pb:rB Ψ (.mt .pop (.xt j) as) E ρ K=AC ρ[j]? λt=>KH .pop t=Jt/\lK Ψ as E [] (ρ.set j (Jr (.kw t))) λxs h=>cE xs=Jt/\h[j]?=Jr (Jr (.kw t))/\JK .pop t (zF xs) λr s'=>K r Jt (h.set j (Jr (.own s'))):=rfl
theorem x5{x:Bool}:rB Ψ (.dnew x) E ρ K=K (.dct x [] []) Jt ρ:=rfl
theorem Ib:rB Ψ (.dsp a b) E ρ K=rB Ψ a E ρ λy m z=>fC y m (rB Ψ b E z λx n h=>fC x n (vF Jt y.er/\K (.dct Jt [y.er] [x]) Jt h)):=rfl
theorem dG(h:Ψ.sp f=p)(hm:p.md=.chg::md)(I:(md.all λm=>!m.isMut)=Jt):rB Ψ (.call f (.nr (.xt j) as)) E ρ K=AC ρ[j]? λt=>lK Ψ as E md (ρ.set j Js) λxs y=>mB md xs λts=>yW p (t::ts) (λr u=>∃t',u=[t']/\K r Jt (y.set j (Jr (.own t')))) E:=by
 have C:∀(md:List Md) (as:PX),(md.all λm=>!m.isMut)=Jt->cA md as=[]:=by
  intro md;induction md with
  |nil=>intro as _;cases as<;>rfl|cons m md F =>
   intro as h;rw[wK,Qe]at h;cases m with
   |chg=>cases h.1|_=>cases as with|nr a as=>exact F as h.2|_=>rfl
 show(∃u,SA (cA (Ψ.sp f).md (.nr (.xt j) as)) ρ=Jr u/\(cA (Ψ.sp f).md (.nr (.xt j) as)).Nodup/\(pe Ψ (.nr (.xt j) as) E).a (Ψ.sp f).md (clear (cA (Ψ.sp f).md (.nr (.xt j) as)) ρ) λxs y=>∃ts,YA (Ψ.sp f).md xs u=Jr ts/\(Ψ.sp f).run ts (λr l=>∃o,yC (cA (Ψ.sp f).md (.nr (.xt j) as)) l y=Jr o/\K r Jt o) E)=_;rw[h,hm];have J:cA (.chg::md) (.nr (.xt j) as)=[j]:=by show j::cA md as=[j];rw[C md as I]
 rw[J];have q:∀(r:T) (u:LT) (y:kA),(∃o,yC [j] u y=Jr o/\K r Jt o)=(∃t',u=[t']/\K r Jt (y.set j (Jr (.own t')))):=by
  intro r u y
  match u with
  |[]=>exact h8 #[λ#[_,e,k]=>(by cases e),λ#[_,e,k]=>(by cases e)]|[t]=>exact h8 #[λ#[_,e,k]=>by cases e;exact#[t,rfl,k],λ#[_,e,k]=>by cases e;exact#[_,rfl,k]]|_::_::_=>exact h8 #[λ#[_,e,k]=>(by cases e),λ#[_,e,k]=>(by cases e)]
 have W:=λ(y:kA)=>funext λr=>funext λu=>q r u y;simp only[W];have A:∀(t:T) (xs:List (T×Bool)) (G:LT->Prop),(∃ts,YA (.chg::md) ((.d .none,Jt)::xs) [t]=Jr ts/\G ts)=mB md xs λts=>G (t::ts):=by
  intro t xs G;show(∃ts,(YA md xs []).map (t::·)=Jr ts/\G ts)=kC (YA md xs []) λts=>G (t::ts);cases YA md xs []with|none=>exact h8 #[λ#[_,e,_]=>(by cases e),λ#[_,e,_]=>(by cases e)]|some ts=>exact h8 #[λ#[_,e,k]=>by cases e;exact#[_,rfl,k],λ#[_,e,k]=>by cases e;exact#[_,rfl,k]]
 have B:∀t,ρ[j]?=Jr (Jr (.own t))->SA [j] ρ=Jr [t]:=λt e=>by unfold SA;rw[e];rfl
 have N:∀(u:LT),((pe Ψ (.nr (.xt j) as) E).a (.chg::md) (clear [j] ρ) λxs y=>∃ts,YA (.chg::md) xs u=Jr ts/\p.run ts (λr l=>∃t',l=[t']/\K r Jt (y.set j (Jr (.own t')))) E)=(lK Ψ as E md (ρ.set j Js) λxs y=>∃ts,YA (.chg::md) ((.d .none,Jt)::xs) u=Jr ts/\p.run ts (λr l=>∃t',l=[t']/\K r Jt (y.set j (Jr (.own t')))) E):=λu=>h8 #[λh=>h.2,λh=>#[rfl,h]];simp only[N]
 match e:ρ[j]? with
 |some (Jr (.own t))=>show _=(lK Ψ as E md (ρ.set j Js) λxs y=>mB md xs λts=>yW p (t::ts) (λr u=>∃t',u=[t']/\K r Jt (y.set j (Jr (.own t')))) E);rw[B t e];have:=λxs (y:kA)=>A t xs λts=>p.run ts (λr l=>∃t',l=[t']/\K r Jt (y.set j (Jr (.own t')))) E;refine h8 #[λ#[_,e,_,k]=>?_,λk=>#[_,rfl,by simp,?_]];cases e;simp only[this]at k;exact k;simp only[this];exact k|some (Jr (.kw t))=>exact h8 #[λ#[_,z,_]=>(by unfold SA at z;rw[e]at z;cases z),λk=>k.elim]|some Js=>exact h8 #[λ#[_,z,_]=>(by unfold SA at z;rw[e]at z;cases z),λk=>k.elim]|none=>exact h8 #[λ#[_,z,_]=>(by unfold SA at z;rw[e]at z;cases z),λk=>k.elim]
theorem gR:rB Ψ (.mt .append (.xt j) as) E ρ K=AC ρ[j]? λt=>KH .append t=Jt/\lK Ψ as E [] (ρ.set j (Jr (.kw t))) λxs h=>cE xs=Jt/\h[j]?=Jr (Jr (.kw t))/\JK .append t (zF xs) λr s'=>K r Jt (h.set j (Jr (.own s'))):=rfl
theorem Eb:rB Ψ (.idx a b) E ρ K=rB Ψ a E ρ λx n u=>g9 x n Ψ b E u λy m h=>xC x n y m λz=>K z Ju h:=rfl
theorem dR{i:Int}:rB Ψ (.slc a .nop (.int i)) E ρ K=rB Ψ a E ρ λx n h=>dN x n Js (Jr i) λz k=>K z k h:=by
 show(pe Ψ a E).e ρ (λx n h=>sq (vA x n) h (λρ (R:Option Int->kA->Prop)=>R Js ρ) λl o=>sq (vA x n) o (λρ (R:Option Int->kA->Prop)=>R (Jr i) ρ) λu y=>XG (vA x n).vw l u λz k=>K z k y)=_;have:∀x n h,(sq (vA x n) h (λρ (R:Option Int->kA->Prop)=>R Js ρ) λl o=>sq (vA x n) o (λρ (R:Option Int->kA->Prop)=>R (Jr i) ρ) λu y=>XG (vA x n).vw l u λz k=>K z k y)=XG (vA x n).vw Js (Jr i) λz k=>K z k h:=by intro x n h;unfold sq;split<;>rfl
 simp only[this];rfl
theorem Sb{i:Int}:rB Ψ (.neg (.int i)) E ρ K=K (.d (.int (-i))) Ju ρ:=h8 #[λ#[_,e,q]=>by cases e;exact q,λq=>#[i,rfl,q]]
theorem x9(h:isNop b=Ju):rB Ψ (.slc a b .nop) E ρ K=rB Ψ a E ρ λx n q=>sq (α:=Option Int) (vA x n) q (λρ R=>rB Ψ b E ρ λl _ y=>YD l.er λo=>R o y) λl y=>dN x n l Js λz k=>K z k y:=by
 show(pe Ψ a E).e ρ (λx n q=>sq (vA x n) q (if isNop b=Jt then λρ (R:Option Int->kA->Prop)=>R Js ρ else λρ R=>(pe Ψ b E).e ρ λl _ y=>YD l.er λo=>R o y) λl y=>sq (vA x n) y (λρ (R:Option Int->kA->Prop)=>R Js ρ) λu r=>XG (vA x n).vw l u λz k=>K z k r)=_;rw[h];have:∀x n q l,(sq (α:=Option Int) (vA x n) q (λρ (R:Option Int->kA->Prop)=>R Js ρ) λu r=>XG (vA x n).vw l u λz k=>K z k r)=XG (vA x n).vw l Js λz k=>K z k q:=by intro x n q l;unfold sq;split<;>rfl
 simp only[this];rfl
theorem z5:rB Ψ (.sset a) E ρ K=rB Ψ a E ρ λx n h=>MJ (vA x n).vw λz k=>K z k h:=rfl
theorem Tb:rB Ψ (.lst as) E ρ K=lK Ψ as E [] ρ λxs y=>xs.9<=jz/\ZK xs λts=>K (.lst ts) Jt y:=by have:∀(xs:List (T×Bool)) y,(xs.9<=jz/\ZK xs λts=>K (.lst ts) Jt y)=(cE xs=Jt/\xs.9<=jz/\K (.lst (zF xs)) Jt y):=λxs y=>h8 #[λh=>#[h.2.1,h.1,h.2.2],λh=>#[h.2.1,h.1,h.2.2]];simp only[this];rfl
theorem Nb:rB Ψ (.tup as) E ρ K=lK Ψ as E [] ρ λxs y=>xs.9<=jz/\ZK xs λts=>K (sF ts) Jt y:=by have:∀(xs:List (T×Bool)) y,(xs.9<=jz/\ZK xs λts=>K (sF ts) Jt y)=(cE xs=Jt/\xs.9<=jz/\K (sF (zF xs)) Jt y):=λxs y=>h8 #[λh=>#[h.2.1,h.1,h.2.2],λh=>#[h.2.1,h.1,h.2.2]];simp only[this];rfl
theorem u5:rB Ψ (.comp mask w g X its U Y) E ρ K=lK Ψ its E [] ρ λxs y=>DK X xs λh =>
   oD (sG Ψ (λ_=>False) mask w g U Y y) h [] λz=>K (.lst z) Jt y:=rfl
theorem Ma:sG Ψ E [] [t] (.nm 0) .nop Y ρ x R=rB Ψ Y E (Jr (.kw x)::lockA ρ) λy n _=>fC y n (R (Jr y)):=rfl
theorem D4{u:Str}{x y:D}:sG Ψ E [] [t,u] (.tp [0,1]) .nop Y ρ (.d (.tuple [x,y])) R=rB Ψ Y E (bD x::bD y::lockA ρ) λy n _=>fC y n (R (Jr y)):=OB
theorem Zk{b:Bool}:sG Ψ E (b::m) [t] (.nm 0) .nop Y ρ x R=rB Ψ Y E (Jr (.kw x)::PC (b::m) (lockA ρ)) λy n _=>fC y n (R (Jr y)):=rfl
theorem Na:sG Ψ E [] [t] (.nm 0) (.cmp v a b) Y ρ x R=rN Ψ (.cmp v a b) E (Jr (.kw x)::lockA ρ) λk h=>if k=Jt then rB Ψ Y E h λy n _=>fC y n (R (Jr y)) else R none:=rfl
theorem zc:lK Ψ .ny E md ρ M=M [] ρ:=rfl
theorem i5:lK Ψ (.nr a as) E [] ρ M=rB Ψ a E ρ λx n y=>T5 x n Ψ as E [] y λxs h=>M ((x,n)::xs) h:=rfl
theorem nR:lK Ψ (.nr a as) E (.kz::md) ρ M=rB Ψ a E ρ λx n y=>T5 x n Ψ as E md y λxs h=>M ((x,n)::xs) h:=rfl
theorem pR:lK Ψ (.nr a as) E (.kw::md) ρ M=rB Ψ a E ρ λx n y=>T5 x n Ψ as E md y λxs h=>M ((x,n)::xs) h:=rfl
theorem Xb:kJ Ψ E Z (.xt i) ρ=GY i ρ ρ i Z:=rfl
theorem T4:kJ Ψ E Z (.call f as) ρ=rB Ψ (.call f as) E ρ λx n h=>fC x n (Z x h):=rfl
theorem Db{v:Vy}:kJ Ψ E Z (.bin v a b) ρ=rB Ψ (.bin v a b) E ρ λx n h=>fC x n (Z x h):=rfl
theorem Cb:kJ Ψ E Z (.cmp v a b) ρ=rB Ψ (.cmp v a b) E ρ λx n h=>fC x n (Z x h):=rfl
theorem Fk{f:Bi}:kJ Ψ E Z (.bi f as) ρ=rB Ψ (.bi f as) E ρ λx n h=>fC x n (Z x h):=rfl
theorem Bb:kJ Ψ E Z (.idx a b) ρ=rB Ψ (.idx a b) E ρ λx n h=>fC x n (Z x h):=rfl
theorem Ub:kJ Ψ E Z (.tup as) ρ=rB Ψ (.tup as) E ρ λx n h=>fC x n (Z x h):=rfl
theorem R4:kJ Ψ E Z (.comp mask w g X its U Y) ρ=rB Ψ (.comp mask w g X its U Y) E ρ λx n h=>fC x n (Z x h):=rfl
theorem Xq:oI (i+1) (s::σ) ρ K=oI i σ ρ K:=rfl
theorem Dq{t:T}:oI 0 (Jr (.kw t)::σ) ρ K=K t Ju ρ:=rfl
theorem Uq{t:T}:oI 0 (Jr (.own t)::σ) ρ K=K t Ju ρ:=rfl
theorem Cq:oI i (lockA σ) ρ K=oI i σ ρ K:=by
 unfold oI lockA;rw[Qi];cases σ[i]? with
 |none=>rfl|some s=>cases s with|none=>rfl|some s=>cases s<;>rfl
theorem Bq{b:Bool}:oI (i+1) (PC (b::m) (lockA (s::σ))) ρ K=oI i (PC m (lockA σ)) ρ K:=rfl
theorem Tk:oI 0 (PC (false::m) (lockA (s::σ))) ρ K=oI 0 (lockA (s::σ)) ρ K:=rfl
theorem Zq:GY (i+1) (s::σ) ρ j Z=GY i σ ρ j Z:=rfl
theorem Vq{x:D}:GY 0 (bD x::σ) ρ j Z=Z (.d x) ρ:=h8 #[λh=>h.2,λh=>#[rfl,h]]
theorem Kq{t:T}:GY 0 (Jr (.own t)::σ) ρ j Z=Z t (ρ.set j Js):=rfl
theorem Mp{x:D}:g9 (.d x) n Ψ b E ρ K=rB Ψ b E ρ K:=by cases n<;>rfl
theorem Gp:g9 x Jt Ψ b E ρ K=rB Ψ b E ρ K:=rfl
theorem Lp:g9 (.lst ts) Ju Ψ b E ρ K=rB Ψ b E (lockA ρ) λy m _=>K y m ρ:=rfl
theorem oq{x:D}:T5 (.d x) n Ψ b E md ρ M=lK Ψ b E md ρ M:=by cases n<;>rfl
theorem mq:T5 x Jt Ψ b E md ρ M=lK Ψ b E md ρ M:=rfl
theorem nq:T5 (.lst ts) Ju Ψ b E md ρ M=lK Ψ b E md (lockA ρ) λxs _=>M xs ρ:=rfl
theorem fq{x:D}:Bp (.d x) n Ψ b E ρ M=lK Ψ b E [] ρ M:=by cases n<;>rfl
end
end
section
variable{Ψ:PEv}{E:XE}{ρ σ:kA}{Z:PEnds}{s r q:PT}{i:Nat}{e c its:PX}{o:Option Sl}{n:Bool}{v:D}{P:Prop}{ds:List D}{x:T}
section
variable{j:Nat}{is:LN}{A B:Prop}
theorem zA:pB Ψ E .nil Z ρ=Z.nx ρ:=rfl
theorem cb:pB Ψ E (.seq (.set i e) r) Z (o::σ)=rB Ψ e E (o::σ) λx n h=>SJ Ψ E r Z i x n h:=rfl
theorem Jb:pB Ψ E (.seq (.own i e) r) Z (o::σ)=rB Ψ e E (o::σ) λx n h=>Ci Ψ E r Z i x n h:=rfl
theorem P4:pB Ψ E (.seq (.expr e) r) Z (o::σ)=rB Ψ e E (o::σ) λ_ _ h=>pB Ψ E r Z h:=rfl
theorem gb:pB Ψ E (.seq (.ret e) r) Z (o::σ)=kJ Ψ E Z.rt e (o::σ):=rfl
theorem Yb:pB Ψ E (.seq (.ife c s .nil) r) Z (o::σ)=rN Ψ c E (o::σ) λk h=>if k=Jt then pB Ψ E s { Z with nx:=λy=>pB Ψ E r Z y } h else pB Ψ E r Z h:=rfl
theorem Vb{u:Tg}{k:ItK}:pB Ψ E (.seq (.for_ u k its q) r) Z (o::σ)=lK Ψ its E [] (o::σ) λxs h=>DK k xs λy =>
   if DO xs=Jt then MG (pB Ψ E q) u { Z with nx:=λz=>pB Ψ E r Z (kill u.ix z) } y h
   else MG (pB Ψ E q) u { Z with nx:=λz=>KR u.ix (zC h (fG its)) h (λw=>pB Ψ E r Z w) (kill u.ix z) } y (lock (zC h (fG its)) h):=rfl
theorem bb{a:PX}:pB Ψ E (.seq (.six (.xt j) a e) r) Z (o::σ)=AC (o::σ)[j]? λt=>rB Ψ e E ((o::σ).set j (Jr (.kw t))) λx n z=>fC x n (rB Ψ a E z λy m h=>fC y m (h[j]?=Jr (Jr (.kw t))/\Kh t y x λt'=>pB Ψ E r Z (h.set j (Jr (.own t'))))):=rfl
theorem O4{a k:PX}:pB Ψ E (.seq (.six (.idx (.xt j) k) a e) r) Z (o::σ)=AC (o::σ)[j]? λt=>rB Ψ e E ((o::σ).set j (Jr (.kw t))) λx n w=>fC x n (rB Ψ k E w λz l u=>fC z l (Jh z t λs put=>rB Ψ a E u λy m h=>fC y m (h[j]?=Jr (Jr (.kw t))/\Kh s y x λs'=>pB Ψ E r Z (h.set j (Jr (.own (put s'))))))):=rfl
theorem db{k:PX}:pB Ψ E (.seq (.sdf j k) r) Z (o::σ)=AC (o::σ)[j]? λt=>V8 t=Jt/\rB Ψ k E ((o::σ).set j (Jr (.kw t))) λy m h=>fC y m (h[j]?=Jr (Jr (.kw t))/\Hh y t λt'=>pB Ψ E r Z (h.set j (Jr (.own t')))):=rfl
theorem N4:pB Ψ E (.seq (.tset is e) r) Z (o::σ)=rB Ψ e E (o::σ) λx n y=>fC x n (Y4 (.tp is) (.d x.er) y λh=>pB Ψ E r Z h):=rfl
theorem Kb:pB Ψ E (.seq (.frz is s) r) Z (o::σ)=pB Ψ E (.seq s r) Z (frzAt is (o::σ)):=rfl
theorem ub:pB Ψ E (.seq (.whl c q) r) Z (o::σ)=Rg Ψ E c q { Z with nx:=λh=>pB Ψ E r Z h } (o::σ):=rfl
theorem lq:SJ Ψ E r Z i (.d v) n ρ=pB Ψ E r Z (ρ.set i (bD v)):=h8 #[λh=>h.2,λh=>#[by cases n<;>rfl,h]]
theorem zp:SJ Ψ E r Z i (.lst (ds.map T.d)) Jt ρ=pB Ψ E r Z (ρ.set i (bD (.list ds))):=by unfold SJ T.er;rw[KA];exact h8 #[λh=>h.2,λh=>#[rfl,h]]
theorem Ip:Ci Ψ E r Z i x Jt ρ=pB Ψ E r Z (ρ.set i (Jr (.own x))):=h8 #[λh=>h.2,λh=>#[rfl,h]]
theorem Gq:fC (.d v) n P=P:=h8 #[λh=>h.2,λh=>#[by cases n<;>rfl,h]]
theorem Fq:fC x Jt P=P:=h8 #[λh=>h.2,λh=>#[rfl,h]]
theorem NU:(([]:LT)=[]/\P)=P:=h8 #[λh=>h.2,λh=>#[rfl,h]]
theorem Zj:(if(true:Bool)=Jt then A else B)=A:=rfl
theorem Kj:(if(false:Bool)=Jt then A else B)=B:=rfl
theorem dq{v h:Option Sl}:pB Ψ E r Z (QAI (h::σ) 0 v)=pB Ψ E r Z (v::σ):=rfl
theorem cq{v h y:Option Sl}:pB Ψ E r Z (QAI (h::y::σ) 1 v)=pB Ψ E r Z (h::v::σ):=rfl
theorem bq{v y h z:Option Sl}:pB Ψ E r Z (QAI (y::h::z::σ) 2 v)=pB Ψ E r Z (y::h::v::σ):=rfl
theorem uq{v z y h u:Option Sl}:pB Ψ E r Z (QAI (z::y::h::u::σ) 3 v)=pB Ψ E r Z (z::y::h::v::σ):=rfl
theorem xq{v u z y h w:Option Sl}:pB Ψ E r Z (QAI (u::z::y::h::w::σ) 4 v)=pB Ψ E r Z (u::z::y::h::v::σ):=rfl
theorem vq{v w u z y h k:Option Sl}:pB Ψ E r Z (QAI (w::u::z::y::h::k::σ) 5 v)=pB Ψ E r Z (w::u::z::y::h::v::σ):=rfl
theorem kq{v k w u z y h a:Option Sl}:pB Ψ E r Z (QAI (k::w::u::z::y::h::a::σ) 6 v)=pB Ψ E r Z (k::w::u::z::y::h::v::σ):=rfl
theorem zq{v a k w u z y h b:Option Sl}:pB Ψ E r Z (QAI (a::k::w::u::z::y::h::b::σ) 7 v)=pB Ψ E r Z (a::k::w::u::z::y::h::v::σ):=rfl
theorem yq{v b a k w u z y h f:Option Sl}:pB Ψ E r Z (QAI (b::a::k::w::u::z::y::h::f::σ) 8 v)=pB Ψ E r Z (b::a::k::w::u::z::y::h::v::σ):=rfl
theorem jq{v f b a k w u z y h g:Option Sl}:pB Ψ E r Z (QAI (f::b::a::k::w::u::z::y::h::g::σ) 9 v)=pB Ψ E r Z (f::b::a::k::w::u::z::y::h::v::σ):=rfl
theorem Pk{v l g f b a k w u z y h:Option Sl}:pB Ψ E r Z (QAI (l::g::f::b::a::k::w::u::z::y::h::σ) 10 v)=pB Ψ E r Z (l::g::f::b::a::k::w::u::z::y::v::σ):=rfl
theorem Nk{v m l g f b a k w u z h y:Option Sl}:pB Ψ E r Z (QAI (m::l::g::f::b::a::k::w::u::z::h::y::σ) 11 v)=pB Ψ E r Z (m::l::g::f::b::a::k::w::u::z::h::v::σ):=rfl
theorem Mk{v p m l g f b a k w u y h z:Option Sl}:pB Ψ E r Z (QAI (p::m::l::g::f::b::a::k::w::u::y::h::z::σ) 12 v)=pB Ψ E r Z (p::m::l::g::f::b::a::k::w::u::y::h::v::σ):=rfl
end
end
section
variable{d:D}{n m:Bool}{i j:Int}{z y:Str}{b:Bool}{xs:List (T×Bool)}{ts:LT}{ds es:List D}{md:List Md}{t:T}{C:LT->Prop}{Q:T->Bool->Prop}{L:Bool->Prop}{R:T->Prop}{W:LT->Prop}
section
variable{ρ:kA}{P:kA->Prop}{e f k:D}{w:vt}{kvs:List (D×D)}{l u:Option Int}
theorem Zh{i:Int}{x:D}{Q:T->Prop}(h0:0<=i)(v:i<ds.9)(q:Q (.lst ((ds.set i.toNat x).map T.d))):Kh (.lst (ds.map T.d)) (.d (.int i)) (.d x) Q:=by
 have h:i.toNat<ds.length:=()
 refine#[i.toNat,?_,by rw[<- QDb];exact q];unfold AO;rw[QF];rw[hQ h0,hQ v]
theorem Ha{l:LN}{i:Int}{K:Nat->Prop}(h0:0<=i)(a:i<l.9)(k:∀v,v∈l->K v):kC (pE l i) K:=by let#[v,x,h]:=ZO h0 a;exact#[v,x,k v (Qq h)]
theorem JT{i:Int}{K:D->Prop}(h0:0<=i)(a:i<ds.9)(k:∀v,v∈ds->K v):kC (pE ds i) K:=by let#[v,x,h]:=ZO h0 a;exact#[v,x,k v (Qq h)]
theorem Ia{J:LN}{x:kA}{N:kA->Prop}:KR J [] x N ρ=N ρ:=h8 #[λh=>h.2,λh=>#[λ_ z=>(nomatch z),h]]
theorem LA{α:Type}(f:α->D)(l:List α):l.map (λc=>T.d (f c))=(l.map f).map T.d:=by rw[Qh];rfl
theorem oC:(vA (.lst (ds.map T.d)) n).vw=.ls (ds.map T.d):=by cases n;rfl;show Vw.ls ((ersT (ds.map T.d)).map T.d)=_;rw[KA]
theorem Fb:mB md [] C=C []:=OB
theorem Rp:mB [] ((.d d,n)::xs) C=mB [] xs λts=>C (.d d::ts):=by
 have e:YA [] ((.d d,n)::xs) []=(YA [] xs []).map (.d d::·):=by cases n<;>rfl
 unfold mB;rw[e,lF]
theorem Po:mB [] ((.lst (ds.map T.d),Jt)::xs) C=mB [] xs λts=>C (.d (.list ds)::ts):=by have e:YA [] ((.lst (ds.map T.d),Jt)::xs) []=(YA [] xs []).map (.d (.list (ersT (ds.map T.d)))::·):=rfl;unfold mB;rw[e,lF,KA]
theorem Tp:mB (.kw::md) ((t,Ju)::xs) C=mB md xs λts=>C (t::ts):=by have e:YA (.kw::md) ((t,Ju)::xs) []=(YA md xs []).map (t::·):=rfl;unfold mB;rw[e,lF]
theorem Gc:EE (.lst (ds.map T.d))=Jr (.lst (ds.map T.d)):=by simp only[EE,T.vw,oA,qO]
theorem Op{u:T}(h:EE (vA t n)=Jr u):mB (.kz::md) ((t,n)::xs) C=mB md xs λts=>C (u::ts):=by
 have e:YA (.kz::md) ((t,n)::xs) []=(YA md xs []).map (u::·):=by show(match EE (vA t n) with|some t=>(YA md xs []).map (t::·)|none=>Js)=_;rw[h]
 unfold mB;rw[e,lF]
theorem Gk:mB (.kz::md) ((.lst (ds.map T.d),n)::xs) C=mB md xs λts=>C (.lst (ds.map T.d)::ts):=Op (by cases n;exact Gc;show EE (.d (.list (ersT (ds.map T.d))))=_;rw[KA];simp only[EE,T.vw,oA,qO])
theorem Hb:ZK [] C=C []:=h8 #[λh=>h.2,λh=>#[rfl,h]]
theorem jp:ZK ((.lst (ds.map T.d),Jt)::xs) C=ZK xs λts=>C (.lst (ds.map T.d)::ts):=by show((rG (.lst (ds.map T.d)) Jt&&cE xs)=Jt/\C (.lst (ds.map T.d)::zF xs))=(cE xs=Jt/\C (.lst (ds.map T.d)::zF xs));rw[show rG (.lst (ds.map T.d)) Jt=Jt from rfl,QA5]
theorem gq:ZK ((.d d,n)::xs) C=ZK xs λts=>C (.d d::ts):=by show((rG (.d d) n&&cE xs)=Jt/\C (.d d::zF xs))=(cE xs=Jt/\C (.d d::zF xs));rw[show rG (.d d) n=Jt by cases n<;>rfl,QA5]
theorem gl{i:Nat}:Y4 (.nm i) t ρ P=P (ρ.set i (Jr (.kw t))):=rfl
theorem Ij{h:Tg}:II h t ρ P=Y4 h t ρ P:=rfl
theorem Ea:fE .Add (.d (.int i)) n (.d (.int j)) m Q=Q (.d (.int (i+j))) false:=by unfold fE;rw[fA,fA];exact yg i j
theorem Pa:fE .Sub (.d (.int i)) n (.d (.int j)) m Q=Q (.d (.int (i - j))) false:=by unfold fE;rw[fA,fA];exact Ef i j
theorem Sa:fE .Mult (.d (.int i)) n (.d (.int j)) m Q=(Yy i j/\Q (.d (.int (i * j))) Ju):=by unfold fE;rw[fA,fA];exact Af i j
theorem Ra:fE .Mult (.d (.str z)) n (.d (.int j)) m Q=((-(2 ^ 31)<=j/\j<2 ^ 31/\z.9 * j.toNat<=jz)/\Q (.d (.str (hG z j))) Ju):=by unfold fE;rw[fA,fA];exact Tf z j
theorem Aa:fE .FloorDiv (.d (.int i)) n (.d (.int j)) m Q=((0<j/\j<2 ^ 200)/\Q (.d (.int (i / j))) Ju):=by unfold fE;rw[fA,fA];exact Sf i j
theorem Ta:fE .Mod (.d (.int i)) n (.d (.int j)) m Q=(0<j/\Q (.d (.int (i % j))) Ju):=by unfold fE;rw[fA,fA];exact Rf i j
theorem Bk:fE .Add (.lst (ds.map T.d)) n (.lst (es.map T.d)) m Q=(ds.9+es.9<=jz/\Q (.lst ((ds++es).map T.d)) Jt):=by unfold fE;rw[oC,oC,jg,oA,oA];exact h8 #[λ#[_,_,x,h,k]=>by cases x;cases h;exact k,λk=>#[_,_,rfl,rfl,k]]
theorem Ck:fE .Add t n (.lst [.d d]) m Q=fE .Add t n (.lst ([d].map T.d)) m Q:=rfl
theorem fj:sF [.d d,.d e]=.d (.tuple [d,e]):=rfl
theorem cj{g:D}:sF [.d d,.d e,.d f,.d g]=.d (.tuple [d,e,f,g]):=rfl
theorem Ca:OC .Eq (.d (.int i)) (.d (.int j)) L=L (decide (i=j)):=rfl
theorem Ba:OC .Eq (.d (.str z)) (.d (.str y)) L=L (decide (z=y)):=rfl
theorem Ja:OC .NotEq (.d (.str z)) (.d (.str y)) L=L (!decide (z=y)):=rfl
theorem Mj:OC .Lt (.d (.int i)) (.d (.int j)) L=L (decide (i<j)):=rfl
theorem R3:OC w (.d d) (.lst (ds.map T.d)) L=uT w d (.list ds) L:=by show uT w d (.list (ersT (ds.map T.d))) L=_;rw[KA]
theorem Oj:OC .Gt (.d (.int i)) (.d (.int j)) L=L (decide (j<i)):=rfl
theorem Tj:OC w t (vA (.lst (ds.map T.d)) Jt) L=OC w t (.d (.list ds)) L:=by show OC w t (.d (.list (ersT (ds.map T.d)))) L=_;rw[KA]
theorem Sj{u:T}:OC w t (vA u Ju) L=OC w t u L:=rfl
theorem Xa:OC .In (.d (.str z)) (.d (.list ds)) L=(((FA (.str z)=Jt/\ds.all FA=Jt)∨(UD (.str z)/\UD (.list ds)))/\L (ds.any λy=>qE y (.str z))):=rfl
theorem J4:OC .NotIn (.d (.str z)) (.d (.list ds)) L=(((FA (.str z)=Jt/\ds.all FA=Jt)∨(UD (.str z)/\UD (.list ds)))/\L (!(ds.any λy=>qE y (.str z)))):=rfl
theorem t4:OC .NotIn (.d (.str z)) (.lst (ds.map T.d)) L=(((FA (.str z)=Jt/\ds.all FA=Jt)∨(UD (.str z)/\UD (.list ds)))/\L (!(ds.any λy=>qE y (.str z)))):=by exact R3
theorem eT{ks:List D}:OC .NotIn (.d d) (.dct b ks ts) L=(vF b d/\L (!(dA ks d).isSome)):=by show(vF b d/\((CmpOp.NotIn=.In/\L (dA ks d).isSome)∨(CmpOp.NotIn=.NotIn/\L (!(dA ks d).isSome))))=_;simp
theorem Ka:OC .In (.d (.str z)) (.d (.tuple ds)) L=(((FA (.str z)=Jt/\ds.all FA=Jt)∨(UD (.str z)/\UD (.list ds)))/\L (ds.any λy=>qE y (.str z))):=rfl
theorem Va:OC .In (.d (.str z)) (.lst (ds.map T.d)) L=(((FA (.str z)=Jt/\ds.all FA=Jt)∨(UD (.str z)/\UD (.list ds)))/\L (ds.any λy=>qE y (.str z))):=by exact R3
theorem Xp:Kc (.d (.bool b)) L=L b:=rfl
theorem R9:CL .max [(.d (.int i),n),(.d (.int j),m)] Q=Q (.d (.int (if j > i then j else i))) false:=by unfold CL GB GB GB;rw[fA,fA];exact kg i j
theorem P9:CL .tuple [(.lst (ds.map T.d),n)] Q=Q (.d (.tuple ds)) false:=by unfold CL GB;rw[oC];refine(zk _).trans ?_;rw[oA];exact OB
theorem Ai:CL .len [(.d (.list ds),n)] Q=Q (.d (.int ds.9)) false:=by unfold CL GB;rw[fA];refine(Ga _).trans ?_;rw[QF]
theorem Ti:CL .len [(.lst (ds.map T.d),n)] Q=Q (.d (.int ds.9)) false:=by unfold CL GB;rw[oC];refine(Ga _).trans ?_;rw[QF]
theorem Ii:CL .any [(.lst (ds.map T.d),n)] Q=∃bs:List Bool,ds=bs.map PyData.bool/\Q (.d (.bool (bs.any id))) false:=by unfold CL GB;rw[oC];refine(uk _).trans ?_;simp only[oA,Qu]
theorem S9:CL .list [(.d (.list ds),n)] Q=Q (.lst (ds.map T.d)) true:=by unfold CL GB;rw[fA];refine(vk _).trans ?_;rw[oA];exact OB
theorem B3:dO (.ls ts) k R=False:=h8 #[λ#[_,_,_,_,_,e,_]=>(by cases e),Qj]
theorem tf:dO (.tp ts) k R=False:=h8 #[λ#[_,_,_,_,_,e,_]=>(by cases e),Qj]
theorem af{x:D}:dO (.sc x) k R=False:=h8 #[λ#[_,_,_,_,_,e,_]=>(by cases e),Qj]
theorem Zp:xC (.lst (ds.map T.d)) n (.d (.int i)) m R=kC (pE ds i) λd=>R (.d d):=by unfold xC;rw[oC,fA,B3,or_false];refine(U2 _ _).trans ?_;show kC (pE (ds.map T.d) i) R=_;rw[VO,lF]
theorem Hg:xC (.d (.list ds)) n (.d (.int i)) m R=kC (pE ds i) λd=>R (.d d):=by unfold xC;rw[fA,fA,show(T.d (.list ds)).vw=.ls (ds.map T.d) from rfl,B3,or_false];refine(U2 _ _).trans ?_;show kC (pE (ds.map T.d) i) R=_;rw[VO,lF]
theorem OX:xC (.d (.tuple ds)) n (.d (.int i)) m R=kC (pE ds i) λd=>R (.d d):=by unfold xC;rw[fA,fA,show(T.d (.tuple ds)).vw=.tp (ds.map T.d) from rfl,tf,or_false];refine(zf _ _).trans ?_;show kC (pE (ds.map T.d) i) R=_;rw[VO,lF]
theorem Yp:xC (.d (.str z)) n (.d (.int i)) m R=(z.9<=jz/\kC (pE z.cps.toList i) λc=>R (.d (.str #[(Wb [c])]))):=by unfold xC;rw[fA,fA,show(T.d (.str z)).vw=.sc (.str z) from rfl,af,or_false];exact xf _ _
theorem Mg:xC (.lst [.d d,.d e,.d f]) n t m R=xC (.lst ([d,e,f].map T.d)) n t m R:=rfl
theorem Lg{g:D}:xC (.lst [.d d,.d e,.d f,.d g]) n t m R=xC (.lst ([d,e,f,g].map T.d)) n t m R:=rfl
theorem Ng{q:Bool}{l:Nat}(g:RC kvs=Jr q)(a:vF q k)(v:dA (kvs.map (·.1)) k=Jr l)(h:(kvs.map (·.2))[l]?=Jr e)(x:R (.d e)):xC (.d (.dict kvs)) n (.d k) m R:=by
 unfold xC;rw[fA];refine .inr ?_;show dO (KB kvs) k R;unfold KB;rw[g];refine#[q,_,_,l,.d e,rfl,a,v,?_,x];rw[Qi]at h ⊢;cases z:kvs[l]? with|none=>rw[z]at h;cases h|some p=>rw[z]at h;cases h;rfl
theorem Cp:dN (.d (.list ds)) n l u Q=Q (.lst ((nD ds l u).map T.d)) true:=by unfold dN;rw[fA];refine(tY _).trans ?_;rw[oA];exact OB
theorem Mh:dN (.lst (ds.map T.d)) n l u Q=Q (.lst ((nD ds l u).map T.d)) true:=by unfold dN;rw[oC];refine(tY _).trans ?_;rw[oA];exact OB
theorem lj:jn .join (.d (.str z)) n [(.lst (ds.map T.d),m)] Q=∃h:LS,ds=h.map Jx/\(h.map (·.length)).sum+h.9 * z.9<=16777216/\Q (.d (.str (QA9 z h))) false:=by unfold jn GB;rw[fA,oC];refine(zj z _).trans ?_;simp only[oA,Qu]
theorem gj{P:Prop}:(YS .join (vA (.d (.str z)) n).vw=Jt/\P)=P:=h8 #[λh=>h.2,λh=>#[Ke rfl,h]]
theorem Vp:DK .val [(.d (.list ds),n)] W=W (ds.map T.d):=by unfold DK GB;rw[fA];exact CK _
theorem Kp:DK .val [(.d (.tuple ds),n)] W=W (ds.map T.d):=by unfold DK GB;rw[fA];exact A1 _
theorem zh:DK .val [(.lst (ds.map T.d),n)] W=W (ds.map T.d):=by unfold DK GB;rw[oC];exact CK _
theorem jh:DK .rng1 [(.d (.int j),n)] W=((-(2 ^ 62)<=j/\j<2 ^ 62)/\W ((Qm j.toNat).map λ(i:Nat)=>.d (.int (i:Int)))):=by unfold DK GB;rw[fA];exact T1 j
theorem xh:DK .enum [(.d (.list ds),n)] W=W (ds.zipIdx.map λp=>.d (.tuple [.int (p.2:Int),p.1])):=by unfold DK GB;rw[fA];refine(aQ _).trans ?_;exact h8 #[λ#[_,_,x,h,k]=>by cases x;rw[oA]at h;cases h;exact k,λk=>#[_,_,rfl,oA _,k]]
theorem b9:DK .enum [(.lst (ds.map T.d),n)] W=W (ds.zipIdx.map λp=>.d (.tuple [.int (p.2:Int),p.1])):=by unfold DK GB;rw[oC];refine(aQ _).trans ?_;exact h8 #[λ#[_,_,x,h,k]=>by cases x;rw[oA]at h;cases h;exact k,λk=>#[_,_,rfl,oA _,k]]
theorem kh(h:kvs=[]∨RC kvs=Jr Jt):DK .itm [(.d (.dict kvs),n)] W=W (kvs.map λp=>.d (.tuple [p.1,p.2])):=by
 unfold DK GB;rw[fA];show BB .itm [KB kvs] W=_;rcases h with rfl|h;exact O1;unfold KB;rw[h];refine(tQ _ _).trans ?_;have e:(kvs.map λp=>T.d p.2)=(kvs.map (·.2)).map T.d:=by rw[Qh];rfl
 have x:((kvs.map (·.1)).zip (kvs.map (·.2))).map (λp=>T.d (.tuple [p.1,p.2]))=kvs.map λp=>T.d (.tuple [p.1,p.2]):=by rw[List.zip_map',Qh];rfl
 refine h8 #[λ#[ds,v,k]=>?_,λk=>#[kvs.map (·.2),by rw[e,oA],?_]];rw[e,oA]at v;cases v;rw[x]at k;exact k;rw[x];exact k
theorem fg{ss:LS}{Q:T->Bool->Prop}(h:ss.9<64)(q:∀x:LS,x.Nodup->(∀s,s∈x↔s∈ss)->gu x=Jt->Q (.lst ((x.map Jx).map T.d)) Jt):MJ (vA (.lst ((ss.map Jx).map T.d)) Jt).vw Q:=by rw[oC];exact .inl #[_,ss,rfl,oA _,h,q]
noncomputable def eZ(Q:T->LT->Prop):PEnds:={ nx:=λ_=>Q (.d .none) [],rt:=λt _=>Q t [] }
theorem ma{Q:T->LT->Prop}{t:T}:(eZ Q).rt t ρ=Q t []:=rfl
theorem JA{Ψ:PEv}{b:PT}{p:PSp}{N x:LS}{ds:LT}{Q:T->LT->Prop}(ρ:kA)(h:pF Ψ b (eZ Q) ρ)(hl:ds.9=x.length:=by rfl)(hc:DB 0 p.md x.9=[]:=by rfl)(hs:OA N p.md ds=ρ:=by rfl):ds.9=x.9/\pF Ψ b (FC p x.9 Q) (OA N p.md ds):=by
 have e:FC p x.9 Q=eZ Q:=by unfold FC;rw[hc];rfl
 rw[e,hs];exact#[hl,h]
end
end
end L2.L3
namespace L2.L3.K20
open PySem PySem.Spec PyProof.Rows L2 L2.L3
section
variable{c k i m s v:Int}{K:Nat->Prop}{Ψ:PEv}{X ns st:LS}{n c1:Nat}{Z:PEnds}{Q:T->LT->Prop}{sc:Sl}{es:gB}{o6 o7 o8 Y o13 o9 o10 o11:Option Sl}{p q:Pt}{r:Rm}{l:Inn}{a b g:Str}{w:Wy}{e:Str×Str}
def xH(i:Nat):Stmt:=qj.main.body.getD i (.Pass #[0,0,0,0])
noncomputable def HF:LS:=["edges","starts","goal","rooms","came_from","firsts","chains"]
def yF:LS:=["edges","starts","goal"]
noncomputable def eK:Need:=#[["rooms_of","points_reached","lay_chain","chain_from","full_names"],["BEGIN"],["sorted"]]
noncomputable def ZC:PT :=
  %[.expr (.call "lay_chain" %[.xt 3,.xt 4,.tup %[.xt 2,.str "to"|1]|1]),.set 4 (.call "points_reached" %[.xt 3|1])|2]
def DF:PT :=
  %[.own 3 (.call "rooms_of" %[.xt 0,.xt 1,.xt 2|1]),.set 4 (.call "points_reached" %[.xt 3|1]),.whl (.cmp .In (.tup %[.xt 2,.str "to"|1]) (.xt 4)) ZC,.set 5 (.comp [] ["point"] (.nm 0) .val %[.idx (.xt 3) (.glo "BEGIN")|1] (.cmp .Gt (.idx (.idx (.xt 4) (.xt 0)) (.glo "BEGIN")) (.int 0)) (.idx (.xt 0) (.int 0))),.set 6 (.comp [] ["first"] (.nm 0) .val %[.xt 5|1] .nop (.call "chain_from" %[.xt 4,.xt 0,.xt 3|1])),.ret (.tup %[.bi .sorted %[.xt 6|1],.call "full_names" %[.xt 4|1]|1])|2]
theorem bJ:jC eK DF HF yF (xH 3)=true:=by kernel_rfl
noncomputable def pL:LS:=["edges","starts","goal","rooms","name","first","second"]
def DI:LS:=["edges","starts","goal"]
def eS:Need:=#[["add_name","add_way"],["BEGIN","WIDE"],[]]
noncomputable def HE:PT :=
  %[.ife (.cmp .NotEq (.xt 4) (.xt 2)) %[.expr (.call "add_name" %[.xt 3,.xt 4|1]),.expr (.call "add_way" %[.xt 3,.glo "BEGIN",.tup %[.xt 4,.str "to"|1],.glo "WIDE"|1])|2] .nil|2]
noncomputable def GE:PT :=
  %[.ife (.and (.cmp .NotEq (.xt 5) (.xt 2)) (.cmp .NotEq (.xt 5) (.xt 6))) %[.expr (.call "add_name" %[.xt 3,.xt 5|1]),.expr (.call "add_name" %[.xt 3,.xt 6|1]),.expr (.call "add_way" %[.xt 3,.tup %[.xt 5,.str "from"|1],.tup %[.xt 6,.str "to"|1],.glo "WIDE"|1])|2] .nil|2]
def bL:PT :=
  %[.own 3 (.dsp (.glo "BEGIN") (.dnew Jt)),.for_ (.nm 4) .val %[.xt 1|1] HE,.for_ (.tp [5,6]) .val %[.xt 0|1] GE,.ret (.xt 3)|2]
theorem RQ:jC eS bL pL DI (xH 4)=true:=by kernel_rfl
def tL:LS:=["rooms","name"]
def FI:LS:=["rooms","name"]
def iS:Need:=#[["add_way"],[],[]]
noncomputable def AG:PT :=
  %[.expr (.call "add_way" %[.xt 0,.tup %[.xt 1,.str "to"|1],.tup %[.xt 1,.str "from"|1],.int 1|1])|2]
theorem SQ:jC iS AG tL FI (xH 5)=true:=by kernel_rfl
def LM:LS:=["rooms","here","there","room"]
def fK:LS:=["rooms","here","there","room"]
def BW:Need:=#[[],[],[]]
noncomputable def UM:PT :=
  %[.sdf 0 (.xt 1),.sdf 0 (.xt 2),.six (.idx (.xt 0) (.xt 1)) (.xt 2) (.xt 3),.six (.idx (.xt 0) (.xt 2)) (.xt 1) (.int 0)|2]
theorem pT:jC BW UM LM fK (xH 6)=true:=by kernel_rfl
noncomputable def oE:LS:=["rooms","came_from","waiting","here","there","room"]
def JD:LS:=["rooms"]
def lI:Need:=#[[],["BEGIN"],["len"]]
noncomputable def AA:PT :=
  %[.ife (.and (.cmp .Gt (.xt 5) (.int 0)) (.cmp .NotIn (.xt 4) (.xt 1))) %[.six (.xt 1) (.xt 4) (.xt 3),.expr (.mt .append (.xt 2) %[.xt 4|1])|2] .nil|2]
def sD:PT :=
  %[.set 3 (.mt .pop (.xt 2) %[.int 0|1]),.for_ (.tp [4,5]) .itm %[.idx (.xt 0) (.xt 3)|1] AA|2]
def lE:PT :=
  %[.own 1 (.dsp (.glo "BEGIN") .non),.own 2 (.lst %[.glo "BEGIN"|1]),.whl (.cmp .Gt (.bi .len %[.xt 2|1]) (.int 0)) sD,.ret (.xt 1)|2]
theorem LH:jC lI lE oE JD (xH 7)=true:=by kernel_rfl
def jJ:LS:=["rooms","came_from","last","there","here"]
def rH:LS:=["rooms","came_from","last"]
def kQ:Need:=#[[],["BEGIN"],[]]
noncomputable def TD:PT :=
  %[.set 4 (.idx (.xt 1) (.xt 3)),.six (.idx (.xt 0) (.xt 4)) (.xt 3) (.bin .Sub (.idx (.idx (.xt 0) (.xt 4)) (.xt 3)) (.int 1)),.six (.idx (.xt 0) (.xt 3)) (.xt 4) (.bin .Add (.idx (.idx (.xt 0) (.xt 3)) (.xt 4)) (.int 1)),.set 3 (.xt 4)|2]
def XF:PT :=
  %[.set 3 (.xt 2),.whl (.cmp .NotEq (.xt 3) (.glo "BEGIN")) TD|2]
theorem pO:jC kQ XF jJ rH (xH 8)=true:=by kernel_rfl
def IH:LS:=["rooms","first","goal","chain","name"]
def pG:LS:=["rooms","first","goal"]
def MN:Need:=#[["name_behind"],[],[]]
noncomputable def aD:PT :=
  %[.expr (.mt .append (.xt 3) %[.xt 4|1]),.set 4 (.call "name_behind" %[.xt 0,.xt 4|1])|2]
def AE:PT :=
  %[.own 3 (.lst .ny),.set 4 (.xt 1),.whl (.cmp .NotEq (.xt 4) (.xt 2)) aD,.ret (.xt 3)|2]
theorem UL:jC MN AE IH pG (xH 9)=true:=by kernel_rfl
def aG:LS:=["rooms","name","here"]
def gF:LS:=["rooms","name"]
def iL:Need:=#[[],[],[]]
noncomputable def SD:PT :=
  %[.set 2 (.tup %[.xt 1,.str "from"|1]),.ret (.idx (.comp [] ["there"] (.nm 0) .val %[.idx (.xt 0) (.xt 2)|1] (.and (.cmp .NotEq (.idx (.xt 0) (.int 0)) (.xt 2)) (.cmp .Gt (.idx (.idx (.xt 1) (.xt 0)) (.xt 3)) (.int 0))) (.idx (.xt 0) (.int 0))) (.int 0))|2]
theorem yL:jC iL SD aG gF (xH 10)=true:=by kernel_rfl
def EH:LS:=["came_from"]
def oG:LS:=["came_from"]
def HN:Need:=#[[],[],["sorted"]]
noncomputable def SE:PT :=
  %[.ret (.bi .sorted %[.comp [] ["point"] (.nm 0) .val %[.xt 0|1] (.and (.cmp .Eq (.idx (.xt 0) (.int 1)) (.str "to")) (.cmp .NotIn (.tup %[.idx (.xt 0) (.int 0),.str "from"|1]) (.xt 1))) (.idx (.xt 0) (.int 0))|1])|2]
theorem VL:jC HN SE EH oG (xH 11)=true:=by kernel_rfl
noncomputable def yJ:LS:=["edges","seers","needs","ground","holders","others"]
def sH:LS:=["edges","seers","needs"]
def vQ:Need:=#[["ground_alone","told_through"],[],[]]
noncomputable def UF:PT :=
  %[.set 3 (.call "ground_alone" %[.xt 0,.xt 1,.xt 2|1]),.set 4 (.comp [] ["name","chains"] (.tp [0,1]) .val %[.xt 3|1] .nop (.xt 0)),.set 5 (.comp [] ["name","number"] (.tp [0,1]) .val %[.xt 2|1] (.cmp .NotIn (.xt 0) (.xt 6)) (.xt 0)),.ret (.tup %[.xt 3,.comp [] ["name"] (.nm 0) .val %[.xt 5|1] .nop (.tup %[.xt 0,.idx (.call "told_through" %[.xt 1,.xt 2,.xt 5,.xt 0|1]) (.int 1)|1])|1])|2]
theorem rO:jC vQ UF yJ sH (xH 13)=true:=by kernel_rfl
noncomputable def GF:LS:=["edges","seers","needs","ground","found","grown","name","number","chains"]
def jF:LS:=["edges","seers","needs"]
def aK:Need:=#[["told_through"],[],["len"]]
noncomputable def YC:PT :=
  %[.ife (.cmp .NotIn (.xt 6) (.xt 4)) %[.set 8 (.idx (.call "told_through" %[.xt 0,.xt 1,.xt 4,.xt 6|1]) (.int 0)),.ife (.cmp .GtE (.bi .len %[.xt 8|1]) (.xt 7)) %[.expr (.mt .append (.xt 3) %[.tup %[.xt 6,.slc (.xt 8) .nop (.xt 7)|1]|1]),.expr (.mt .append (.xt 4) %[.xt 6|1]),.set 5 (.bl Jt)|2] .nil|2] .nil|2]
def JC:PT :=
  %[.set 5 (.bl Ju),.for_ (.tp [6,7]) .val %[.xt 2|1] YC|2]
def BF:PT :=
  %[.own 3 (.comp [Ju,Ju,Ju,Ju,Ju,Ju,Jt,Jt] ["name","number"] (.tp [0,1]) .val %[.xt 2|1] (.cmp .In (.xt 0) (.xt 3)) (.tup %[.xt 0,.lst .ny|1])),.own 4 (.comp [Ju,Ju,Ju,Ju,Ju,Ju,Jt,Ju,Jt] ["name","chains"] (.tp [0,1]) .val %[.xt 3|1] .nop (.xt 0)),.set 5 (.bl Jt),.whl (.xt 5) JC,.ret (.xt 3)|2]
theorem uJ:jC aK BF GF jF (xH 14)=true:=by kernel_rfl
def FF:LS:=["edges","seers","people","goal"]
def IE:LS:=["edges","seers","people","goal"]
def tK:Need:=#[["apart_chains"],[],[]]
noncomputable def rD:PT :=
  %[.ret (.call "apart_chains" %[.comp [] ["edge"] (.nm 0) .val %[.xt 0|1] (.cmp .In (.idx (.xt 0) (.int 0)) (.xt 3)) (.xt 0),.xt 1,.xt 3|1])|2]
theorem xJ:jC tK rD FF IE (xH 15)=true:=by kernel_rfl
def HM:LS:=["_law_cell_here","_law_k","_law_m"]
def cK:LS:=["_law_cell_here","_law_k"]
def XW:Need:=#[[],[],[]]
noncomputable def VI:PT :=
  %[.set 2 (.bin .Mod (.bin .Add (.bin .Mult (.bin .Mod (.xt 0) (.int 2147483647)) (.int 48271)) (.bin .Mult (.bin .Add (.bin .Add (.bin .Mult (.xt 1) (.xt 1)) (.bin .Mult (.int 3) (.xt 1))) (.int 7)) (.int 69621))) (.int 2147483647)),.ret (.bin .Mod (.bin .Mult (.xt 2) (.xt 2)) (.int 2147483647))|2]
theorem oT:jC XW VI HM cK (xH 18)=true:=by kernel_rfl
noncomputable def GM:LS:=["_law_cell_here","_law_many","_law_m","_law_base","_law_some","_law_size","_law_at","_law_out","_law_k","_law_signs"]
def bK:LS:=["_law_cell_here","_law_many"]
def VW:Need:=#[["_law_mixed"],[],["range"]]
noncomputable def FD:PT :=
  %[.own 9 (.comp [] ["_law_place"] (.nm 0) .rng1 %[.xt 5|1] .nop (.xt 4)),.six (.xt 9) (.xt 6) (.idx (.xt 4) (.bin .Mod (.bin .Add (.bin .FloorDiv (.xt 2) (.int 4200)) (.bin .Mult (.int 3) (.xt 8))) (.int 20))),.six (.xt 9) (.bin .Mod (.bin .Add (.xt 6) (.int 1)) (.xt 5)) (.idx (.xt 4) (.bin .Mod (.bin .Add (.bin .FloorDiv (.xt 2) (.int 84000)) (.bin .FloorDiv (.xt 8) (.int 20))) (.int 20))),.expr (.mt .append (.xt 7) %[.mt .join (.str "") %[.xt 9|1]|1])|2]
def KI:PT :=
  %[.set 2 (.call "_law_mixed" %[.xt 0,.int 3|1]),.set 3 (.idx (.str "abcdefghijklmnpqrstvwxyz") (.bin .Mod (.xt 2) (.int 24))),.set 4 (.str "bcdfghjklmnpqrstvwxz"),.ife (.and (.cmp .Eq (.bin .Mod (.bin .FloorDiv (.xt 2) (.int 25)) (.int 3)) (.int 0)) (.cmp .Lt (.xt 1) (.int 9))) %[.ret (.comp [Ju,Ju,Ju,Ju,Ju,Ju,Ju,Ju,Jt] ["_law_k"] (.nm 0) .rng1 %[.xt 1|1] .nop (.bin .Mult (.xt 4) (.bin .Sub (.xt 2) (.xt 0))))|2] .nil,.set 5 (.bin .Add (.int 2) (.bin .Mod (.bin .FloorDiv (.xt 2) (.int 75)) (.int 7))),.set 6 (.bin .Mod (.bin .FloorDiv (.xt 2) (.int 525)) (.xt 5)),.own 7 (.lst .ny),.for_ (.nm 8) .rng1 %[.xt 1|1] FD,.ret (.xt 7)|2]
theorem mT:jC VW KI GM bK (xH 19)=true:=by kernel_rfl
def cR:LS:=["_law_script","_law_number","_law_cell_here"]
def yM:LS:=["_law_script"]
def G0:Need:=#[[],[],[]]
noncomputable def dL:PT :=
  %[.set 1 (.bin .Mod (.bin .Add (.bin .Add (.bin .Mult (.xt 1) (.int 1000003)) (.xt 2)) (.int 1)) (.int 2147483647))|2]
def fL:PT :=
  %[.set 1 (.int 0),.for_ (.nm 2) .val %[.xt 0|1] dL,.ret (.xt 1)|2]
theorem nX:jC G0 fL cR yM (xH 20)=true:=by kernel_rfl
noncomputable def CV:LS:=["_law_script","_law_most_here","_law_seed","_law_m","_law_names_here","_law_edges","_law_k","_law_cell_here","_law_j","_law_n","_law_one","_law_other","_law_starts","_law_name"]
def UP:LS:=["_law_script","_law_most_here"]
noncomputable def F7:Need:=#[["_law_fold","_law_mixed","_law_names"],[],["enumerate","range","len"]]
noncomputable def ME:PT :=
  %[.ife (.cmp .Eq (.bin .Mod (.bin .FloorDiv (.xt 9) (.int 256)) (.idx (.lst %[.int 1,.int 2,.int 4|1]) (.bin .Mod (.bin .FloorDiv (.xt 3) (.int 27)) (.int 3)))) (.int 0)) %[.expr (.mt .append (.xt 5) %[.tup %[.idx (.xt 4) (.xt 10),.idx (.xt 4) (.xt 11)|1]|1])|2] .nil|2]
def YI:PT :=
  (.seq (.set 9 (.call "_law_mixed" %[.bin .Add (.xt 2) (.xt 7),.bin .Add (.bin .Add (.bin .Mult (.int 2) (.xt 6)) (.xt 8)) (.int 20)|1]))
  (.seq (.set 10 (.bin .Mod (.xt 9) (.bi .len %[.xt 4|1])))
  (.seq (.set 11 (.bin .Mod (.bin .FloorDiv (.xt 9) (.int 16)) (.bi .len %[.xt 4|1])))
  (.seq (.ife (.cmp .Gt (.bin .Mod (.bin .FloorDiv (.xt 3) (.int 9)) (.int 3)) (.int 0)) %[.set 11 (.bin .Mod (.bin .Add (.bin .Add (.xt 10) (.int 1)) (.bin .Mod (.bin .FloorDiv (.xt 9) (.int 16)) (.int 3))) (.bi .len %[.xt 4|1]))|2] .nil)
  ME))))
def JI:PT :=
  %[.for_ (.nm 8) .rng1 %[.bin .Add (.int 1) (.bin .Mod (.bin .FloorDiv (.xt 3) (.int 5000)) (.int 2))|1] YI|2]
noncomputable def iI:PT :=
  %[.ife (.cmp .Eq (.bin .Mod (.call "_law_mixed" %[.xt 2,.bin .Add (.int 200) (.xt 6)|1]) (.idx (.lst %[.int 2,.int 3,.int 2,.int 6|1]) (.bin .Mod (.bin .FloorDiv (.xt 3) (.int 81)) (.int 4)))) (.int 0)) %[.expr (.mt .append (.xt 12) %[.xt 13|1])|2] .nil|2]
noncomputable def OG:PT :=
  %[.frz [5,12] (.ret (.tup %[.xt 4,.xt 5,.xt 12,.idx (.xt 4) (.bin .Mod (.bin .FloorDiv (.xt 3) (.int 1296)) (.bi .len %[.xt 4|1]))|1]))|2]
def JO:PT :=
  (.seq (.set 2 (.call "_law_fold" %[.xt 0|1]))
  (.seq (.set 3 (.call "_law_mixed" %[.xt 2,.int 1|1]))
  (.seq (.set 4 (.call "_law_names" %[.xt 2,.bin .Add (.int 2) (.bin .Mod (.xt 3) (.bin .Sub (.xt 1) (.int 1)))|1]))
  (.seq (.own 5 (.lst .ny))
  (.seq (.for_ (.tp [6,7]) .enum %[.slc (.xt 0) .nop (.int 63)|1] JI)
  (.seq (.own 12 (.lst .ny))
  (.seq (.for_ (.tp [6,13]) .enum %[.xt 4|1] iI)
  (.seq (.ife (.cmp .Eq (.bin .Mod (.bin .FloorDiv (.xt 3) (.int 324)) (.int 4)) (.int 0)) %[.own 12 (.bin .Add (.xt 12) (.slc (.xt 12) .nop (.int 1)))|2] .nil)
  OG))))))))
theorem j4:jC F7 JO CV UP (xH 21)=true:=by kernel_rfl
noncomputable def BI:LS:=["_law_edges","_law_goal","_law_chain","_law_found","_law_other"]
def dD:LS:=["_law_edges","_law_goal","_law_chain"]
def UW:Need:=#[["_law_grown"],[],["tuple","sorted","set"]]
noncomputable def HC:PT :=
  %[.ife (.and (.cmp .NotEq (.xt 4) (.xt 1)) (.cmp .NotIn (.xt 4) (.xt 2))) %[.own 3 (.bin .Add (.xt 3) (.call "_law_grown" %[.xt 0,.xt 1,.bin .Add (.xt 2) (.lst %[.xt 4|1])|1]))|2] .nil|2]
def RE:PT :=
  %[.for_ (.nm 4) .val %[.sset (.comp [] ["_law_pair"] (.nm 0) .val %[.xt 0|1] (.cmp .Eq (.idx (.xt 0) (.int 0)) (.idx (.xt 3) (.neg (.int 1)))) (.idx (.xt 0) (.int 1)))|1] HC,.ret (.xt 3)|2]
def uG:PT :=
  (.seq (.own 3 (.lst .ny))
  (.seq (.ife (.cmp .In (.tup %[.idx (.xt 2) (.neg (.int 1)),.xt 1|1]) (.xt 0)) %[.expr (.mt .append (.xt 3) %[.bi .tuple %[.bi .sorted %[.xt 2|1]|1]|1])|2] .nil)
  RE))
theorem pD:jC UW uG BI dD (xH 22)=true:=by kernel_rfl
noncomputable def DV:LS:=["_law_edges","_law_starts","_law_goal","_law_found","_law_start"]
def BP:LS:=["_law_edges","_law_starts","_law_goal"]
def G7:Need:=#[["_law_grown"],[],["sorted","set"]]
noncomputable def cG:PT :=
  %[.ife (.cmp .NotEq (.xt 4) (.xt 2)) %[.set 3 (.bin .Add (.xt 3) (.call "_law_grown" %[.xt 0,.xt 2,.lst %[.xt 4|1]|1]))|2] .nil|2]
def YO:PT :=
  %[.set 3 (.lst .ny),.for_ (.nm 4) .val %[.xt 1|1] cG,.ret (.sset (.xt 3))|2]
theorem z4:jC G7 YO DV BP (xH 23)=true:=by kernel_rfl
noncomputable def rL:LS:=["_law_rows","_law_most_here","_law_k","_law_row","_law_rest"]
def ED:LS:=["_law_rows"]
def B0:Need:=#[["_law_most"],[],["enumerate","any","max"]]
noncomputable def RG:PT :=
  %[.set 4 (.comp [] ["_law_other"] (.nm 0) .val %[.slc (.xt 0) (.bin .Add (.xt 2) (.int 1)) .nop|1] (.not (.bi .any %[.comp [] ["_law_name"] (.nm 0) .val %[.xt 0|1] .nop (.cmp .In (.xt 0) (.xt 5))|1])) (.xt 0)),.set 1 (.bi .max %[.xt 1,.bin .Add (.int 1) (.call "_law_most" %[.xt 4|1])|1])|2]
def OH:PT :=
  %[.set 1 (.int 0),.for_ (.tp [2,3]) .enum %[.xt 0|1] RG,.ret (.xt 1)|2]
theorem xD:jC B0 OH rL ED (xH 24)=true:=by kernel_rfl
noncomputable def FM:LS:=["_law_script","_law_names_here","_law_seed","_law_m","_law_needs_here","_law_k","_law_name","_law_n","_law_cut"]
def xK:LS:=["_law_script","_law_names_here"]
noncomputable def KW:Need:=#[["_law_fold","_law_mixed"],[],["enumerate","len"]]
noncomputable def DD:PT :=
  %[.set 7 (.call "_law_mixed" %[.xt 2,.bin .Add (.int 600) (.xt 5)|1]),.expr (.mt .append (.xt 4) %[.tup %[.xt 6,.bin .Add (.int 1) (.idx (.lst %[.int 0,.bin .Mod (.xt 7) (.int 2),.bin .Mod (.xt 7) (.int 3),.bin .Mod (.xt 7) (.int 5)|1]) (.bin .Mod (.xt 3) (.int 4)))|1]|1])|2]
def NE:PT :=
  %[.ret (.xt 4)|2]
def ZI:PT :=
  (.seq (.set 2 (.call "_law_fold" %[.xt 0|1]))
  (.seq (.set 3 (.call "_law_mixed" %[.xt 2,.int 3|1]))
  (.seq (.own 4 (.lst .ny))
  (.seq (.for_ (.tp [5,6]) .enum %[.xt 1|1] DD)
  (.seq (.set 8 (.bin .Mod (.bin .FloorDiv (.xt 3) (.int 4)) (.bi .len %[.xt 1|1])))
  (.seq (.own 4 (.bin .Add (.slc (.xt 4) (.xt 8) .nop) (.slc (.xt 4) .nop (.xt 8))))
  (.seq (.ife (.cmp .Eq (.bin .Mod (.bin .FloorDiv (.xt 3) (.int 64)) (.int 2)) (.int 1)) %[.expr (.mt .reverse (.xt 4) .ny)|2] .nil)
  NE)))))))
theorem lT:jC KW ZI FM xK (xH 25)=true:=by kernel_rfl
noncomputable def bR:LS:=["_law_edges","_law_seers","_law_needs_here","_law_held_here","_law_turn","_law_name","_law_number","_law_inner"]
def jM:LS:=["_law_edges","_law_seers","_law_needs_here"]
noncomputable def C0:Need:=#[["_law_most","_law_all"],[],["sorted","set","list","range","len"]]
noncomputable def OE:PT :=
  %[.ife (.cmp .NotIn (.xt 5) (.xt 3)) %[.set 7 (.comp [] ["_law_pair"] (.nm 0) .val %[.xt 0|1] (.and (.cmp .In (.idx (.xt 0) (.int 0)) (.xt 4)) (.or (.cmp .In (.idx (.xt 0) (.int 1)) (.xt 4)) (.cmp .Eq (.idx (.xt 0) (.int 1)) (.xt 6)))) (.xt 0)),.ife (.cmp .GtE (.call "_law_most" %[.call "_law_all" %[.xt 7,.xt 1,.xt 5|1]|1]) (.xt 6)) %[.expr (.mt .append (.xt 3) %[.xt 5|1])|2] .nil|2] .nil|2]
def SG:PT :=
  %[.for_ (.tp [5,6]) .val %[.xt 2|1] OE|2]
def cL:PT :=
  %[.set 0 (.sset (.xt 0)),.own 3 (.bi .list %[.xt 1|1]),.for_ (.nm 4) .rng1 %[.bi .len %[.xt 2|1]|1] SG,.ret (.bi .sorted %[.xt 3|1])|2]
theorem mX:jC C0 cL bR jM (xH 26)=true:=by kernel_rfl
noncomputable def Gb:LS:=["_law_script","_law_names_here","_law_edges","_law_starts","_law_goal","_law_seers","_law_needs_here","_law_ground"]
def AY:LS:=["_law_script"]
noncomputable def Ei:Need:=#[["_law_web","_law_needs","ground_by","_law_held"],[],["sorted","set","list"]]
noncomputable def Z4:PT :=
  %[.tset [1,2,3,4] (.call "_law_web" %[.xt 0,.int 5|1]),.set 5 (.sset (.xt 3)),.set 6 (.call "_law_needs" %[.xt 0,.xt 1|1]),.set 7 (.idx (.call "ground_by" %[.bi .list %[.xt 2|1],.bi .list %[.xt 5|1],.bi .list %[.xt 6|1]|1]) (.int 0)),.ret (.cmp .Eq (.bi .sorted %[.comp [] ["_law_row"] (.nm 0) .val %[.xt 7|1] .nop (.idx (.xt 0) (.int 0))|1]) (.call "_law_held" %[.xt 2,.xt 5,.xt 6|1]))|2]
theorem Cf:jC Ei Z4 Gb AY (xH 27)=true:=by kernel_rfl
noncomputable def tB:PSp where
 run:=λh Q _=>∃c k:Int,h=[.d (.int c),.d (.int k)]/\(0<=k/\k<=1000)/\∀v:Int,0<=v->Q (.d (.int v)) []
theorem zD{K:T->LT->Prop}{E:XE}:yW tB [.d (.int c),.d (.int k)] K E=((0<=k/\k<=1000)/\∀v:Int,0<=v->K (.d (.int v)) []):=h8 #[λ#[_,_,e,q]=>by cases e;exact q,λq=>#[c,k,rfl,q]]
theorem CZ:EO Ψ VI tB HM cK:=by rintro _ Q _ ⟨c,k,rfl,⟨h0,y⟩,q⟩;refine JA [bD (.int c),bD (.int k),Js] ?_;delta VI;simp![↓zA];have a:=Qn c (show(2147483647:Int)≠0 by decide);have b:=Qk c (show(0:Int)<2147483647 by decide);have x:0<=(c % 2147483647 * 48271+(k * k+3 * k+7) * 69621) % 2147483647:=Qn _ (by decide);have h:(c % 2147483647 * 48271+(k * k+3 * k+7) * 69621) % 2147483647<2147483647:=Qk _ (by decide);exact#[DL.ok (.inr #[(),()]),DL.ok (.inr #[(),()]),DL.ok (.inr #[(),()]),DL.ok (.inr #[(),()]),DL.ok (.inl #[(),()]),q _ (Qn _ (by decide))]
noncomputable def OF:PSp where
 md:=[.kz]
 run:=λh Q _=>∃ns:LJ,h=[.lst ((ns.map Jy).map T.d)]/\∀v:Int,Q (.d (.int v)) []
theorem JP{ns:LJ}{K:T->LT->Prop}{E:XE}:yW OF [.lst ((ns.map Jy).map T.d)] K E=∀v:Int,K (.d (.int v)) []:=h8 #[λ#[h,e,q]=>q,λq=>#[ns,rfl,q]]
theorem m7:EO Ψ fL OF cR yM:=by rintro _ Q _ ⟨ns,rfl,q⟩;refine JA [Jr (.kw (.lst ((ns.map Jy).map T.d))),Js,Js] ?_;delta fL;simp![↓zA];rw[<- LA];refine cB (λ(n:Int)=>T.d (.int n)) (λl h=>∃a o,0<=a/\a<2147483647/\h=[Jr (.kw (.lst ((ns.map Jy).map T.d))),bD (.int a),o]) ?_ ?_ _ _ #[0,_,by decide,by decide,by rw[LA]];rintro h ⟨a,o,_,_,rfl⟩;simp![↓zA];exact q a;rintro x l h N y ⟨a,o,h0,z,rfl⟩;delta dL;simp![↓zA];exact#[DL.ok (.inr #[by decide,by decide]),y _ #[_,_,Qn _ (by decide),Qk _ (by decide),rfl]]
def LZ(s:Str):Prop:=s.9<=9/\∀c∈s.cps.toList,c<128
theorem bX(xs:List (Array Nat)):∀(h:Array Nat),(xs.foldl (·++·) h).toList=h.toList++(xs.map QDS).flatten:=by
 induction xs with|nil=>intro h;simp|cons a xs x=>intro h;rw[wc,x];simp
theorem IJ(x:Str)(k:Int):(hG x k).cps.toList=(Q9 k.toNat x.cps.toList).flatten:=by
 unfold hG Txt.mul;split;rename_i h;have:k.toNat=0:=()
 rw[this];rfl;rename_i h;split;rename_i y;rw[wj]at y;rcases y with y|y;have:k=1:=by simpa using y
 subst this;simp;have z:x.9=0:=by simpa using y
 have:x.cps.toList=[]:=by
  have:x.cps.toList.9=0:=by rw[QN];exact z
  exact qw.mp this
 rw[this];simp;show((Q9 k.toNat x.cps).foldl (·++·) #[]).toList=_;rw[bX];simp
theorem Sc{c:Nat}(hc:c<128)(hk:k<=9):LZ (hG #[(Wb [c])] k):=by
 have h:=IJ #[(Wb [c])] k;have e:(Q9 k.toNat ([c]:LN)).flatten=Q9 k.toNat c:=by
  generalize k.toNat=n;induction n with|zero=>rfl|succ n z=>rw[wU,WT,z,wU];rfl
 have h:(hG #[(Wb [c])] k).cps.toList=Q9 k.toNat c:=h.trans e;refine#[?_,λx y=>?_];have:=Fz wR h;rw[QN,wD]at this;show(hG #[(Wb [c])] k).cps.size<=9;omega;rw[h]at y;rw[List.eq_of_mem_replicate y];exact hc
theorem HG:∀(X:LS),(QDu (Ql "") X).cps.toList=(X.map λy=>y.cps.toList).flatten
 |[]=>rfl|[y]=>by simp[QDu]|y::z::r=>by have h:=HG (z::r);show((y.cps++(Ql "").cps)++(QDu (Ql "") (z::r)).cps).toList=_;rw[QCu,QCu,h,show(Ql "").cps.toList=[] by decide +kernel,wH];rfl
def one(y:Str):Prop:=∃c,c<128/\y=#[(Wb [c])]
theorem j8(hl:X.9<=9)(h:∀y∈X,one y):LZ (QA9 (Ql "") X):=by
 have e:(QA9 (Ql "") X).cps.toList=(X.map λy=>y.cps.toList).flatten:=by rw[show QA9 (Ql "") X=QDu (Ql "") X from QCV _ _];exact HG X
 have f:∀(X:LS),(∀y∈X,one y)->((X.map λy=>y.cps.toList).flatten).9=X.9/\∀c∈(X.map λy=>y.cps.toList).flatten,c<128:=by
  intro X;induction X with
  |nil=>intro _;exact#[rfl,λc hc=>by simp at hc]|cons y r W =>
   intro h;let#[B,A]:=W λz C=>h z (QC _ C);let#[c,hc,rfl]:=h y QD;rw[QU,WT];refine#[?_,λx u=>?_];rw[QM,B,QL];show 1+r.9=r.9+1;omega;rcases QW.mp u with u|u
   ·have:x=c:=by simpa using u
    rw[this];exact hc
   exact A x u
 let#[o,j]:=f X h;refine#[?_,by rw[e];exact j];have:=Fz wR e;rw[QN,o]at this;show(QA9 (Ql "") X).cps.size<=9;omega
noncomputable def OJ:PSp where
 run:=λh Q _=>∃c k:Int,h=[.d (.int c),.d (.int k)]/\(2<=k/\k<=10)/\∀ns:LS,ns.9=k.toNat->(∀s∈ns,LZ s)->ns.Nodup->Q (.lst ((ns.map Jx).map T.d)) []
theorem ak:(Ql "abcdefghijklmnpqrstvwxyz").cps.toList.9=24/\((Ql "abcdefghijklmnpqrstvwxyz").cps.toList.all λc=>decide (c<128))=true:=by decide +kernel
theorem C4:(Ql "bcdfghjklmnpqrstvwxz").cps.toList.9=20/\((Ql "bcdfghjklmnpqrstvwxz").cps.toList.all λc=>decide (c<128))=true:=by decide +kernel
theorem mo(h0:0<=i)(h:i<24)(k:∀c,c<128->K c):kC (pE (Ql "abcdefghijklmnpqrstvwxyz").cps.toList i) K :=
 Ha h0 (by rw[ak.1];exact h) λv hv=>k v (Fx (qN.mp ak.2 v hv))
theorem ao(h0:0<=i)(h:i<20)(k:∀c,c<128->K c):kC (pE (Ql "bcdfghjklmnpqrstvwxz").cps.toList i) K :=
 Ha h0 (by rw[C4.1];exact h) λv hv=>k v (Fx (qN.mp C4.2 v hv))
theorem fo(h0:0<=i)(x:i<20)(k:∀c,c<128->(Ql "bcdfghjklmnpqrstvwxz").cps.toList[i.toNat]?=Jr c->K c):kC (pE (Ql "bcdfghjklmnpqrstvwxz").cps.toList i) K:=by let#[v,y,h]:=ZO h0 (show i<((Ql "bcdfghjklmnpqrstvwxz").cps.toList.9:Int) by rw[C4.1];exact x);exact#[v,y,k v (Fx (qN.mp C4.2 v (Qq h))) h]
theorem Em:(Ql "bcdfghjklmnpqrstvwxz").cps.toList.Nodup:=by decide +kernel
theorem on{j:Int}{c:Nat}(h0:0<=i)(x:i<20)(h:0<=j)(a:(Ql "bcdfghjklmnpqrstvwxz").cps.toList[i.toNat]?=Jr c)(b:(Ql "bcdfghjklmnpqrstvwxz").cps.toList[j.toNat]?=Jr c):i=j:=by have:=(List.getElem?_inj (by rw[C4.1];omega) Em).mp (a.trans b.symm);omega
theorem ba:∀{X:LS}{n c:Nat},(∀y∈X,one y)->X[n]?=Jr #[(Wb [c])]->((X.map λy=>y.cps.toList).flatten)[n]?=Jr c
 |[],_,_,_,h=>(nomatch h)
 |y::r,n,c,h,e=>by
  let#[d,_,rfl]:=h y QD;show(d::(r.map λy=>y.cps.toList).flatten)[n]?=_;cases n with|zero=>rw[QAQ]at e ⊢;cases e;rfl|succ n=>rw[qq]at e ⊢;exact ba (λz x=>h z (QC _ x)) e
theorem y8{c:Nat}(h:∀y∈X,one y)(e:X[n]?=Jr #[(Wb [c])]):(QA9 (Ql "") X).cps.toList[n]?=Jr c:=by rw[show QA9 (Ql "") X=QDu (Ql "") X from QCV _ _,HG];exact ba h e
theorem Tc{c:Nat}:((Qm k.toNat).map λ(i:Nat)=>hG #[(Wb [c])] (k - (i:Int))).Nodup:=by
 refine QAi.mpr (WZ (λ{a b} y hb x e=>?_) QCC);have h:∀n:Int,(hG #[(Wb [c])] n).cps.toList.9=n.toNat:=λn=>by rw[IJ,List.length_flatten,List.map_replicate,List.sum_replicate_nat];show n.toNat * 1=_;omega
 have hb:=Q8.mp hb;have:=Fz (λs:Str=>s.cps.toList.9) e;simp only[h]at this;omega
theorem ja:(Ql "bcdfghjklmnpqrstvwxz").9<=sizeLine:=by decide +kernel
theorem mj:(Ql "abcdefghijklmnpqrstvwxyz").9<=sizeLine:=by decide +kernel
theorem CU(h:∀y∈X,one y){c:Nat}(hc:c<128):∀y∈X.set n #[(Wb [c])],one y:=λy x=>by rcases List.mem_or_eq_of_mem_set x with z|z;exact h y z;exact#[c,hc,z]
theorem AT:∀{X:LS},(∀y∈X,one y)->(X.map (·.length)).sum=X.9
 |[],_=>rfl|y::r,h=>by let#[c,_,rfl]:=h y QD;rw[QU,List.sum_cons,AT λz x=>h z (QC _ x),QL];show 1+r.9=r.9+1;omega
noncomputable def Oi(c k m:Int)(c1:Nat)(sz h:Int)(ns:LS)(o8 o9:Option Sl):kA:=[bD (.int c),bD (.int k),bD (.int m),bD (.str #[(Wb [c1])]),bD (.str (Ql "bcdfghjklmnpqrstvwxz")),bD (.int sz),bD (.int h),oW (.lst ((ns.map Jx).map T.d)),o8,o9]
theorem V7{sz h:Int}{o8 o9:Option Sl}{i:Nat}(S:0<=m)(hc:c1<128)(P:2<=sz)(O:sz<=8)(N:0<=h)(H:h<sz)(hl:ns.9<=9)(q:∀s o,LZ s->(∃d,(Ql "bcdfghjklmnpqrstvwxz").cps.toList[((m / 4200+3 * (i:Int)) % 20).toNat]?=Jr d/\s.cps.toList[h.toNat]?=Jr d)->Z.nx (Oi c k m c1 sz h (ns++[s]) (bD (.int (i:Int))) o)) :
  pF Ψ FD Z (Oi c k m c1 sz h ns (bD (.int (i:Int))) o9):=by
 delta Oi at q ⊢;delta FD;simp![↓zA];refine#[(),(),iC (λ(i:Nat)=>T.d (.int (i:Int))) (λ_=>.d (.str #[(Wb [c1])])) _ _ _ (λx _ R L=>?_) (by rw[qM,Qr];omega) ?_];simp![↓zA];exact L;rw[Qy,LA];have M:(Qm sz.toNat).map (λ_=>Jx #[(Wb [c1])])=((Qm sz.toNat).map λ_=>(#[(Wb [c1])]:Str)).map Jx:=by rw[Qh];rfl
 rw[M];have A:∀y∈(Qm sz.toNat).map λ_=>(#[(Wb [c1])]:Str),one y:=λy A=>by let#[_,_,e]:=QV.mp A;exact#[c1,hc,e.symm]
 have u:((Qm sz.toNat).map λ_=>(#[(Wb [c1])]:Str)).9=sz.toNat:=by rw[QF,qM]
 generalize (Qm sz.toNat).map (λ_=>(#[(Wb [c1])]:Str))=X at A u;refine#[DL.ok (.inl #[by decide,by decide]),ja,fo (Qn _ (by decide)) (Qk _ (by decide)) λW F B=>Zh N (by rw[QF];omega) ?_];rw[<- QDb];refine#[ja,ao (Qn _ (by decide)) (Qk _ (by decide)) λG E=>?_];refine#[(),Zh (Qn _ ()) (by rw[QF,wb,u];have:=Qk (h+1) (show 0<sz by omega);omega) ?_];rw[<- QDb];have z:=CU (CU A (n:=h.toNat) F) (n:=((h+1) % sz).toNat) E;have C:((X.set h.toNat #[(Wb [W])]).set ((h+1) % sz).toNat #[(Wb [G])]).9=sz.toNat:=by rw[wb,wb,u]
 have j:((X.set h.toNat #[(Wb [W])]).set ((h+1) % sz).toNat #[(Wb [G])])[h.toNat]?=Jr #[(Wb [W])]:=by
  have I:((h+1) % sz).toNat≠h.toNat:=by by_cases d:h+1=sz;rw[d,Int.emod_self];omega;rw[Int.emod_eq_of_lt () ()];omega
  rw[qi I,qy ()]
 generalize (X.set h.toNat #[(Wb [W])]).set ((h+1) % sz).toNat #[(Wb [G])]=zs at z C j;simp![↓zA];refine#[zs,rfl,by rw[AT z,show(Ql "").9=0 by decide +kernel];omega,?_];have J:=j8 () z;have f:=q _ (oW (.lst ((zs.map Jx).map T.d))) J #[W,B,y8 z j];refine#[?_,?_];rw[QF,QF];omega;rw[Qb,Qb]at f;exact f
def xG:PT :=
  %[.set 5 (.bin .Add (.int 2) (.bin .Mod (.bin .FloorDiv (.xt 2) (.int 75)) (.int 7))),.set 6 (.bin .Mod (.bin .FloorDiv (.xt 2) (.int 525)) (.xt 5)),.own 7 (.lst .ny),.for_ (.nm 8) .rng1 %[.xt 1|1] FD,.ret (.xt 7)|2]
noncomputable def XM:PT->PT:=λr =>
  (.seq (.set 2 (.call "_law_mixed" %[.xt 0,.int 3|1]))
  (.seq (.set 3 (.idx (.str "abcdefghijklmnpqrstvwxyz") (.bin .Mod (.xt 2) (.int 24))))
  (.seq (.set 4 (.str "bcdfghjklmnpqrstvwxz"))
  (.seq (.ife (.and (.cmp .Eq (.bin .Mod (.bin .FloorDiv (.xt 2) (.int 25)) (.int 3)) (.int 0)) (.cmp .Lt (.xt 1) (.int 9))) %[.ret (.comp [Ju,Ju,Ju,Ju,Ju,Ju,Ju,Ju,Jt] ["_law_k"] (.nm 0) .rng1 %[.xt 1|1] .nop (.bin .Mult (.xt 4) (.bin .Sub (.xt 2) (.xt 0))))|2] .nil)
  r))))
theorem V0:KI=XM xG:=rfl
theorem D7(hm:0<=m)(k0:2<=k)(k1:k<=10)(hc:c1<128)(q:∀ns:LS,ns.9=k.toNat->(∀s∈ns,LZ s)->ns.Nodup->Q (.lst ((ns.map Jx).map T.d)) []) :
  pF Ψ xG (eZ Q) [bD (.int c),bD (.int k),bD (.int m),bD (.str #[(Wb [c1])]),bD (.str (Ql "bcdfghjklmnpqrstvwxz")),Js,Js,Js,Js,Js]:=by
 delta xG;simp![↓zA];have H:=Qn (m / 75) (show(7:Int)≠0 by decide);have S:=Qk (m / 75) (show(0:Int)<7 by decide);have A:2<=2+m / 75 % 7:=()
 have W:2+m / 75 % 7<=8:=()
 generalize 2+m / 75 % 7=sz at A W;have O:=Qn (m / 525) (show sz≠0 by omega);have M:=Qk (m / 525) (show 0<sz by omega);generalize m / 525 % sz=av at O M;refine#[(),Q5 _,(),(),cB (λ(i:Nat)=>T.d (.int (i:Int))) (λl E=>∃ns o8 o9,ns.9+l.9=k.toNat/\(∀s∈ns,LZ s)/\(∃n,l=List.range' ns.9 n)/\ns.Nodup/\(∀s∈ns,∃(i:Nat) (d:Nat),i<ns.9/\(Ql "bcdfghjklmnpqrstvwxz").cps.toList[((m / 4200+3 * (i:Int)) % 20).toNat]?=Jr d/\s.cps.toList[av.toNat]?=Jr d)/\E=Oi c k m c1 sz av ns o8 o9) ?_ ?_ _ _ #[[],_,_,by rw[qM,Qr,Wt],λs hs=>(nomatch hs),#[k.toNat,List.range_eq_range'],Qo,λs hs=>(nomatch hs),rfl]];rintro E ⟨ns,o8,o9,hl,u,_,nd,_,rfl⟩;delta Oi;simp![↓zA];exact q ns (by rw[Qr]at hl;omega) u nd
 ·rintro i l E N P ⟨ns,o8,o9,hl,u,⟨n,f⟩,nd,B,rfl⟩
  obtain⟨ei,f⟩:i=ns.9/\∃n,l=List.range' (ns.9+1) n:=by
   cases n with|zero=>cases f|succ n=>rw[List.range'_succ]at f;exact#[(List.cons.inj f).1,n,(List.cons.inj f).2]
  rw[QL]at hl;refine V7 (o8:=bD (.int (i:Int))) (o9:=o9) hm hc A W O M () λs o hs J=>P _ #[ns++[s],_,_,by rw[QM,Qw];omega,λy h=>by rcases QW.mp h with h|h;exact u y h;rw[QI.mp h];exact hs,by rw[QM];exact f,?nd,?B,rfl]
  case nd=>let#[d,I,G]:=J;refine qH.mpr #[nd,Qa.mpr #[WF,Qo],λx z y h e=>?_];rw[QI.mp h]at e;let#[j,L,R,F,C]:=B x z;rw[e,G]at C;cases C;have:=on (Qn _ (by decide)) (Qk _ (by decide)) (Qn _ (by decide)) I F;omega
  case B=>intro x z;rw[QM,Qw];rcases QW.mp z with z|z;let#[j,L,R,F,C]:=B x z;exact#[j,L,(),F,C];let#[d,I,G]:=J;rw[QI.mp z];exact#[i,d,(),I,G]
theorem BZ(o:Ψ.sp "_law_mixed"=tB):EO Ψ KI OJ GM bK:=by
 rintro _ Q _ ⟨c,k,rfl,⟨f,u⟩,q⟩;refine JA [bD (.int c),bD (.int k),Js,Js,Js,Js,Js,Js,Js,Js] ?_;rw[V0];have h:∀(m:Int) (c1:Nat),0<=m->c1<128->_:=λm c1 hm hc=>D7 (Ψ:=Ψ) (c:=c) (m:=m) (c1:=c1) hm f u hc q;generalize xG=r at h;delta XM;simp![↓lA (md:=[]) o rfl rfl,↓zD];refine λm hm=>#[mj,mo (Qn _ (by decide)) (Qk _ (by decide)) λc1 hc=>?_]
 have h:=h m c1 hm hc;split;split
 ·rename_i z
  have z:=Fx z;refine#[(),(),iC (λ(i:Nat)=>T.d (.int (i:Int))) (λi=>.d (.str (hG #[(Wb [c1])] (k - (i:Int))))) _ _ _ (λx y R j=>?_) (by rw[qM,Qr];omega) ?_];simp![↓zA];have y:=Q8.mp y;refine#[(),(),?_,j];show 1 * (k - (x:Int)).toNat<=jz;omega;rw[Qy,LA];have:=q ((Qm k.toNat).map λ(i:Nat)=>hG #[(Wb [c1])] (k - (i:Int))) (by rw[QF,qM]) λs hs=>by let#[i,_,rfl]:=QV.mp hs;exact Sc hc ()
  have this:=this Tc;rw[show((Qm k.toNat).map λ(i:Nat)=>hG #[(Wb [c1])] (k - (i:Int))).map Jx=(Qm k.toNat).map λ(i:Nat)=>Jx (hG #[(Wb [c1])] (k - (i:Int))) by rw[Qh];rfl]at this;exact this
 exact h;exact h
def pr(p:Str×Str):D:=.tuple [.str p.1,.str p.2]
noncomputable def MV(sc h m:Sl)(ns:LS)(es:gB)(o6 o7 o8 o9 o10 o11 Y o13:Option Sl):kA:=[Jr sc,bD (.int 5),Jr h,Jr m,bD (.list (ns.map Jx)),oW (.lst ((es.map pr).map T.d)),o6,o7,o8,o9,o10,o11,Y,o13]
theorem vg{K:D->Prop}(h0:0<=i)(h:i<ns.9)(k:∀s∈ns,K (.str s)):kC (pE (ns.map Jx) i) K :=
 JT h0 (by rw[QF];exact h) λv hv=>by let#[s,hs,rfl]:=QV.mp hv;exact k s hs
theorem gk{l:LJ}{K:D->Prop}(h0:0<=i)(x:i<l.9)(h:∀s∈l,0<s)(k:∀s,0<s->K (.int s)):kC (pE (l.map Jy) i) K :=
 JT h0 (by rw[QF];exact x) λv hv=>by let#[s,hs,rfl]:=QV.mp hv;exact k s (h s hs)
theorem cc{z:Sl}{n a b:Int}(hl:es.9<=200)(B:0<=a)(A:a<ns.9)(W:0<=b)(o:b<ns.9)
  (q:∀es',es'.9<=es.9+1->(∀p∈es',p∈es∨p.1∈ns/\p.2∈ns)->Z.nx (MV sc z (.kw (.d (.int m))) ns es' o6 o7 o8 (bD (.int n)) (bD (.int a)) (bD (.int b)) Y o13)) :
  pF Ψ ME Z (MV sc z (.kw (.d (.int m))) ns es o6 o7 o8 (bD (.int n)) (bD (.int a)) (bD (.int b)) Y o13):=by
 delta MV at q ⊢;delta ME;simp![↓zA];refine#[(),gk (l:=[1,2,4]) (Qn _ (by decide)) (Qk _ (by decide)) (by decide) λd j=>?_];simp![↓zA];refine#[j,?_];split;refine vg B A λx f=>vg W o λy u=>?_;refine#[(),?_,?_];rw[QF,QF];omega;have:=q (es++[(x,y)]) (by rw[QM];exact QX _) λp h=>by rcases QW.mp h with h|h;exact .inl h;rw[QI.mp h];exact .inr #[f,u]
 rw[Qb,Qb]at this;exact this;exact q es (wm _) λp h=>.inl h
theorem Eg(z:Ψ.sp "_law_mixed"=tB){i j:Nat}(hl:es.9<=200)(C:0<ns.9)(F:i<63)(E:j<2)
  (q:∀es' o9 o10 o11,es'.9<=es.9+1->(∀p∈es',p∈es∨p.1∈ns/\p.2∈ns)->Z.nx (MV sc (.kw (.d (.int s))) (.kw (.d (.int m))) ns es' (bD (.int (i:Int))) (bD (.int c)) (bD (.int (j:Int))) o9 o10 o11 Y o13)) :
  pF Ψ YI Z (MV sc (.kw (.d (.int s))) (.kw (.d (.int m))) ns es (bD (.int (i:Int))) (bD (.int c)) (bD (.int (j:Int))) o9 o10 o11 Y o13):=by
 have x:∀n a b:Int,0<=a->a<ns.9->0<=b->b<ns.9->pF Ψ ME Z (MV sc (.kw (.d (.int s))) (.kw (.d (.int m))) ns es (bD (.int (i:Int))) (bD (.int c)) (bD (.int (j:Int))) (bD (.int n)) (bD (.int a)) (bD (.int b)) Y o13):=λn a b B A W o=>cc hl B A W o λes' f u=>q es' _ _ _ f u;have h:(0:Int)<ns.length:=()
 delta MV at x ⊢;delta YI;simp?[↓lA (md:=[]) z rfl rfl];refine#[DL.ok (.inl #[by decide,by decide]),QED zD #[#[(),()],λn y=>?_]];simp![QF];refine#[h,h,?_];split;exact#[h,x _ _ _ (Qn _ ()) (Qk _ h) (Qn _ ()) (Qk _ h)];exact x _ _ _ (Qn _ ()) (Qk _ h) (Qn _ ()) (Qk _ h)
theorem Ag(R:Ψ.sp "_law_mixed"=tB){i:Nat}(hl:es.9<=126)(L:0<ns.9)(O:i<63)
  (q:∀es' o8 o9 o10 o11,es'.9<=es.9+2->(∀p∈es',p∈es∨p.1∈ns/\p.2∈ns)->Z.nx (MV sc (.kw (.d (.int s))) (.kw (.d (.int m))) ns es' (bD (.int (i:Int))) (bD (.int c)) o8 o9 o10 o11 Y o13)) :
  pF Ψ JI Z (MV sc (.kw (.d (.int s))) (.kw (.d (.int m))) ns es (bD (.int (i:Int))) (bD (.int c)) o8 o9 o10 o11 Y o13):=by
 delta MV;delta JI;simp![↓zA];have G:=Qn (m / 5000) (show(2:Int)≠0 by decide);have F:=Qk (m / 5000) (show(0:Int)<2 by decide);generalize m / 5000 % 2=t at G F;refine#[(),(),cB (λ(j:Nat)=>T.d (.int (j:Int))) (λl y=>∃es' o8 o9 o10 o11,(∀j∈l,j<2)/\es'.9+l.9<=es.9+2/\(∀p∈es',p∈es∨p.1∈ns/\p.2∈ns)/\y=MV sc (.kw (.d (.int s))) (.kw (.d (.int m))) ns es' (bD (.int (i:Int))) (bD (.int c)) o8 o9 o10 o11 Y o13) ?_ ?_ _ _ #[es,_,_,_,_,λj M=>by have:=Q8.mp M;omega,by rw[qM];omega,λp W=>.inl W,rfl]];rintro y ⟨es',J,o,x,h,_,C,B,rfl⟩;exact q es' _ o x h (by rw[Qr]at C;omega) B;rintro j l y N P ⟨es',J,o,x,h,E,C,B,rfl⟩;rw[QL]at C;exact Eg (j:=j) (o9:=o) (o10:=x) (o11:=h) R () L O (E j QD) λA I f u H S=>P _ #[A,_,I,f,u,λk hk=>E k (QC _ hk),(),λp W=>by rcases S p W with z|z;exact B p z;exact .inr z,rfl]
noncomputable def C5(sc:Sl)(s m:Int)(ns:LS)(es:gB)(st:LS)(o6 o7 o8 o9 o10 o11 o13:Option Sl):kA:=[Jr sc,bD (.int 5),bD (.int s),bD (.int m),bD (.list (ns.map Jx)),oW (.lst ((es.map pr).map T.d)),o6,o7,o8,o9,o10,o11,oW (.lst ((st.map Jx).map T.d)),o13]
theorem Sg(f:Ψ.sp "_law_mixed"=tB){i:Nat}{x:Str}(hl:st.9<=10)(j:i<10)
  (y:Z.nx (C5 sc s m ns es st (bD (.int (i:Int))) o7 o8 o9 o10 o11 (bD (.str x))))
  (h:Z.nx (C5 sc s m ns es (st++[x]) (bD (.int (i:Int))) o7 o8 o9 o10 o11 (bD (.str x)))) :
  pF Ψ iI Z (C5 sc s m ns es st (bD (.int (i:Int))) o7 o8 o9 o10 o11 (bD (.str x))):=by
 delta C5 at y h ⊢;delta iI;simp?[↓lA (md:=[]) f rfl rfl];refine QED zD #[#[(),()],λn z=>?_];simp![↓zA];refine#[(),gk (l:=[2,3,2,6]) (Qn _ (by decide)) (Qk _ (by decide)) (by decide) λd u=>?_];simp![↓zA];refine#[u,?_];split;refine#[by rw[QF,QF];omega,?_];rw[Qb,Qb]at h;exact h;exact y
def Vk(ns:LS)(es:gB)(st:LS)(g:Str):Prop:=ns.9<=5/\(∀s∈ns,LZ s)/\es.9<=126/\(∀p∈es,p.1∈ns/\p.2∈ns)/\st.9<=11/\(∀s∈st,s∈ns)/\g∈ns
noncomputable def Ig(ns:LS)(es:gB)(st:LS)(g:Str):D:=.tuple [.list (ns.map Jx),.list (es.map pr),.list (st.map Jx),.str g]
theorem bc(u:0<ns.9)(q:∀g∈ns,Q (.d (Ig ns es st g)) []) :
  pF Ψ OG (eZ Q) (C5 sc s m ns es st o6 o7 o8 o9 o10 o11 o13):=by
 have h:(0:Int)<ns.length:=()
 delta C5;delta OG;simp?[QF];have z:(T.lst ((es.map pr).map T.d)).er=.list (es.map pr):=by show PyData.list (ersT ((es.map pr).map T.d))=_;rw[KA]
 have y:(T.lst ((st.map Jx).map T.d)).er=.list (st.map Jx):=by show PyData.list (ersT ((st.map Jx).map T.d))=_;rw[KA]
 rw[z,y];exact#[h,vg (Qn _ ()) (Qk _ h) λg x=>#[(),q g x]]
theorem lO{α:Type}(l:List α)(k:Nat):(nD l Js (Jr (k:Int))).9<=k:=by
 unfold nD;rw[WE];have:HT.sIx l.9 l.9 (Jr (k:Int))<=k:=by unfold HT.sIx;simp only;split<;>omega
 omega
theorem C8{α:Type}{l:List α}{a b:Option Int}{x:α}(h:x∈nD l a b):x∈l:=QAA (List.mem_of_mem_take h)
theorem gO{α h:Type}(f:α->h)(l:List α)(a b:Option Int):nD (l.map f) a b=(nD l a b).map f:=by unfold nD;rw[QF,List.map_take,QDE]
theorem eR{α:Type}{l:List α}{p:α×Nat}(h:p∈l.zipIdx):p.2<l.9/\p.1∈l:=by have h:=List.mem_zipIdx_iff_getElem?.mp h;exact#[(Qd.mp h).1,Qq h]
def LR:PSp where
 md:=[.kz]
 run:=λh Q _=>∃x:LJ,h=[.lst ((x.map Jy).map T.d),.d (.int 5)]/\∀ns es st g,Vk ns es st g->ns.Nodup->Q (.d (Ig ns es st g)) []
theorem ke(h0:Ψ.sp "_law_fold"=OF)(G:Ψ.sp "_law_mixed"=tB)(h2:Ψ.sp "_law_names"=OJ):EO Ψ JO LR CV UP:=by
 rintro _ Q _ ⟨o,rfl,q⟩;refine JA [Jr (.kw (.lst ((o.map Jy).map T.d))),bD (.int 5),Js,Js,Js,Js,Js,Js,Js,Js,Js,Js,Js,Js] ?_;delta JO;simp![↓lA (md:=[.kz]) h0 rfl rfl,↓lA (md:=[]) G rfl rfl,↓lA (md:=[]) h2 rfl rfl];refine QED JP λv=>?_;simp![↓lA (md:=[]) G rfl rfl,↓lA (md:=[]) h2 rfl rfl];refine QED zD #[#[by decide,by decide],λm hm=>?_];simp![↓lA (md:=[]) h2 rfl rfl];have k0:=Qn m (show(5 - 1:Int)≠0 by decide);have k1:=Qk m (show(0:Int)<5 - 1 by decide);refine#[by decide,#[_,_,rfl,#[(),()],λns hnl H hnd=>?_]];have hn9:ns.9<=5:=()
 have C:0<ns.length:=()
 simp![↓zA];rw[gO];refine#[Q5 _,cB (λ(p:D×Nat)=>T.d (.tuple [.int (p.2:Int),p.1])) (λl f=>∃es o6 o7 o8 o9 o10 o11,(∀p∈l,p.2<63/\∃c,p.1=.int c)/\es.9+2 * l.9<=126/\(∀p∈es,p.1∈ns/\p.2∈ns)/\f=MV (.kw (.lst ((o.map Jy).map T.d))) (.kw (.d (.int v))) (.kw (.d (.int m))) ns es o6 o7 o8 o9 o10 o11 Js Js) ?_ ?_ _ _ #[[],_,_,_,_,_,_,λp u=>?_,?_,λp u=>(nomatch u),rfl]];rintro f ⟨es,o6,o7,o8,o9,o10,o11,_,el,j,rfl⟩;delta MV;simp![↓zA];refine#[Q5 _,cB (λ(p:D×Nat)=>T.d (.tuple [.int (p.2:Int),p.1])) (λl f=>∃st o6 o13,(∀p∈l,p.2<10/\∃x∈ns,p.1=.str x)/\st.9+l.9<=10/\(∀s∈st,s∈ns)/\f=C5 (.kw (.lst ((o.map Jy).map T.d))) v m ns es st o6 (JF o7) o8 o9 o10 o11 o13) ?_ ?_ _ _ #[[],_,_,λp u=>?_,?_,λp u=>(nomatch u),rfl]];rintro f ⟨st,O,B,_,J,W,rfl⟩;rw[Qr]at J;have S:=λ(st:LS) (s1:st.9<=11) (s2:∀s∈st,s∈ns)=>bc (Ψ:=Ψ) (sc:=.kw (.lst ((o.map Jy).map T.d))) (s:=v) (m:=m) (es:=es) (st:=st) (o6:=JF O) (o7:=JF o7) (o8:=o8) (o9:=o9) (o10:=o10) (o11:=o11) (o13:=JF B) C λg hg=>q ns es st g #[hn9,H,by rw[Qr]at el;omega,j,s1,s2,hg] hnd;unfold C5 at S;delta C5;simp![↓zA];split;rw[gO];have c1:=lO st 1;refine#[by rw[QF,QF];show st.9+(nD st Js (Jr ((1:Nat):Int))).9<=_;omega,?_];have:=S (st++nD st Js (Jr 1)) (by rw[QM];show st.9+(nD st Js (Jr ((1:Nat):Int))).9<=_;omega) λs hs=>by rcases QW.mp hs with h|h;exact W s h;exact W s (C8 h)
 rw[Qb]at this;exact this;exact S st () W;rintro⟨x,i⟩ l f N F ⟨st,O,B,A,J,W,rfl⟩;let#[hi,y,hy,e]:=A _ QD;have e:x=.str y:=e;subst e;rw[QL]at J;refine kC.mk rfl ?_;exact Sg (i:=i) (x:=y) G () hi (F _ #[st,_,_,λp u=>A p (QC _ u),(),W,rfl]) (F _ #[st++[y],_,_,λp u=>A p (QC _ u),by rw[QM,Qw];omega,λs hs=>by rcases QW.mp hs with h|h;exact W s h;rw[QI.mp h];exact hy,rfl]);let#[E,I]:=eR u;rw[QF]at E;let#[x,hx,e]:=QV.mp I;exact#[(),x,hx,e.symm];rw[QBT,QF,Qr];omega;rintro⟨x,i⟩ l f N F ⟨es,O,p7,p8,p9,R,P,A,el,j,rfl⟩;let#[hi,c,e]:=A _ QD;have e:x=.int c:=e;subst e;rw[QL]at el;refine kC.mk rfl ?_;exact Ag (i:=i) (c:=c) (o8:=p8) (o9:=p9) (o10:=R) (o11:=P) G () C hi λes' r8 r9 M L f1 f2=>F _ #[es',_,_,r8,r9,M,L,λp u=>A p (QC _ u),(),λp u=>by rcases f2 p u with z|z;exact j p z;exact z,rfl];let#[E,I]:=eR u;have c1:=lO o 63;rw[QF]at E;let#[x,hx,e]:=QV.mp I;exact#[Qt E c1,x,e.symm];have c1:=lO o 63;rw[QBT,QF,Qr];have c1:(nD o Js (Jr 63)).9<=63:=c1;omega
theorem cO(a b:Str):qE (.str a) (.str b)=decide (a=b):=by rw[qd,Fy];simp[qE]
theorem cC(l:LS)(z:Str):((l.map Jx).any λy=>qE y (.str z))=decide (z∈l):=by rw[List.any_map,qd,QAx,Fy];constructor;rintro⟨x,u,e⟩;have e:qE (.str x) (.str z)=true:=e;rw[cO,Fy]at e;exact e▸u;intro h;exact#[z,h,by show qE (.str z) (.str z)=Jt;rw[cO];exact dT rfl]
theorem CB(l:LS):(l.map Jx).all FA=true:=by rw[List.all_map,qN];exact λ_ _=>rfl
noncomputable def m8(g:Str)(cut:LS)(s:Str):Bool:=!decide (s=g)&&!decide (s∈cut)
inductive Led(es:gB)(st:LS)(g:Str)(cut:LS):Str->Prop
 |st {s:Str}:s∈st->m8 g cut s=Jt->Led es st g cut s
 |ed {a b:Str}:Led es st g cut a->(a,b)∈es->m8 g cut b=Jt->Led es st g cut b
theorem nC:∀{ks ns:LS},ks.Nodup->(∀s∈ks,s∈ns)->ks.9<=ns.9
 |[],_,_,_=>Q5 _|s::r,ns,h,hs=>by let#[u,z]:=Qa.mp h;have hm:=hs s QD;have:=nC (ks:=r) (ns:=ns.erase s) z λx y=>(W9 (λ(e:x=s)=>u (e▸y))).mpr (hs x (QC _ y));rw[WW hm]at this;have f:=wP hm;rw[QL];omega
noncomputable abbrev Pt:=Str×Str
theorem pN(h:pr p=pr q):p=q:=by let#[a,b]:=p;let#[c,d]:=q;injection h with h;injection h with h1 h;injection h with h2 _;injection h1 with h1;injection h2 with h2;exact QEE h1 h2
theorem v3{x k:D}{r:List D}(h:x≠k):dA (x::r) k=(dA r k).map (·+1):=by unfold dA;rw[hI h];cases r<;>rfl
theorem ca{x k:D}{r:List D}(h:x=k):dA (x::r) k=Jr 0:=by unfold dA;rw[hQ h]
noncomputable def look{α:Type}:List (Pt×α)->Pt->Option α
 |[],_=>Js|e::l,p=>if e.1=p then Jr e.2 else look l p
noncomputable def put{α:Type}:List (Pt×α)->Pt->α->List (Pt×α)
 |[],p,v=>[(p,v)]|e::l,p,v=>if e.1=p then(e.1,v)::l else e::put l p v
def CC{α:Type}(l:List (Pt×α)):List D:=l.map λe=>pr e.1
theorem tI{α:Type}{p:Pt}:∀{l:List (Pt×α)},look l p=Js->dA (CC l) (pr p)=Js/\∀w,put l p w=l++[(p,w)]
 |[],_=>#[rfl,λ_=>rfl]|e::l,h=>by unfold look at h;by_cases c:e.1=p;rw[hQ c]at h;cases h;rw[hI c]at h;let#[y,x]:=tI h;refine#[?_,λw=>?_];show dA (pr e.1::CC l) (pr p)=Js;rw[v3 (λz=>c (pN z)),y];rfl;show(if e.1=p then(e.1,w)::l else e::put l p w)=_;rw[hI c,x];rfl
theorem sC{α:Type}{p:Pt}{v:α}(f:α->T):∀{l:List (Pt×α)},look l p=Jr v->∃n,dA (CC l) (pr p)=Jr n/\(l.map λe=>f e.2)[n]?=Jr (f v)/\∀w,CC (put l p w)=CC l/\(l.map λe=>f e.2).set n (f w)=(put l p w).map λe=>f e.2
 |[],h=>by cases h|e::l,h=>by unfold look at h;by_cases c:e.1=p;rw[hQ c]at h;injection h with h;refine#[0,?_,?_,λw=>?_];exact ca (Fz pr c);show Jr (f e.2)=_;rw[h];have:put (e::l) p w=(e.1,w)::l:=hQ c;rw[this];exact#[rfl,rfl];rw[hI c]at h;let#[n,o,j,u]:=sC f h;refine#[n+1,?_,j,λw=>?_];show dA (pr e.1::CC l) (pr p)=Jr (n+1);rw[v3 (λz=>c (pN z)),o];rfl;have:put (e::l) p w=e::put l p w:=hI c;rw[this];let#[y,x]:=u w;refine#[?_,?_];show pr e.1::CC (put l p w)=pr e.1::CC l;rw[y];show f e.2::(l.map λe=>f e.2).set n (f w)=f e.2::(put l p w).map λe=>f e.2;rw[x]
theorem lD{α:Type}{p q:Pt}{w:α}:∀{l:List (Pt×α)},look (put l p w) q=if p=q then Jr w else look l q
 |[]=>rfl|e::l=>by
  by_cases c:e.1=p;have h:put (e::l) p w=(e.1,w)::l:=hQ c;rw[h];show(if e.1=q then Jr w else look l q)=if p=q then Jr w else(if e.1=q then Jr e.2 else look l q)
  rw[c];split<;>rfl;have h:put (e::l) p w=e::put l p w:=hI c;rw[h];show(if e.1=q then Jr e.2 else look (put l p w) q)=if p=q then Jr w else(if e.1=q then Jr e.2 else look l q)
  rw[lD];by_cases d:e.1=q;rw[hQ d,hQ d,hI (λz=>c (d.trans z.symm))];rw[hI d,hI d]
theorem sU{α:Type}{p:Pt}{w:α}:∀{l:List (Pt×α)},(put l p w).9<=l.9+1
 |[]=>QX _|e::l=>by by_cases c:e.1=p;rw[show put (e::l) p w=(e.1,w)::l from hQ c,QL,QL];omega;have:=sU (p:=p) (w:=w) (l:=l);rw[show put (e::l) p w=e::put l p w from hI c,QL,QL];omega
theorem pC(p:Pt):vF Jt (pr p):=#[[.inr p.1,.inr p.2],rfl]
noncomputable abbrev Inn:=List (Pt×Int)
noncomputable abbrev Rm:=List (Pt×Inn)
noncomputable def mD(l:Inn):T:=.dct Jt (CC l) (l.map λe=>T.d (.int e.2))
def kB(r:Rm):T:=.dct Jt (CC r) (r.map λe=>mD e.2)
def sdf(r:Rm)(p:Pt):Rm:=match look r p with
 |some _=>r|none=>r++[(p,[])]
theorem cU{Q:T->Prop}(hl:r.9<jz)(q:Q (kB (sdf r p))):Hh (.d (pr p)) (kB r) Q:=by
 refine#[CC r,_,rfl,pC p,by unfold CC;rw[QF];exact hl,?_];unfold sdf at q;cases h:look r p with
 |some v=>rw[h]at q;let#[n,x,_]:=sC mD h;exact .inl #[n,x,q]|none =>
  rw[h]at q;refine .inr #[(tI h).1,?_];have e:kB (r++[(p,[])])=.dct Jt (CC r++[pr p]) ((r.map λe=>mD e.2)++[.dct Jt [] []]):=by unfold kB CC;rw[Qb,Qb];rfl
  show Q (T.dct Jt (CC r++[pr p]) ((r.map λe=>mD e.2)++[.dct Jt [] []]));rw[<- e];exact q
theorem zN{Q:T->Prop}(hl:l.9<jz)(q:Q (mD (put l p v))):Kh (mD l) (.d (pr p)) (.d (.int v)) Q:=by
 refine#[pC p,by unfold CC;rw[QF];exact hl,?_];have e:yS Jt (CC l) (l.map λe=>T.d (.int e.2)) (pr p) (.d (.int v))=mD (put l p v):=by
  unfold yS;cases h:look l p with|none=>let#[x,y]:=tI h;rw[x,y];unfold mD CC;rw[Qb,Qb];rfl|some u=>let#[n,x,y,j]:=sC (λi:Int=>T.d (.int i)) h;rw[x];let#[f,z]:=j v;show T.dct Jt (CC l) ((l.map λe=>T.d (.int e.2)).set n (T.d (.int v)))=_;unfold mD;rw[f,z]
 show Q (yS Jt (CC l) (l.map λe=>T.d (.int e.2)) (pr p) (.d (.int v)));rw[e];exact q
theorem bH{Q:T->(T->T)->Prop}(h:look r p=Jr l)(q:∀f:T->T,(∀x,f (mD x)=kB (put r p x))->Q (mD l) f):Jh (.d (pr p)) (kB r) Q:=by let#[n,o,j,u]:=sC mD h;refine#[Jt,CC r,_,n,mD l,rfl,pC p,o,j,q _ λx=>?_];let#[z,y]:=u x;show T.dct Jt (CC r) ((r.map λe=>mD e.2).set n (mD x))=_;unfold kB;rw[z,y]
def sA:Pt:=("","begin")
def tO(n:Str):Pt:=(n,"to")
def fR(n:Str):Pt:=(n,"from")
theorem Zm:("begin":Str)≠"to":=by decide +kernel
theorem Km:("begin":Str)≠"from":=by decide +kernel
theorem Ym:("to":Str)≠"from":=by decide +kernel
theorem NB:sA≠tO a:=λh=>Zm (Fz Prod.snd h)
theorem gE:sA≠fR a:=λh=>Km (Fz Prod.snd h)
theorem CA:tO a≠fR b:=λh=>Ym (Fz Prod.snd h)
theorem XB(h:tO a=tO b):a=b:=Fz wl h
theorem LG(h:fR a=fR b):a=b:=Fz wl h
def HX(p q:Pt):Prop:=(p=sA/\∃n,q=tO n)∨(∃n,p=tO n/\q=fR n)∨(∃a b,a≠b/\p=fR a/\q=tO b)
theorem UE(h:HX p q):¬ HX q p:=by
 rintro k;rcases h with⟨rfl,n,rfl⟩| ⟨n,rfl,rfl⟩| ⟨a,b,u,rfl,rfl⟩<;>rcases k with⟨x,m,y⟩| ⟨m,x,y⟩| ⟨c,d,z,x,y⟩
 exact NB x.symm;exact gE y;exact CA x;exact gE x.symm;exact CA x.symm;exact z ((LG x).symm.trans (XB y));exact NB x.symm;exact u ((LG y).trans (XB x).symm);exact CA x
theorem eF(h:HX p q):p≠q:=λe=>UE h (by rw[e]at h ⊢;exact h)
noncomputable abbrev Wy:=Pt×Pt×Int
def lk(r:Rm)(p:Pt):Inn:=(look r p).getD []
def eB(r:Rm)(w:Wy):Rm:=put (put (sdf (sdf r w.1) w.2.1) w.1 (put (lk (sdf (sdf r w.1) w.2.1) w.1) w.2.1 w.2.2)) w.2.1 (put (lk (put (sdf (sdf r w.1) w.2.1) w.1 (put (lk (sdf (sdf r w.1) w.2.1) w.1) w.2.1 w.2.2)) w.2.1) w.1 0)
theorem cQ{α:Type}{p q:Pt}{v:α}:∀{l:List (Pt×α)},look (l++[(p,v)]) q=(look l q).or (if p=q then Jr v else Js)
 |[]=>rfl|e::l=>by show(if e.1=q then Jr e.2 else look (l++[(p,v)]) q)=(if e.1=q then Jr e.2 else look l q).or (if p=q then Jr v else Js);by_cases c:e.1=q;rw[hQ c,hQ c];rfl;rw[hI c,hI c];exact cQ
theorem bQ:look (sdf r p) q=(look r q).or (if p=q then Jr [] else Js):=by
 unfold sdf;cases h:look r p with
 |some v =>
  show look r q=_;cases y:look r q with
  |some x=>rfl|none =>
   show Js=if p=q then Jr [] else Js
   rw[hI];intro e;rw[e,y]at h;cases h
 |none=>show look (r++[(p,[])]) q=_;exact cQ
theorem fN:(sdf r p).9<=r.9+1:=by unfold sdf;split;omega;rw[QM,Qw];omega
theorem oH{α:Type}{p:Pt}{w:α}{e:Pt×α}:∀{l:List (Pt×α)},e∈put l p w->e=(p,w)∨e∈l
 |[],h=>.inl (QI.mp h)|x::l,h=>by by_cases c:x.1=p;rw[show put (x::l) p w=(x.1,w)::l from hQ c]at h;rcases QK.mp h with h|h;exact .inl (by rw[h,c]);exact .inr (QC _ h);rw[show put (x::l) p w=x::put l p w from hI c]at h;rcases QK.mp h with h|h;exact .inr (by rw[h];exact QD);exact(oH h).imp_right (QC _)
theorem nN{α:Type}{p:Pt}{w:α}{q:Pt}:∀{l:List (Pt×α)},(∃v,(q,v)∈put l p w)↔q=p∨∃v,(q,v)∈l
 |[]=>by
  constructor;rintro⟨v,h⟩;exact .inl (Fz wl (QI.mp h));rintro(rfl|⟨v,h⟩)
  ·exact#[w,QI.mpr rfl]
  exact(nomatch h)
 |x::l=>by
  by_cases c:x.1=p;rw[show put (x::l) p w=(x.1,w)::l from hQ c];constructor;rintro⟨v,h⟩;rcases QK.mp h with h|h;exact .inl ((Fz wl h).trans c);exact .inr #[v,QC _ h];rintro(rfl|⟨v,h⟩)
  ·exact#[w,by rw[c];exact QD]
  rcases QK.mp h with h|h
  ·exact#[w,by rw[<- h];exact QD]
  exact#[v,QC _ h];rw[show put (x::l) p w=x::put l p w from hI c];have y:=nN (p:=p) (w:=w) (q:=q) (l:=l);constructor;rintro⟨v,h⟩;rcases QK.mp h with h|h;exact .inr #[v,by rw[h];exact QD];exact(y.mp #[v,h]).imp_right λ#[v,h]=>#[v,QC _ h]
  rintro(h|⟨v,h⟩)
  ·let#[v,h]:=y.mpr (.inl h)
   exact#[v,QC _ h]
  rcases QK.mp h with h|h
  ·exact#[v,by rw[h];exact QD]
  let#[v,h]:=y.mpr (.inr #[v,h]);exact#[v,QC _ h]
def LX(r:Rm)(p q:Pt):Prop:=∃v,(q,v)∈lk r p
def Key(r:Rm)(p:Pt):Prop:=∃l,look r p=Jr l
def Pos(r:Rm):Prop:=∀p,∀e∈lk r p,(0<e.2↔HX p e.1)
def V5(r:Rm):Prop:=∀p q,LX r p q->Key r q
def Sz(r:Rm)(n:Nat):Prop:=r.9<=n/\∀p,(lk r p).9<=n
theorem OD:lk (put r p l) q=if p=q then l else lk r q:=by unfold lk;rw[lD];split<;>rfl
theorem ND:lk (sdf r p) q=lk r q:=by
 unfold lk;rw[bQ];cases look r q with|some x=>rfl|none=>show(if p=q then Jr [] else Js).getD []=[];split<;>rfl
theorem BH:Key (put r p l) q↔p=q∨Key r q:=by unfold Key;rw[lD];by_cases h:p=q;rw[hQ h];exact#[λ_=>.inl h,λ_=>#[_,rfl]];rw[hI h];exact#[.inr,λz=>z.resolve_left h]
theorem BD:Key (sdf r p) q↔p=q∨Key r q:=by
 unfold Key;rw[bQ];cases look r q with|some x=>exact#[λ_=>.inr #[_,rfl],λ_=>#[_,rfl]]|none=>show(∃l,(if p=q then Jr [] else Js)=Jr l)↔_;by_cases h:p=q;rw[hQ h];exact#[λ_=>.inl h,λ_=>#[_,rfl]];rw[hI h];exact#[λ#[_,e]=>(nomatch e),λz=>(z.resolve_left h)]
theorem XH(h:w.1≠w.2.1)(p:Pt):lk (eB r w) p=if w.2.1=p then put (lk r p) w.1 0 else if w.1=p then put (lk r p) w.2.1 w.2.2 else lk r p:=by unfold eB;rw[OD,OD,OD,ND,ND,ND,ND,hI h,ND,ND];by_cases y:w.2.1=p;rw[hQ y,hQ y,y];rw[hI y,hI y];by_cases x:w.1=p;rw[hQ x,hQ x,x];rw[hI x,hI x]
theorem YF:Key (eB r w) p↔p=w.1∨p=w.2.1∨Key r p:=by
 unfold eB;rw[BH,BH,BD,BD];constructor;rintro(h|h|h|h|h)
 ·exact .inr (.inl h.symm)
 exact .inl h.symm;exact .inr (.inl h.symm);exact .inl h.symm;exact .inr (.inr h);rintro(h|h|h)
 ·exact .inr (.inl h.symm)
 exact .inl h.symm;exact .inr (.inr (.inr (.inr h)))
theorem GH(h:w.1≠w.2.1):LX (eB r w) p q↔LX r p q∨(p=w.1/\q=w.2.1)∨(p=w.2.1/\q=w.1):=by
 unfold LX;rw[XH h];by_cases x:w.2.1=p;rw[hQ x,nN];constructor;rintro(e|e)
 ·exact .inr (.inr #[x.symm,e])
 exact .inl e;rintro(e|⟨u,y⟩| ⟨u,y⟩)
 ·exact .inr e
 exact h7 (u.symm.trans x.symm) h;exact .inl y;rw[hI x];by_cases f:w.1=p;rw[hQ f,nN];constructor;rintro(e|e)
 ·exact .inr (.inl #[f.symm,e])
 exact .inl e;rintro(e|⟨u,y⟩| ⟨u,y⟩)
 ·exact .inr e
 exact .inl y;exact h7 u.symm x;rw[hI f];exact#[.inl,λz=>z.elim id λz=>z.elim (λe=>h7 e.1.symm f) λe=>h7 e.1.symm x]
def MF(w:Wy):Prop:=HX w.1 w.2.1/\0<w.2.2
theorem zZ(g:MF w)(y:Pos r):Pos (eB r w):=by intro p e h;rw[XH (eF g.1)]at h;by_cases f:w.2.1=p;rw[hQ f]at h;rcases oH h with z|z;rw[z,<- f];exact#[λx=>h7 x (Wg 0),λx=>h7 x (UE g.1)];exact y p e z;rw[hI f]at h;by_cases u:w.1=p;rw[hQ u]at h;rcases oH h with z|z;rw[z,<- u];exact#[λ_=>g.1,λ_=>g.2];exact y p e z;rw[hI u]at h;exact y p e h
theorem U3(g:MF w)(x:V5 r):V5 (eB r w):=by
 intro p q h;rw[YF];rcases(GH (eF g.1)).mp h with h|⟨_,h⟩| ⟨_,h⟩
 exact .inr (.inr (x p q h));exact .inr (.inl h);exact .inl h
theorem yK{α:Type}{w:α}{l:List (Pt×α)}(h:l.9<=n):(put l p w).9<=n+1:=Qf sU ()
theorem oN{α:Type}{p:Pt}{w:α}:∀{l:List (Pt×α)},(look l p).isSome=Jt->(put l p w).9=l.9
 |[],h=>by cases h|e::l,h=>by by_cases c:e.1=p;rw[show put (e::l) p w=(e.1,w)::l from hQ c];rfl;rw[show put (e::l) p w=e::put l p w from hI c,QL,QL];rw[show look (e::l) p=look l p from hI c]at h;rw[oN h]
theorem pQ(h:Key r p):(look r p).isSome=true:=by let#[l,e]:=h;rw[e];rfl
theorem K1:(eB r w).9<=r.9+2:=by have x:Key (sdf (sdf r w.1) w.2.1) w.1:=BD.mpr (.inr (BD.mpr (.inl rfl)));have h:Key (sdf (sdf r w.1) w.2.1) w.2.1:=BD.mpr (.inl rfl);unfold eB;rw[oN (pQ (BH.mpr (.inr h))),oN (pQ x)];have:=fN (r:=r) (p:=w.1);have:=fN (r:=sdf r w.1) (p:=w.2.1);omega
theorem uH(g:w.1≠w.2.1)(h:Sz r n):Sz (eB r w) (n+2):=by
 refine#[Qf K1 (by have:=h.1;omega),λp=>?_];rw[XH g];have x:=h.2 p;split;exact Qf (yK x) ();split
 ·exact Qf (yK x) ()
 omega
theorem rV:∀{ws:List Wy}{r:Rm},(∀w∈ws,MF w)->∀{p q:Pt},LX (ws.foldl eB r) p q↔LX r p q∨(∃v,(p,q,v)∈ws)∨∃v,(q,p,v)∈ws
 |[],r,_,p,q=>#[.inl,λz=>z.elim id λz=>z.elim (λ#[_,z]=>(nomatch z)) λ#[_,z]=>(nomatch z)]
 |w::ws,r,h,p,q=>by
  rw[wc,rV (λw x=>h w (QC _ x)),GH (eF (h w QD).1)];constructor;rintro((z|⟨rfl,rfl⟩| ⟨rfl,rfl⟩)|⟨v,z⟩| ⟨v,z⟩)
  ·exact .inl z
  exact .inr (.inl #[_,QD]);exact .inr (.inr #[_,QD]);exact .inr (.inl #[v,QC _ z]);exact .inr (.inr #[v,QC _ z]);rintro(z|⟨v,z⟩| ⟨v,z⟩)
  ·exact .inl (.inl z)
  rcases QK.mp z with z|z
  ·rw[<- z]
   exact .inl (.inr (.inl #[rfl,rfl]))
  exact .inr (.inl #[v,z]);rcases QK.mp z with z|z
  ·rw[<- z]
   exact .inl (.inr (.inr #[rfl,rfl]))
  exact .inr (.inr #[v,z])
theorem vR:∀{ws:List Wy}{r:Rm}{n:Nat},(∀w∈ws,MF w)->Pos r->V5 r->Key r sA->Sz r n->Pos (ws.foldl eB r)/\V5 (ws.foldl eB r)/\Key (ws.foldl eB r) sA/\Sz (ws.foldl eB r) (n+2 * ws.9)
 |[],r,n,_,h1,h2,h3,h4=>#[h1,h2,h3,h4]|w::ws,r,n,h,h1,h2,h3,h4=>by have g:=h w QD;have:=vR (ws:=ws) (r:=eB r w) (n:=n+2) (λw x=>h w (QC _ x)) (zZ g h1) (U3 g h2) (YF.mpr (.inr (.inr h3))) (uH (eF g.1) h4);rw[wc,QL,show n+2 * (ws.9+1)=n+2+2 * ws.9 by omega];exact this
noncomputable def RO(g:Str)(n:Str):List Wy:=if n=g then[] else[(tO n,fR n,1),(sA,tO n,2)]
noncomputable def rR(g:Str)(e:Str×Str):List Wy:=if e.1=g∨e.1=e.2 then[] else[(tO e.1,fR e.1,1),(tO e.2,fR e.2,1),(fR e.1,tO e.2,2)]
def nG:Rm:=[(sA,[])]
def jA(es:gB)(st:LS)(g:Str):Rm:=(es.flatMap (rR g)).foldl eB ((st.flatMap (RO g)).foldl eB nG)
theorem Pl:(0:Int)<1:=by decide
theorem Jp:(0:Int)<2:=by decide
theorem UT{n:Str}:(RO g n).9<=2:=by unfold RO;split;exact Q5 _;exact QX _
theorem CT:(rR g e).9<=3:=by unfold rR;split;exact Q5 _;exact QX _
theorem YJ{n:Str}:∀w∈RO g n,MF w:=by
 intro w h;unfold RO at h;split at h;exact(nomatch h);rcases QK.mp h with rfl|h
 ·exact#[.inr (.inl #[n,rfl,rfl]),Pl]
 rw[QI.mp h];exact#[.inl #[rfl,n,rfl],Jp]
theorem ZJ:∀w∈rR g e,MF w:=by
 intro w x;unfold rR at x;split at x;exact(nomatch x);rename_i h;rcases QK.mp x with rfl|x;exact#[.inr (.inl #[e.1,rfl,rfl]),Pl];rcases QK.mp x with rfl|x
 ·exact#[.inr (.inl #[e.2,rfl,rfl]),Pl]
 rw[QI.mp x];exact#[.inr (.inr #[e.1,e.2,λz=>h (.inr z),rfl,rfl]),Jp]
theorem OK{α:Type}{f:α->List Wy}{k:Nat}(h:∀x,(f x).9<=k):∀(l:List α),(l.flatMap f).9<=k * l.9
 |[]=>QX _|x::l=>by have:=OK h l;have:=h x;rw[QAl,QM,QL,Nat.mul_succ];omega
theorem vG{α:Type}{f:α->List Wy}(h:∀x,∀w∈f x,MF w)(l:List α):∀w∈l.flatMap f,MF w:=λw z=>by let#[x,_,y]:=QA0.mp z;exact h x w y
structure RmOk(r:Rm)(n:Nat):Prop where
 pos:Pos r
 dom:V5 r
 bg:Key r sA
 sz:Sz r n
theorem jE:RmOk nG 1:=by
 have e:∀p,lk nG p=[]:=λp=>by show(if sA=p then Jr [] else Js).getD []=[];split<;>rfl
 refine#[λp y x=>?_,λp q #[v,h]=>?_,#[[],hQ rfl],QX _,λp=>?_];rw[e]at x;exact(nomatch x);rw[e]at h;exact(nomatch h);rw[e];exact Q5 _
theorem RmOk.add{r:Rm}{n:Nat}(h:RmOk r n){ws:List Wy}(g:∀w∈ws,MF w):RmOk (ws.foldl eB r) (n+2 * ws.9):=by let#[u,z,y,x]:=vR g h.pos h.dom h.bg h.sz;exact#[u,z,y,x]
theorem OP(z:es.9<=126)(y:st.9<=11):RmOk (jA es st g) 1000:=by have a:=(jE.add (vG (f:=RO g) (λ_=>YJ) st)).add (vG (f:=rR g) (λ_=>ZJ) es);have x:=OK (f:=RO g) (k:=2) (λ_=>UT) st;have h:=OK (f:=rR g) (k:=3) (λ_=>CT) es;exact#[a.pos,a.dom,a.bg,Qf a.sz.1 (),λp=>Qf (a.sz.2 p) ()]
def Oa(r:Rm)(p q:Pt):Prop:=∃v,(q,v)∈lk r p/\0<v
inductive Rch(r:Rm):Pt->Prop
 |bg:Rch r sA
 |go {p q:Pt}:Rch r p->Oa r p q->Rch r q
theorem sj{n:Str}:(p,q,v)∈RO g n↔n≠g/\((p,q,v)=(tO n,fR n,1)∨(p,q,v)=(sA,tO n,2)):=by unfold RO;split;rename_i h;exact#[λz=>(nomatch z),λz=>h7 h z.1];rename_i h;rw[QK,QI];exact#[λz=>#[h,z],λz=>z.2]
theorem Jj:(p,q,v)∈rR g e↔(e.1≠g/\e.1≠e.2)/\((p,q,v)=(tO e.1,fR e.1,1)∨(p,q,v)=(tO e.2,fR e.2,1)∨(p,q,v)=(fR e.1,tO e.2,2)):=by unfold rR;split;rename_i h;exact#[λz=>(nomatch z),λz=>h.elim (λh=>h7 h z.1.1) λh=>h7 h z.1.2];rename_i h;rw[QK,QK,QI];exact#[λz=>#[#[λe=>h (.inl e),λe=>h (.inr e)],z],λz=>z.2]
theorem xE{cut:LS}{s:Str}:m8 g cut s=Jt↔s≠g/\s∉cut:=by unfold m8;rw[Qe,Q4,Q4,decide_eq_false_iff_not,decide_eq_false_iff_not]
end
section
variable{es:gB}{st:LS}{g:Str}{x:LS}
theorem UK{s:Str}(h:Led es st g x s):s≠g/\s∉x:=by
 cases h with|st _ h=>exact xE.mp h|ed _ _ h=>exact xE.mp h
end
section
variable{r:Rm}{ks:List Pt}{vs:List D}
theorem fY:∀{ws:List Wy}{r:Rm}{n:Nat},(∀w∈ws,MF w)->Sz r n->Sz (ws.foldl eB r) (n+2 * ws.9)
 |[],r,n,_,h4=>h4|w::ws,r,n,h,h4=>by have:=fY (ws:=ws) (r:=eB r w) (n:=n+2) (λw x=>h w (QC _ x)) (uH (eF (h w QD).1) h4);rw[wc,QL,show n+2 * (ws.9+1)=n+2+2 * ws.9 by omega];exact this
inductive CF(r:Rm):List Pt->List D->Prop
 |bg:CF r [sA] [.none]
 |add {ks:List Pt}{vs:List D}{p q:Pt}:CF r ks vs->p∈ks->Oa r p q->q∉ks->CF r (ks++[q]) (vs++[pr p])
theorem CF.len(h:CF r ks vs):vs.9=ks.length:=by
 induction h with|bg=>rfl|add _ _ _ _ x=>rw[QM,QM,x];rfl
theorem CF.hb(h:CF r ks vs):sA∈ks:=by
 induction h with|bg=>exact QD|add _ _ _ _ x=>exact Qg _ x
theorem CF.rch(h:CF r ks vs):∀k∈ks,Rch r k:=by
 induction h with|bg=>intro k hk;rw[QI.mp hk];exact .bg|add _ y w _ x=>intro k hk;rcases QW.mp hk with z|z;exact x k z;rw[QI.mp z];exact .go (x _ y) w
theorem CF.nd(h:CF r ks vs):ks.Nodup:=by
 induction h with
 |bg=>exact Qa.mpr #[λz=>(nomatch z),Qo]
 |add _ _ _ n x=>refine qH.mpr #[x,Qa.mpr #[λz=>(nomatch z),Qo],λa y b hb z=>?_];rw[QI.mp hb]at z;exact n (z▸y)
theorem mH(x:V5 r)(hb:Key r sA){p:Pt}(h:Rch r p):Key r p:=by
 cases h with|bg=>exact hb|go _ w=>let#[v,m,_]:=w;exact x _ _ #[v,m]
theorem PN{p:Pt}{l:Inn}:∀{r:Rm},look r p=Jr l->p∈r.map (·.1)
 |[],h=>by cases h|e::r,h=>by by_cases c:e.1=p;rw[<- c];exact QD;rw[show look (e::r) p=look r p from hI c]at h;exact QC _ (PN (r:=r) h)
theorem yG:∀{ks ns:List Pt},ks.Nodup->(∀s∈ks,s∈ns)->ks.9<=ns.9
 |[],_,_,_=>Q5 _|s::r,ns,h,hs=>by let#[u,z]:=Qa.mp h;have hm:=hs s QD;have:=yG (ks:=r) (ns:=ns.erase s) z λx y=>(W9 (λ(e:x=s)=>u (e▸y))).mpr (hs x (QC _ y));rw[WW hm]at this;have v:=wP hm;rw[QL];omega
theorem CF.le(x:V5 r)(hb:Key r sA)(h:CF r ks vs):ks.9<=r.length:=by
 have:=yG (ns:=r.map (·.1)) h.nd λs hs=>by let#[l,e]:=mH x hb (h.rch s hs);exact PN e
 rw[QF]at this;exact this
structure Srch(r:Rm)(ks:List Pt)(vs:List D)(ws:List Pt):Prop where
 cf:CF r ks vs
 sub:∀w∈ws,w∈ks
 clo:∀k∈ks,k∉ws->∀q,Oa r k q->q∈ks
structure Srch1(r:Rm)(here:Pt)(ks:List Pt)(vs:List D)(ws:List Pt)(l:Inn):Prop where
 cf:CF r ks vs
 sub:∀w∈ws,w∈ks
 clo:∀k∈ks,k∉ws->k≠here->∀q,Oa r k q->q∈ks
 her:here∈ks
 don:∀e∈lk r here,0<e.2->e.1∈ks∨e∈l
 all:∀e∈l,e∈lk r here
end
section
variable{r:Rm}{ks ws:List Pt}{vs:List D}
theorem Uh:Srch r [sA] [.none] [sA]:=#[.bg,λ_ h=>h,λk h n=>h7 h n]
theorem Srch.pop{w:Pt}(h:Srch r ks vs (w::ws)):Srch1 r w ks vs ws (lk r w):=by refine#[h.cf,λx v=>h.sub x (QC _ v),λk hk n u=>h.clo k hk λz=>?_,h.sub w QD,λe y _=>.inr y,λe y=>y];rcases QK.mp z with z|z;exact u z;exact n z
theorem Srch1.skip{y:Pt}{e:Pt×Int}{l:Inn}(h:Srch1 r y ks vs ws (e::l))(c:0<e.2->e.1∈ks):Srch1 r y ks vs ws l:=by
 refine#[h.cf,h.sub,h.clo,h.her,λx u p=>?_,λx u=>h.all x (QC _ u)];rcases h.don x u p with z|z;exact .inl z;rcases QK.mp z with z|z
 ·rw[z]at p ⊢;exact .inl (c p)
 exact .inr z
theorem Srch1.add{u:Pt}{e:Pt×Int}{l:Inn}(h:Srch1 r u ks vs ws (e::l))(c:0<e.2)(n:e.1∉ks):Srch1 r u (ks++[e.1]) (vs++[pr u]) (ws++[e.1]) l:=by
 have f:=h.all e QD;refine#[h.cf.add h.her #[e.2,f,c] n,λx v=>?_,λk hk a b q w=>?_,Qg _ h.her,λx v p=>?_,λx v=>h.all x (QC _ v)];rcases QW.mp v with z|z
 ·exact Qg _ (h.sub x z)
 exact QS _ z;rcases QW.mp hk with z|z
 ·exact Qg _ (h.clo k z (λy=>a (Qg _ y)) b q w)
 exact h7 (QS _ z) a;rcases h.don x v p with z|z
 ·exact .inl (Qg _ z)
 rcases QK.mp z with z|z
 ·rw[z];exact .inl (QS _ QD)
 exact .inr z
theorem Srch1.fin{x:Pt}(h:Srch1 r x ks vs ws []):Srch r ks vs ws:=by refine#[h.cf,h.sub,λk hk n q w=>?_];by_cases e:k=x;subst e;let#[v,m,p]:=w;rcases h.don (q,v) m p with z|z;exact z;exact(nomatch z);exact h.clo k hk n e q w
theorem Srch.done(h:Srch r ks vs [])(p:Pt):p∈ks↔Rch r p:=by
 refine#[h.cf.rch p,λz=>?_];induction z with|bg=>exact h.cf.hb|go _ w x=>exact h.clo _ x (λz=>(nomatch z)) _ w
end
def eC(Q:T->LT->Prop):PEnds:={ nx:=λh=>pZ (SA [0] h) (Q (.d .none)),rt:=λt h=>pZ (SA [0] h) (Q t) }
theorem eI{Ψ:PEv}{b:PT}{p:PSp}{N x:LS}{ds:LT}{Q:T->LT->Prop}(ρ:kA)(h:pF Ψ b (eC Q) ρ)(hl:ds.9=x.length:=by rfl)(hc:DB 0 p.md x.9=[0]:=by rfl)(hs:OA N p.md ds=ρ:=by rfl):ds.9=x.9/\pF Ψ b (FC p x.9 Q) (OA N p.md ds):=by
 have e:FC p x.9 Q=eC Q:=by unfold FC;rw[hc];rfl
 rw[e,hs];exact#[hl,h]
def aX(r:Rm)(h t:Pt)(v:Int):kA:=[oW (kB r),bD (pr h),bD (pr t),bD (.int v)]
section
variable{Ψ:PEv}{Z:PEnds}{q:PT}{r:Rm}{h t:Pt}{v:Int}
theorem uo(hl:r.9<jz)(k:pF Ψ q Z (aX (sdf r h) h t v)):pF Ψ (.seq (.sdf 0 (.xt 1)) q) Z (aX r h t v):=by delta aX at k ⊢;simp![↓zA];refine#[rfl,cU hl ?_];exact k
theorem xo(hl:r.9<jz)(k:pF Ψ q Z (aX (sdf r t) h t v)):pF Ψ (.seq (.sdf 0 (.xt 2)) q) Z (aX r h t v):=by delta aX at k ⊢;simp![↓zA];refine#[rfl,cU hl ?_];exact k
theorem vo{l:Inn}(e:look r h=Jr l)(hl:l.9<jz)(k:pF Ψ q Z (aX (put r h (put l t v)) h t v)):pF Ψ (.seq (.six (.idx (.xt 0) (.xt 1)) (.xt 2) (.xt 3)) q) Z (aX r h t v):=by delta aX at k ⊢;simp![↓zA];refine bH e λf x=>zN hl ?_;rw[x];exact k
theorem ko{l:Inn}(e:look r t=Jr l)(hl:l.9<jz)(k:pF Ψ q Z (aX (put r t (put l h 0)) h t v)):pF Ψ (.seq (.six (.idx (.xt 0) (.xt 2)) (.xt 1) (.int 0)) q) Z (aX r h t v):=by delta aX at k ⊢;simp![↓zA];refine bH e λf x=>zN hl ?_;rw[x];exact k
end
theorem vE{r:Rm}{p:Pt}(h:Key r p):look r p=Jr (lk r p):=by let#[l,e]:=h;unfold lk;rw[e];rfl
def RF:PSp where
 md:=[.chg]
 run:=λh Q _=>∃(r:Rm) (w:Wy),h=[kB r,.d (pr w.1),.d (pr w.2.1),.d (.int w.2.2)]/\(w.1≠w.2.1/\Sz r 5000)/\Q (.d .none) [kB (eB r w)]
theorem t7{Ψ:PEv}:EO Ψ UM RF LM fK:=by rintro _ Q _ ⟨r,w,rfl,⟨y,hs⟩,q⟩;refine eI (aX r w.1 w.2.1 w.2.2) ?_;have k:=hs.1;have v:=fN (r:=r) (p:=w.1);have x:Key (sdf (sdf r w.1) w.2.1) w.1:=BD.mpr (.inr (BD.mpr (.inl rfl)));have h:Key (sdf (sdf r w.1) w.2.1) w.2.1:=BD.mpr (.inl rfl);have u:=hs.2 w.1;have z:=hs.2 w.2.1;refine uo () (xo () (vo (vE x) (by rw[ND,ND];omega) (ko (vE (BH.mpr (.inr h))) (by rw[OD,hI y,ND,ND];omega) ?_)));exact q
def gH:PSp where
 md:=[.chg]
 run:=λh Q _=>∃(r:Rm) (n:Str),h=[kB r,.d (.str n)]/\Sz r 5000/\Q (.d .none) [kB (eB r (tO n,fR n,1))]
theorem e7{Ψ:PEv}(h:Ψ.sp "add_way"=RF):EO Ψ AG gH tL FI:=by rintro _ Q _ ⟨r,n,rfl,hs,q⟩;refine eI [oW (kB r),bD (.str n)] ?_;delta AG;simp![↓dG (md:=[]) h rfl rfl];refine#[(),(),?_];exact#[_,(tO n,fR n,1),rfl,#[CA,hs],#[_,rfl,q]]
def BX(es:gB)(st:LS)(g:Str)(r:Rm)(o4 o5 o6:Option Sl):kA:=[bD (.list (es.map pr)),bD (.list (st.map Jx)),bD (.str g),oW (kB r),o4,o5,o6]
section
variable{Ψ:PEv}{Z:PEnds}{es:gB}{st:LS}{g:Str}{r:Rm}
theorem Um(h:Ψ.va "BEGIN"=Jr (pr sA)){q:PT}{o3 o4 o5 o6:Option Sl}(k:pF Ψ q Z (BX es st g nG o4 o5 o6)) :
  pF Ψ (.seq (.own 3 (.dsp (.glo "BEGIN") (.dnew Jt))) q) Z [bD (.list (es.map pr)),bD (.list (st.map Jx)),bD (.str g),o3,o4,o5,o6]:=by
 simp![↓iG h];exact#[pC sA,k]
theorem Xm(a:Ψ.sp "add_name"=gH)(v:Ψ.sp "add_way"=RF)(u:Ψ.va "BEGIN"=Jr (pr sA))(z:Ψ.va "WIDE"=Jr (.int 2)){n:Str}{o5 o6:Option Sl}(hs:Sz r 4900)(k:Z.nx (BX es st g ((RO g n).foldl eB r) (bD (.str n)) o5 o6)) :
  pF Ψ HE Z (BX es st g r (bD (.str n)) o5 o6):=by
 delta BX at k ⊢;delta HE;simp![↓iG u,↓iG z,↓dG (md:=[]) a rfl rfl,↓dG (md:=[]) v rfl rfl];by_cases e:n=g;rw[dT e];unfold RO at k;rw[hQ e]at k;exact k;rw[dF e];unfold RO at k;rw[hI e]at k;have y:Sz r 5000:=#[Qf hs.1 (),λp=>Qf (hs.2 p) ()]
 have h:=uH (w:=(tO n,fR n,1)) CA hs;have x:Sz (eB r (tO n,fR n,1)) 5000:=#[Qf h.1 (),λp=>Qf (h.2 p) ()]
 refine#[_,_,rfl,y,#[_,rfl,?_]];refine#[(),?_];exact#[_,(sA,tO n,2),rfl,#[NB,x],#[_,rfl,k]]
theorem Vm(i:Ψ.sp "add_name"=gH)(f:Ψ.sp "add_way"=RF)(v:Ψ.va "WIDE"=Jr (.int 2)){a b:Str}{o4:Option Sl}(hs:Sz r 4900)(k:Z.nx (BX es st g ((rR g (a,b)).foldl eB r) o4 (bD (.str a)) (bD (.str b)))) :
  pF Ψ GE Z (BX es st g r o4 (bD (.str a)) (bD (.str b))):=by
 delta BX at k ⊢;delta GE;simp![↓iG v,↓dG (md:=[]) i rfl rfl,↓dG (md:=[]) f rfl rfl];unfold rR at k;by_cases e:a=g;rw[dT e];rw[hQ (.inl e)]at k;exact k;rw[dF e];by_cases h:a=b;rw[dT h];rw[hQ (.inr h)]at k;exact k;rw[dF h];rw[hI (λz=>z.elim e h)]at k;have u:Sz r 5000:=#[Qf hs.1 (),λp=>Qf (hs.2 p) ()]
 have x:=uH (w:=(tO a,fR a,1)) CA hs;have y:=uH (w:=(tO b,fR b,1)) CA x;refine#[_,_,rfl,u,#[_,rfl,?_]];refine#[_,_,rfl,#[Qf x.1 (),λp=>Qf (x.2 p) ()],#[_,rfl,?_]];refine#[(),(),?_];exact#[_,(fR a,tO b,2),rfl,#[CA.symm,#[Qf y.1 (),λp=>Qf (y.2 p) ()]],#[_,rfl,k]]
end
section
variable{Ψ:PEv}{r:Rm}{p q:Pt}{l:Inn}{n m:Bool}{R:T->Prop}{W:LT->Prop}{E:XE}{ρ:kA}{b:PX}{M:List (T×Bool)->kA->Prop}{md:List Md}{ks:List Pt}{vs:List D}
def cH:PSp where
 run:=λx Q _=>∃(h:gB) (st:LS) (g:Str),x=[.d (.list (h.map pr)),.d (.list (st.map Jx)),.d (.str g)]/\(h.9<=126/\st.9<=11)/\Q (kB (jA h st g)) []
theorem sW(o:Ψ.sp "add_name"=gH)(j:Ψ.sp "add_way"=RF)(i:Ψ.va "BEGIN"=Jr (pr sA))(f:Ψ.va "WIDE"=Jr (.int 2)):EO Ψ bL cH pL DI:=by rintro _ Q _ ⟨h,st,g,rfl,⟨Y,X⟩,q⟩;refine JA [bD (.list (h.map pr)),bD (.list (st.map Jx)),bD (.str g),Js,Js,Js,Js] ?_;refine Um i ?_;delta BX;simp![↓zA];rw[<- LA];refine cB (λ(s:Str)=>T.d (.str s)) (λl ρ=>∃r x,RmOk r (1+4 * (11 - l.9))/\l.9<=11/\(l.flatMap (RO g)).foldl eB r=(st.flatMap (RO g)).foldl eB nG/\ρ=BX h st g r x Js Js) ?_ ?_ _ _ #[nG,_,?_,X,rfl,rfl];rintro ρ ⟨r,x,ok,_,e,rfl⟩;have e:r=(st.flatMap (RO g)).foldl eB nG:=e;delta BX;simp![↓zA];rw[<- LA];refine cB (λ(p:Str×Str)=>T.d (pr p)) (λl ρ=>∃r v u,Sz r (45+6 * (126 - l.9))/\l.9<=126/\(l.flatMap (rR g)).foldl eB r=jA h st g/\ρ=BX h st g r (JF x) v u) ?_ ?_ _ _ #[r,_,_,?_,Y,by rw[e];rfl,rfl];rintro ρ ⟨r,v,u,_,_,e,rfl⟩;have e:r=jA h st g:=e;subst e;delta BX;simp![↓zA];exact q;rintro⟨a,b⟩ l ρ N k ⟨r,v,u,s,w,e,rfl⟩;rw[QL]at s w;rw[QAl,QBq]at e;refine kC.mk rfl ?_;refine Vm (a:=a) (b:=b) o j f #[Qf s.1 (),λp=>Qf (s.2 p) ()] (k _ #[_,_,_,?_,(),e,rfl]);have z:Sz ((rR g (a,b)).foldl eB r) (45+6 * (126 - (l.9+1))+2 * (rR g (a,b)).9):=fY ZJ s;have y:=CT (g:=g) (e:=(a,b));exact#[Qf z.1 (),λp=>Qf (z.2 p) ()];exact#[Qf ok.sz.1 (by rw[Qr];omega),λp=>Qf (ok.sz.2 p) (by rw[Qr];omega)];rintro s l ρ N k ⟨r,x,ok,w,e,rfl⟩;rw[QL]at ok w;rw[QAl,QBq]at e;refine Xm (n:=s) o j i f #[Qf ok.sz.1 (),λp=>Qf (ok.sz.2 p) ()] (k _ #[_,_,?_,(),e,rfl]);have z:=ok.add (ws:=RO g s) YJ;have y:=UT (g:=g) (n:=s);exact#[z.pos,z.dom,z.bg,Qf z.sz.1 (),λp=>Qf (z.sz.2 p) ()];exact#[jE.pos,jE.dom,jE.bg,Qf jE.sz.1 (),λp=>Qf (jE.sz.2 p) ()]
def DS(l:Inn):D:=.dict (l.map λe=>(pr e.1,.int e.2))
def Ge(r:Rm):List (D×D):=r.map λe=>(pr e.1,DS e.2)
theorem RW(h:look r p=Jr l):RC (Ge r)=Jr true:=by
 cases r with|nil=>cases h|cons e r=>rfl
theorem G1(l:Inn):(l.map λe=>(pr e.1,Jy e.2))=[]∨RC (l.map λe=>(pr e.1,Jy e.2))=Jr true:=by
 cases l with|nil=>exact .inl rfl|cons e r=>exact .inr rfl
theorem uc(h:Key r p)(k:R (.d (DS (lk r p)))):xC (.d (.dict (Ge r))) n (.d (pr p)) m R:=by
 have e:=vE h;let#[i,u,y,_]:=sC (λl=>T.d (DS l)) e;have w:(Ge r).map (·.1)=CC r:=by unfold Ge CC;rw[Qh];rfl
 refine Ng (RW e) (pC p) (by rw[w];exact u) ?_ k;have v:(Ge r).map (·.2)=r.map λe=>DS e.2:=by unfold Ge;rw[Qh];rfl
 rw[v];rw[Qi]at y ⊢;cases z:r[i]? with|none=>rw[z]at y;cases y|some x=>rw[z]at y;injection y with y;injection y with y;show Jr (DS x.2)=_;rw[y]
theorem vh:DK .itm [(.d (DS l),n)] W=W (l.map λe=>.d (.tuple [pr e.1,.int e.2])):=by unfold DS;rw[kh (G1 l),Qh];rfl
theorem EG{K:TK}:g9 (kB r) Ju Ψ b E ρ K=rB Ψ b E (lockA ρ) λy m _=>K y m ρ:=rfl
theorem UV{K:TK}:g9 (mD l) Ju Ψ b E ρ K=rB Ψ b E (lockA ρ) λy m _=>K y m ρ:=rfl
theorem MO:T5 (kB r) Ju Ψ b E md ρ M=lK Ψ b E md (lockA ρ) λxs _=>M xs ρ:=rfl
theorem A4:T5 (mD l) Ju Ψ b E md ρ M=lK Ψ b E md (lockA ρ) λxs _=>M xs ρ:=rfl
def ig(t:T)(r:Rm):Prop:=t=kB r∨t=.d (.dict (Ge r))
theorem Og{b:Bool}{ks:List D}{ts:LT}{n m:Bool}{k:D}{l:Nat}{t:T}(z:vF b k)(y:dA ks k=Jr l)(x:ts[l]?=Jr t)(h:R t):xC (.dct b ks ts) Ju (.d k) m R:=.inr #[b,ks,ts,l,t,rfl,z,y,x,h]
theorem tE(h:Key r p)(k:R (mD (lk r p))):xC (kB r) Ju (.d (pr p)) m R:=by let#[i,y,x,_]:=sC mD (vE h);exact Og (n:=Ju) (pC p) y x k
theorem MM{v:Int}(h:look l p=Jr v)(k:R (.d (.int v))):xC (mD l) Ju (.d (pr p)) m R:=by let#[i,y,x,_]:=sC (λv:Int=>T.d (.int v)) h;exact Og (n:=Ju) (pC p) y x k
theorem GT(l:Inn):HD (l.map λe=>T.d (.int e.2))=Jr (l.map λe=>.int e.2):=by rw[show(l.map λe=>T.d (.int e.2))=(l.map λe=>Jy e.2).map T.d by rw[Qh];rfl,oA]
theorem gc:DK .itm [(mD l,Ju)] W=W (l.map λe=>.d (.tuple [pr e.1,.int e.2])):=by
 refine(tQ _ _).trans ?_;have e:((CC l).zip (l.map λe=>Jy e.2)).map (λp=>T.d (.tuple [p.1,p.2]))=l.map λe=>T.d (.tuple [pr e.1,.int e.2]):=by unfold CC;rw[List.zip_map',Qh];rfl
 refine h8 #[λ#[x,h,k]=>?_,λk=>#[_,GT l,by rw[e];exact k]];rw[GT]at h;cases h;rw[e]at k;exact k
theorem D5{a:PX}:fG (.idx a b)=fG a:=rfl
theorem dg:DO [(mD l,Ju)]=false:=rfl
noncomputable def P8(ks:List Pt)(vs:List D):T:=.dct Jt (ks.map pr) (vs.map T.d)
theorem RY:pr q∈ks.map pr↔q∈ks:=by constructor;intro h;let#[x,y,e]:=QV.mp h;rw[<- pN e];exact y;exact w8
theorem xO(ks:List Pt)(q:Pt):(dA (ks.map pr) (pr q)).isSome=decide (q∈ks):=by rw[qd,ES,RY,Fy]
theorem Uc{x:D}{Q:T->Prop}(n:q∉ks)(hl:ks.9<jz)(k:Q (P8 (ks++[q]) (vs++[x]))):Kh (P8 ks vs) (.d (pr q)) (.d x) Q:=by refine#[pC q,by rw[QF];exact hl,?_];show Q (yS Jt (ks.map pr) (vs.map T.d) (pr q) (.d x));unfold yS;rw[aC.mpr (λz=>n (RY.mp z))];unfold P8 at k;rw[Qb,Qb]at k;exact k
theorem Mf{L:Bool->Prop}:OC .NotIn (.d (pr q)) (P8 ks vs) L=L (!decide (q∈ks)):=by unfold P8;rw[eT,xO];exact h8 #[λh=>h.2,λh=>#[pC q,h]]
def zM(h:T)(ks:List Pt)(vs:List D)(ws:List Pt)(o3 o4 o5:Option Sl):kA:=[Jr (.kw h),Jr (.own (P8 ks vs)),Jr (.own (.lst ((ws.map pr).map T.d))),o3,o4,o5]
end
section
variable{Ψ:PEv}{Z:PEnds}{x:T}{r:Rm}{ks ws:List Pt}{vs:List D}
section
variable{w:Pt}{o3 o4 o5:Option Sl}
theorem Gm{p q:Pt}{v:Int}(hl:ks.9<jz)(a:ws.9<jz)(u:(0<v->q∈ks)->Z.nx (zM x ks vs ws (bD (pr p)) (bD (pr q)) (bD (.int v))))
  (k:0<v->q∉ks->Z.nx (zM x (ks++[q]) (vs++[pr p]) (ws++[q]) (bD (pr p)) (bD (pr q)) (bD (.int v)))) :
  pF Ψ AA Z (zM x ks vs ws (bD (pr p)) (bD (pr q)) (bD (.int v))):=by
 delta zM at u k ⊢;delta AA;simp![↓Mf];by_cases h:0<v;rw[dT h];by_cases y:q∈ks;rw[dT y];exact u λ_=>y;rw[dF y];simp only[QBV,↓reduceIte];refine Uc y hl ?_;refine#[by rw[QF,QF];exact a,?_];have:=k h y;rw[Qb,Qb]at this;exact this;rw[dF h];exact u λz=>h7 z h
theorem Yd{q:PT}(k:pF Ψ q Z (zM x ks vs ws (bD (pr w)) o4 o5)) :
  pF Ψ (.seq (.set 3 (.mt .pop (.xt 2) %[.int 0|1])) q) Z (zM x ks vs (w::ws) o3 o4 o5):=by
 delta zM at k ⊢;simp![↓zA];refine#[0,.d (pr w),?_,rfl,rfl,k];unfold AO;rw[hQ (by decide),hQ (by rw[QF,QF,QL];omega)];rfl
theorem Zd(y:ig x r)(hk:Key r w)
  (k:MG (pF Ψ AA) (.tp [4,5]) { Z with nx:=λh=>Z.nx (kill [4,5] h) } ((lk r w).map λe=>T.d (.tuple [pr e.1,.int e.2])) (zM x ks vs ws (bD (pr w)) o4 o5)) :
  pF Ψ %[.for_ (.tp [4,5]) .itm %[.idx (.xt 0) (.xt 3)|1] AA|2] Z (zM x ks vs ws (bD (pr w)) o4 o5):=by
 rcases y with rfl|rfl;delta zM at k ⊢;simp![↓EG];refine tE hk ?_;simp![↓A4,↓gc,dg,D5];exact k;delta zM at k ⊢;simp![↓zA];refine uc hk ?_;simp![↓vh];exact k
theorem Fm(m:ig x r)(a:V5 r)(hb:Key r sA)(X:r.9<=1000)(h:Srch r ks vs (w::ws))(hm:2 * (r.9 - ks.9)+ws.9+1<=3000)
  (hz:∀z u y o3 o4 o5,Srch r z u y->2 * (r.9 - z.9)+y.9<=2 * (r.9 - ks.9)+ws.9->Z.nx (zM x z u y o3 o4 o5)) :
  pF Ψ sD Z (zM x ks vs (w::ws) o3 o4 o5):=by
 have Y:jz=16777216:=qU;refine Yd ?_;have h0:=h.pop;have hk:Key r w:=mH a hb (h.cf.rch w (h.sub w QD));refine Zd m hk ?_;refine cB (λ(e:Pt×Int)=>T.d (.tuple [pr e.1,.int e.2])) (λl k=>∃z u y o4 o5,Srch1 r w z u y l/\2 * (r.9 - z.9)+y.9<=2 * (r.9 - ks.9)+ws.9/\k=zM x z u y (bD (pr w)) o4 o5) ?_ ?_ _ _ #[ks,vs,ws,_,_,h0,QX _,rfl];rintro k ⟨z,u,y,g,f,s,l,rfl⟩;exact hz z u y _ (JF g) (JF f) s.fin l;rintro⟨q,v⟩ l k N i ⟨z,u,y,g,f,s,e,rfl⟩;refine kC.mk rfl ?_;have o:=s.cf.le a hb;refine Gm (p:=w) (q:=q) (v:=v) () () (λc=>i _ #[z,u,y,_,_,s.skip c,e,rfl]) λc n=>?_;have b:=s.add c n;have j:=b.cf.le a hb;rw[QM,Qw]at j;exact i _ #[_,_,_,_,_,b,by rw[QM,QM,Qw];omega,rfl]
theorem Hm(h:Ψ.va "BEGIN"=Jr (pr sA)){q:PT}(k:pF Ψ q Z (zM x [sA] [.none] [sA] Js Js Js)) :
  pF Ψ (.seq (.own 1 (.dsp (.glo "BEGIN") .non)) (.seq (.own 2 (.lst %[.glo "BEGIN"|1])) q)) Z [Jr (.kw x),Js,Js,Js,Js,Js]:=by
 have y:jz=16777216:=qU;simp![↓iG h];exact#[pC sA,(),k]
end
end
theorem yH{Ψ:PEv}{E:XE}{c:PX}{q:PT}{Z:PEnds}{ρ:kA}(W:Nat->kA->Prop)(m:Nat)(h0:W m ρ)(hs:∀m ρ,W m ρ->rN Ψ c E ρ λb x=>if b=Jt then pB Ψ E q { Z with nx:=λh=>∃y,y < m/\W y h,ct:=λh=>∃y,y < m/\W y h,bk:=Z.nx } x else Z.nx x):Rg Ψ E c q Z ρ:=#[W,#[m,h0],hs]
def cF:PSp where
 md:=[.kw]
 run:=λz Q _=>∃(y:T) (r:Rm),z=[y]/\(ig y r/\V5 r/\Key r sA/\r.9<=1000)/\∀h x,CF r h x->(∀p,p∈h↔Rch r p)->Q (P8 h x) []
theorem XZ{Ψ:PEv}(l:Ψ.va "BEGIN"=Jr (pr sA)):EO Ψ lE cF oE JD:=by
 rintro _ Q _ ⟨a,r,rfl,⟨h0,j,hb,i⟩,q⟩;refine JA [Jr (.kw a),Js,Js,Js,Js,Js] ?_;refine Hm l ?_;delta zM;simp![↓zA];refine yH (λm k=>m<=3000/\∃x y h o3 o4 o5,Srch r x y h/\m=2 * (r.9 - x.9)+h.9/\k=zM a x y h o3 o4 o5) (2 * (r.9 - 1)+1) #[(),[sA],[.none],[sA],Js,Js,Js,Uh,rfl,rfl] ?_;rintro m k ⟨hm,x,y,h,o3,o4,o5,s,e,rfl⟩;cases h with|nil=>delta zM;simp![QF];rw[dF ()];simp![↓zA];exact q x y s.cf s.done|cons w h=>rw[QL]at e;have b:=λ(Z:PEnds) g=>Fm (Ψ:=Ψ) (Z:=Z) (o3:=o3) (o4:=o4) (o5:=o5) h0 j hb i s () g;unfold zM at b;delta zM;simp![QF];rw[dT ()];refine b _ λv u z o3 o4 o5 f n=>#[_,(),(),v,u,z,o3,o4,o5,f,rfl,rfl]
theorem X4{α:Type}{x:α}{r:List α}:pE (x::r) 0=Jr x:=KO (j:=0) rfl
theorem pk{α:Type}{x y:α}{r:List α}:pE (x::y::r) 1=Jr y:=KO (j:=1) rfl
def sm:List Pt->(Pt->Int)->Int
 |[],_=>0|x::l,f=>f x+sm l f
section
variable{f g:Pt->Int}
theorem RA:∀{l:List Pt},(∀x∈l,f x=g x)->sm l f=sm l g
 |[],_=>rfl|x::l,h=>by show f x+sm l f=g x+sm l g;rw[h x QD,RA λy z=>h y (QC _ z)]
theorem VG:∀(l:List Pt),sm l (λx=>f x+g x)=sm l f+sm l g
 |[]=>rfl|x::l=>by show f x+g x+sm l _=f x+sm l f+(g x+sm l g);rw[VG l];omega
theorem xI:∀(l:List Pt),sm l (λx=>- f x)=- sm l f
 |[]=>rfl|x::l=>by show - f x+sm l _=- (f x+sm l f);rw[xI l];omega
theorem SF:∀(l:List Pt),sm l (λ_=>0)=0
 |[]=>rfl|x::l=>by show 0+sm l _=0;rw[SF l];rfl
theorem NL:∀{l:List Pt},(∀x∈l,0<=f x)->0<=sm l f
 |[],_=>QD3 _|x::l,h=>by have v:=h x QD;have u:=NL (l:=l) λy z=>h y (QC _ z);show 0<=f x+sm l f;omega
theorem KG:∀{l:List Pt},(∀x∈l,0<=f x)->∀{y:Pt},y∈l->f y<=sm l f
 |x::l,h,y,z=>by have v:=h x QD;have h0:∀y∈l,0<=f y:=λy z=>h y (QC _ z);show f y<=f x+sm l f;rcases QK.mp z with e|e;have u:=NL h0;rw[e];omega;have u:=KG h0 e;omega
theorem rY:∀{l:List Pt},(∀x∈l,0<=f x)->∀{y z:Pt},y∈l->z∈l->y≠z->f y+f z<=sm l f
 |x::l,h,y,z,v,hz,ne=>by
  have k:=h x QD;have h0:∀y∈l,0<=f y:=λy v=>h y (QC _ v);show f y+f z<=f x+sm l f;rcases QK.mp v with e|e;rcases QK.mp hz with u|u
  ·exact h7 (e.trans u.symm) ne
  have w:=KG h0 u;rw[e];omega;rcases QK.mp hz with u|u
  ·have w:=KG h0 e
   rw[u];omega
  have w:=rY h0 e u ne;omega
theorem sY:∀{l:List Pt},0<sm l f->∃x∈l,0<f x
 |[],h=>h7 h (Wg 0)|x::l,h=>by by_cases c:0<f x;exact#[x,QD,c];have h:0<f x+sm l f:=h;let#[y,z,p]:=sY (l:=l) ();exact#[y,QC _ z,p]
theorem kU{k:Pt->Pt->Int}{m:List Pt}:∀(l:List Pt),sm l (λx=>sm m λy=>k x y)=sm m λy=>sm l λx=>k x y
 |[]=>(SF m).symm|x::l=>by show sm m (λy=>k x y)+sm l _=sm m λy=>k x y+sm l λx=>k x y;rw[kU l,VG]
theorem uN{u:Pt}{k:Int}:∀{l:List Pt},u∉l->sm l (λx=>if x=u then k else 0)=0
 |[],_=>rfl|x::l,h=>by show(if x=u then k else 0)+sm l _=0;rw[hI (λ(e:x=u)=>h (e▸QD)),uN λz=>h (QC _ z)];rfl
theorem uI{u:Pt}{k:Int}:∀{l:List Pt},l.Nodup->u∈l->sm l (λx=>if x=u then k else 0)=k
 |x::l,nd,h=>by let#[v,y]:=Qa.mp nd;show(if x=u then k else 0)+sm l _=k;by_cases e:x=u;rw[hQ e,uN (by rw[<- e];exact v)];omega;rw[hI e,uI y ((QK.mp h).resolve_left λz=>e z.symm)];omega
theorem nP(p:Pt->Bool):∀(l:List Pt),sm l f=sm (l.filter p) f+sm (l.filter λx=>!p x) f
 |[]=>rfl|x::l=>by
  show f x+sm l f=_;rw[Wl,Wl,nP p l];cases p x with|true=>show _=(f x+sm (l.filter p) f)+sm (l.filter λx=>!p x) f;omega|false=>show _=sm (l.filter p) f+(f x+sm (l.filter λx=>!p x) f);omega
theorem j6{a:Pt->Pt->Int}(l:List Pt)(h:∀x∈l,∀y∈l,a x y=- a y x):sm l (λx=>sm l λy=>a x y)=0:=by
 have w:sm l (λx=>sm l λy=>a x y)=sm l λy=>sm l λx=>a x y:=kU l;have v:(sm l λy=>sm l λx=>a x y)=- sm l (λy=>sm l λx=>a y x):=by rw[<- xI];refine RA λy z=>?_;rw[<- xI];exact RA λx u=>h x u y z
 omega
end
section
variable{p q u v:Pt}{r:Rm}{w:Wy}{es:gB}{st:LS}{g:Str}
def rm(r:Rm)(p q:Pt):Int:=(look (lk r p) q).getD 0
def IG(r:Rm)(p q:Pt):Prop:=∃v,look (lk r p) q=Jr v
def v9(r:Rm):Prop:=∀p,((lk r p).map (·.1)).Nodup
theorem zG{α:Type}{q:Pt}{v:α}:∀{l:List (Pt×α)},look l q=Jr v->(q,v)∈l
 |[],h=>by cases h|e::l,h=>by by_cases c:e.1=q;rw[show look (e::l) q=Jr e.2 from hQ c]at h;injection h with h;rw[<- c,<- h];exact QD;rw[show look (e::l) q=look l q from hI c]at h;exact QC _ (zG h)
theorem jO{α:Type}{q:Pt}{v:α}:∀{l:List (Pt×α)},(l.map (·.1)).Nodup->(q,v)∈l->look l q=Jr v
 |e::l,nd,h=>by let#[k,y]:=Qa.mp nd;rcases QK.mp h with c|c;rw[<- c];exact hQ rfl;have x:e.1≠q:=λz=>k (QV.mpr #[(q,v),c,z.symm]);rw[show look (e::l) q=look l q from hI x];exact jO y c
theorem put_keys{α:Type}{p:Pt}{w:α}:∀{l:List (Pt×α)},(put l p w).map (·.1)=if p∈l.map (·.1) then l.map (·.1) else l.map (·.1)++[p]
 |[]=>rfl|e::l=>by by_cases c:e.1=p;rw[show put (e::l) p w=(e.1,w)::l from hQ c,hQ (by rw[<- c];exact QD)];rfl;rw[show put (e::l) p w=e::put l p w from hI c];rw[QU,QU,put_keys];by_cases h:p∈l.map (·.1);rw[hQ h,hQ (QC _ h)];rw[hI h,hI (λz=>(QK.mp z).elim (λz=>c z.symm) h)];rfl
theorem AF{α:Type}{w:α}{l:List (Pt×α)}(h:(l.map (·.1)).Nodup):((put l p w).map (·.1)).Nodup:=by rw[put_keys];split;exact h;rename_i n;refine qH.mpr #[h,Qa.mpr #[λz=>(nomatch z),Qo],λa x b hb z=>?_];rw[QI.mp hb]at z;exact n (z▸x)
theorem YR(nd:v9 r):Oa r p q↔0<rm r p q:=by
 unfold Oa rm;constructor;rintro⟨v,m,h⟩;rw[jO (nd p) m];exact h;intro h;cases e:look (lk r p) q with|none=>rw[e]at h;exact h7 h (Wg 0)|some v=>rw[e]at h;exact#[v,zG e,h]
def cW(r:Rm)(u v:Pt):Rm:=put (put r u (put (lk r u) v (rm r u v - 1))) v (put (lk (put r u (put (lk r u) v (rm r u v - 1))) v) u (rm (put r u (put (lk r u) v (rm r u v - 1))) v u+1))
theorem VS(h:u≠v)(p:Pt):lk (cW r u v) p=if v=p then put (lk r v) u (rm r v u+1) else if u=p then put (lk r u) v (rm r u v - 1) else lk r p:=by
 have e:rm (put r u (put (lk r u) v (rm r u v - 1))) v u=rm r v u:=by unfold rm;rw[OD,hI h]
 unfold cW;rw[e,OD,OD,OD,hI h]
theorem SR(h:u≠v)(p q:Pt):rm (cW r u v) p q=rm r p q+(if p=v/\q=u then 1 else 0) - (if p=u/\q=v then 1 else 0):=by show(look (lk (cW r u v) p) q).getD 0=_;rw[VS h];by_cases y:v=p;rw[hQ y,lD,hI (c:=p=u/\q=v) (λz=>h (z.1.symm.trans y.symm))];by_cases x:u=q;rw[hQ x,hQ #[y.symm,x.symm],<- y,<- x];show rm r v u+1=rm r v u+1 - 0;omega;rw[hI x,hI (λz=>x z.2.symm),y];show rm r p q=rm r p q+0 - 0;omega;rw[hI y,hI (c:=p=v/\q=u) (λz=>y z.1.symm)];by_cases x:u=p;rw[hQ x,lD];by_cases k:v=q;rw[hQ k,hQ #[x.symm,k.symm],<- x,<- k];show rm r u v - 1=rm r u v+0 - 1;omega;rw[hI k,hI (λz=>k z.2.symm),x];show rm r p q=rm r p q+0 - 0;omega;rw[hI x,hI (λz=>x z.1.symm)];show rm r p q=rm r p q+0 - 0;omega
theorem fB:IG r p q↔LX r p q:=by
 unfold IG LX;constructor;rintro⟨v,h⟩;exact#[v,zG h];rintro⟨v,h⟩;generalize lk r p=l at h;induction l with
 |nil=>exact(nomatch h)
 |cons e l x =>
  by_cases c:e.1=q;exact#[e.2,hQ c];rcases QK.mp h with z|z
  ·exact h7 (by rw[<- z]) c
  let#[w,y]:=x z;exact#[w,(show look (e::l) q=look l q from hI c).trans y]
theorem y9(h:u≠v)(a:IG r u v)(k:IG r v u):IG (cW r u v) p q↔IG r p q:=by unfold IG;rw[VS h];by_cases y:v=p;rw[hQ y,lD];by_cases x:u=q;rw[hQ x,<- y,<- x];exact#[λ_=>k,λ_=>#[_,rfl]];rw[hI x,y];rw[hI y];by_cases x:u=p;rw[hQ x,lD];by_cases z:v=q;rw[hQ z,<- x,<- z];exact#[λ_=>a,λ_=>#[_,rfl]];rw[hI z,x];rw[hI x]
theorem C7(h:u≠v)(nd:v9 r):v9 (cW r u v):=by
 intro p;rw[VS h];split;exact AF (nd v);split
 ·exact AF (nd u)
 exact nd p
theorem lN(h:¬ IG r p q):rm r p q=0:=by
 unfold rm;cases e:look (lk r p) q with|none=>rfl|some v=>exact h7 #[v,e] h
def ul(p q:Pt)(v:Int):Prop:=(∃n,p=tO n/\q=fR n/\v=1)∨(∃n,p=sA/\q=tO n/\v=2)∨(∃a b,a≠b/\p=fR a/\q=tO b/\v=2)∨(¬ HX p q/\v=0)
def Yg(P:Pt->Pt->Int->Prop)(r:Rm):Prop:=∀p,∀e∈lk r p,P p e.1 e.2
theorem dX{P:Pt->Pt->Int->Prop}(a:w.1≠w.2.1)(f:P w.1 w.2.1 w.2.2)(b:P w.2.1 w.1 0)(h:Yg P r):Yg P (eB r w):=by intro p e x;rw[XH a]at x;by_cases k:w.2.1=p;rw[hQ k]at x;rcases oH x with z|z;rw[z,<- k];exact b;exact h p e z;rw[hI k]at x;by_cases y:w.1=p;rw[hQ y]at x;rcases oH x with z|z;rw[z,<- y];exact f;exact h p e z;rw[hI y]at x;exact h p e x
theorem aP(h:(r.map (·.1)).Nodup):((sdf r p).map (·.1)).Nodup:=by
 unfold sdf;cases e:look r p with|some v=>exact h|none=>show(List.map (λe:Pt×Inn=>e.1) (r++[(p,[])])).Nodup;rw[Qb];refine qH.mpr #[h,Qa.mpr #[λz=>(nomatch z),Qo],λa y b hb z=>?_];have hb:b=p:=QI.mp hb;rw[z,hb]at y;let#[x,k,f]:=QV.mp y;have:=jO h (show(p,x.2)∈r by rw[<- f];exact k);rw[e]at this;cases this
theorem Z0(x:w.1≠w.2.1)(h:v9 r):v9 (eB r w):=by
 intro p;rw[XH x];split;exact AF (h p);split
 ·exact AF (h p)
 exact h p
theorem EA:Key r p↔p∈r.map (·.1):=by
 constructor;rintro⟨l,e⟩;exact PN e;intro h;induction r with
 |nil=>exact(nomatch h)
 |cons e r x =>
  by_cases c:e.1=p;exact#[e.2,hQ c];rcases QK.mp h with z|z
  ·exact h7 z.symm c
  let#[l,hl]:=x z;exact#[l,(show look (e::r) p=look r p from hI c).trans hl]
structure Tbl0(r:Rm):Prop where
 ndk:(r.map (·.1)).Nodup
 ndi:v9 r
 cap:Yg ul r
 kind:∀p,Key r p->p=sA∨∃n,p=tO n∨p=fR n
 sym:∀p q,LX r p q->LX r q p/\Key r p
theorem oQ(h:HX p q):(p=sA∨∃n,p=tO n∨p=fR n)/\(q=sA∨∃n,q=tO n∨q=fR n):=by
 rcases h with⟨h,n,e⟩| ⟨n,h,e⟩| ⟨a,b,_,h,e⟩
 exact#[.inl h,.inr #[n,.inl e]];exact#[.inr #[n,.inl h],.inr #[n,.inr e]];exact#[.inr #[a,.inr h],.inr #[b,.inl e]]
theorem O5(k:HX w.1 w.2.1)(f:ul w.1 w.2.1 w.2.2)(t:Tbl0 r):Tbl0 (eB r w):=by
 have y:=eF k;refine#[?_,Z0 y t.ndi,dX y f (.inr (.inr (.inr #[UE k,rfl]))) t.cap,λp h=>?_,λp q h=>?_];unfold eB;exact AF (AF (aP (aP t.ndk)));rcases YF.mp h with z|z|z
 ·rw[z];exact(oQ k).1
 rw[z];exact(oQ k).2;exact t.kind p z;rw[GH y,YF];rcases(GH y).mp h with z|⟨x,a⟩| ⟨x,a⟩
 let#[e,b]:=t.sym p q z;exact#[.inl e,.inr (.inr b)];exact#[.inr (.inr #[a,x]),.inl x];exact#[.inr (.inl #[a,x]),.inr (.inl x)]
theorem RT:∀{ws:List Wy}{r:Rm},(∀w∈ws,HX w.1 w.2.1/\ul w.1 w.2.1 w.2.2)->Tbl0 r->Tbl0 (ws.foldl eB r)
 |[],_,_,t=>t|w::ws,r,h,t=>RT (ws:=ws) (λw x=>h w (QC _ x)) (O5 (h w QD).1 (h w QD).2 t)
theorem rJ{p:Pt}:∀{ws:List Wy}{r:Rm},Key (ws.foldl eB r) p↔Key r p∨∃w∈ws,p=w.1∨p=w.2.1
 |[],r=>#[.inl,λz=>z.elim id λ#[_,m,_]=>(nomatch m)]
 |w::ws,r=>by
  rw[wc,rJ (ws:=ws),YF];constructor;rintro((z|z|z)|⟨x,m,z⟩)
  ·exact .inr #[w,QD,.inl z]
  exact .inr #[w,QD,.inr z];exact .inl z;exact .inr #[x,QC _ m,z];rintro(z|⟨x,m,z⟩)
  ·exact .inl (.inr (.inr z))
  rcases QK.mp m with rfl|m
  ·rcases z with z|z
   ·exact .inl (.inl z)
   exact .inl (.inr (.inl z))
  exact .inr #[x,m,z]
def XX(es:gB)(st:LS)(g:Str):List Wy:=st.flatMap (RO g)++es.flatMap (rR g)
theorem AD:jA es st g=(XX es st g).foldl eB nG:=by unfold jA XX;rw[QBq]
theorem PD{v:Int}:(p,q,v)∈XX es st g↔(∃n∈st,n≠g/\((p,q,v)=(tO n,fR n,1)∨(p,q,v)=(sA,tO n,2)))∨(∃e∈es,(e.1≠g/\e.1≠e.2)/\((p,q,v)=(tO e.1,fR e.1,1)∨(p,q,v)=(tO e.2,fR e.2,1)∨(p,q,v)=(fR e.1,tO e.2,2))):=by
 unfold XX;rw[QW,QA0,QA0];constructor;rintro(⟨n,m,h⟩| ⟨e,m,h⟩)
 ·exact .inl #[n,m,sj.mp h]
 exact .inr #[e,m,Jj.mp h];rintro(⟨n,m,h⟩| ⟨e,m,h⟩)
 ·exact .inl #[n,m,sj.mpr h]
 exact .inr #[e,m,Jj.mpr h]
theorem PB:∀w∈XX es st g,HX w.1 w.2.1/\ul w.1 w.2.1 w.2.2:=by
 rintro⟨p,q,v⟩ h;rcases PD.mp h with⟨n,_,_,e|e⟩| ⟨e,_,⟨_,x⟩,z|z|z⟩
 cases e;exact#[.inr (.inl #[n,rfl,rfl]),.inl #[n,rfl,rfl,rfl]];cases e;exact#[.inl #[rfl,n,rfl],.inr (.inl #[n,rfl,rfl,rfl])];cases z;exact#[.inr (.inl #[_,rfl,rfl]),.inl #[_,rfl,rfl,rfl]];cases z;exact#[.inr (.inl #[_,rfl,rfl]),.inl #[_,rfl,rfl,rfl]];cases z;exact#[.inr (.inr #[_,_,x,rfl,rfl]),.inr (.inr (.inl #[_,_,x,rfl,rfl,rfl]))]
theorem VH(p:Pt):lk nG p=[]:=by show(if sA=p then Jr [] else Js).getD []=[];split<;>rfl
theorem dh:Tbl0 nG:=by refine#[Qa.mpr #[λz=>(nomatch z),Qo],λp=>?_,λp e x=>?_,λp h=>?_,λp q h=>?_];rw[VH];exact Qo;rw[VH]at x;exact(nomatch x);exact .inl (QI.mp (EA.mp h));let#[v,h]:=h;rw[VH]at h;exact(nomatch h)
end
section
variable{es:gB}{st:LS}{g:Str}
section
variable{p q:Pt}{n:Str}
theorem yD:Tbl0 (jA es st g):=by rw[AD];exact RT PB dh
theorem O2:∀w∈XX es st g,MF w:=λw h=>by unfold XX at h;rcases QW.mp h with z|z;exact vG (f:=RO g) (λ_=>YJ) st w z;exact vG (f:=rR g) (λ_=>ZJ) es w z
theorem EB:LX (jA es st g) p q↔(∃v,(p,q,v)∈XX es st g)∨∃v,(q,p,v)∈XX es st g:=by
 rw[AD,rV O2];constructor;rintro(⟨v,h⟩| h)
 ·rw[VH]at h;exact(nomatch h)
 exact h;exact .inr
theorem xM(h:Key (jA es st g) (tO n)):LX (jA es st g) (tO n) (fR n):=by
 rw[AD]at h;rcases rJ.mp h with z|⟨⟨p,q,v⟩,m,z⟩
 exact h7 (QI.mp (EA.mp z)).symm NB;refine EB.mpr (.inl #[1,PD.mpr ?_]);have z:tO n=p∨tO n=q:=z;rcases PD.mp m with⟨k,mk,x,e|e⟩| ⟨e,u,x,y|y|y⟩
 cases e;rcases z with z|z;rw[XB z];exact .inl #[k,mk,x,.inl rfl];exact h7 z CA;cases e;rcases z with z|z;exact h7 z.symm NB;rw[XB z];exact .inl #[k,mk,x,.inl rfl];cases y;rcases z with z|z;rw[XB z];exact .inr #[e,u,x,.inl rfl];exact h7 z CA;cases y;rcases z with z|z;rw[XB z];exact .inr #[e,u,x,.inr (.inl rfl)];exact h7 z CA;cases y;rcases z with z|z;exact h7 z CA;rw[XB z];exact .inr #[e,u,x,.inr (.inl rfl)]
theorem rX:ul p q (rm (jA es st g) p q)∨(¬ IG (jA es st g) p q/\rm (jA es st g) p q=0):=by by_cases h:IG (jA es st g) p q;let#[v,e]:=h;have:=yD (es:=es) (st:=st) (g:=g) |>.cap p (q,v) (zG e);unfold rm;rw[e];exact .inl this;exact .inr #[h,lN h]
theorem Pn:0<=rm (jA es st g) p q:=by rcases rX (es:=es) (st:=st) (g:=g) (p:=p) (q:=q) with(⟨_,_,_,e⟩| ⟨_,_,_,e⟩| ⟨_,_,_,_,_,e⟩| ⟨_,e⟩)|⟨_,e⟩<;>rw[e]<;>decide
theorem NH(h:¬ HX p q):rm (jA es st g) p q=0:=by
 rcases rX (es:=es) (st:=st) (g:=g) (p:=p) (q:=q) with(⟨n,y,x,_⟩| ⟨n,y,x,_⟩| ⟨a,b,z,y,x,_⟩| ⟨_,e⟩)|⟨_,e⟩
 exact h7 (.inr (.inl #[n,y,x])) h;exact h7 (.inl #[y,n,x]) h;exact h7 (.inr (.inr #[a,b,z,y,x])) h;exact e;exact e
theorem Gf(h:q≠fR n):rm (jA es st g) (tO n) q=0:=NH λl=>by
 rcases l with⟨e,_⟩| ⟨m,y,x⟩| ⟨a,b,_,e,_⟩
 exact NB e.symm;exact h (by rw[x,XB y]);exact CA e
theorem Lj:rm (jA es st g) (tO n) (fR n)<=1:=by
 rcases rX (es:=es) (st:=st) (g:=g) (p:=tO n) (q:=fR n) with(⟨_,_,_,e⟩| ⟨m,h,_,_⟩| ⟨a,b,x,h,y,_⟩| ⟨_,e⟩)|⟨_,e⟩
 rw[e];decide;exact h7 h.symm NB;exact h7 h CA;rw[e];decide;rw[e];decide
theorem Hf(h:Key (jA es st g) (tO n)):rm (jA es st g) (tO n) (fR n)=1:=by
 have a:=fB.mpr (xM h);rcases rX (es:=es) (st:=st) (g:=g) (p:=tO n) (q:=fR n) with(⟨_,_,_,e⟩| ⟨m,x,_,_⟩| ⟨a,b,y,x,u,_⟩| ⟨l,e⟩)|⟨z,e⟩
 exact e;exact h7 x.symm NB;exact h7 x CA;exact h7 (.inr (.inl #[n,rfl,rfl])) l;exact h7 a z
theorem Rn(h:p≠tO n):rm (jA es st g) p (fR n)=0:=NH λl=>by
 rcases l with⟨_,m,e⟩| ⟨m,y,x⟩| ⟨a,b,_,_,e⟩
 exact CA e.symm;exact h (by rw[y,LG x]);exact CA e.symm
theorem An:rm (jA es st g) p sA=0:=NH λl=>by
 rcases l with⟨_,m,e⟩| ⟨m,x,h⟩| ⟨a,b,_,_,e⟩
 exact NB e;exact gE h;exact NB e
theorem Hj(h:p≠fR n):rm (jA es st g) p (tO n)=0∨rm (jA es st g) p (tO n)=2:=by
 rcases rX (es:=es) (st:=st) (g:=g) (p:=p) (q:=tO n) with(⟨_,_,e,_⟩| ⟨m,_,_,e⟩| ⟨a,b,_,_,_,e⟩| ⟨l,e⟩)|⟨_,e⟩
 exact h7 e CA;exact .inr e;exact .inr e;exact .inl e;exact .inl e
theorem Ff{v:Int}(h:(p,tO n,v)∈XX es st g):rm (jA es st g) p (tO n)=2:=by
 have a:IG (jA es st g) p (tO n):=fB.mpr (EB.mpr (.inl #[v,h]));have l:HX p (tO n):=(PB _ h).1;rcases rX (es:=es) (st:=st) (g:=g) (p:=p) (q:=tO n) with(⟨_,_,e,_⟩| ⟨m,_,_,e⟩| ⟨a,b,_,_,_,e⟩| ⟨x,e⟩)|⟨z,e⟩
 exact h7 e CA;exact e;exact e;exact h7 l x;exact h7 a z
end
end
section
variable{es:gB}{st:LS}{g:Str}
def uF(es:gB)(st:LS)(g:Str):List Pt:=(jA es st g).map (·.1)
def fl(es:gB)(st:LS)(g:Str)(r:Rm)(p q:Pt):Int:=rm (jA es st g) p q - rm r p q
def out(es:gB)(st:LS)(g:Str)(r:Rm)(p:Pt):Int:=sm (uF es st g) (fl es st g r p)
structure Base(es:gB)(st:LS)(g:Str)(r:Rm):Prop where
 ndi:v9 r
 adj:∀p q,IG r p q↔IG (jA es st g) p q
 keys:r.map (·.1)=uF es st g
 nn:∀p q,0<=rm r p q
 anti:∀p q,fl es st g r p q=- fl es st g r q p
structure Flow(es:gB)(st:LS)(g:Str)(r:Rm):Prop extends Base es st g r where
 cons:∀x,x≠sA->x≠tO g->out es st g r x=0
theorem bF:(uF es st g).Nodup:=yD.ndk
theorem ua:Flow es st g (jA es st g):=by
 have e:∀p q,fl es st g (jA es st g) p q=0:=λp q=>by unfold fl;omega
 refine#[#[yD.ndi,λp q=>QAZ,rfl,λp q=>Pn,λp q=>by rw[e,e];rfl],λx _ _=>?_];unfold out;rw[RA (g:=λ_=>0) λq _=>e x q];exact SF _
theorem YB{p q:Pt}(h:IG (jA es st g) p q):IG (jA es st g) q p:=fB.mpr (yD.sym p q (fB.mp h)).1
theorem dB{p q:Pt}(h:IG (jA es st g) p q):p∈uF es st g:=EA.mp (yD.sym p q (fB.mp h)).2
theorem LO{p q:Pt}(h:IG (jA es st g) p q):p≠q:=by
 rcases EB.mp (fB.mp h) with⟨v,m⟩| ⟨v,m⟩
 exact eF (PB _ m).1;exact(eF (PB _ m).1).symm
section
variable{r:Rm}
theorem Base.dom(b:Base es st g r):V5 r:=λp q h=>by have a:=(b.adj p q).mp (fB.mpr h);rw[EA,b.keys];exact dB (YB a)
theorem Base.bg(b:Base es st g r):Key r sA:=by rw[EA,b.keys];refine EA.mp ?_;show Key (jA es st g) sA;rw[AD];exact rJ.mpr (.inl #[[],hQ rfl])
theorem Base.len(b:Base es st g r):r.9=(jA es st g).length:=by have:=Fz wR b.keys;unfold uF at this;rw[QF,QF]at this;exact this
theorem Base.adjw(b:Base es st g r){p q:Pt}(h:0<rm r p q):IG (jA es st g) p q:=(b.adj p q).mp (by
 unfold rm at h;cases e:look (lk r p) q with|none=>rw[e]at h;exact h7 h (Wg 0)|some v=>exact#[v,e])
theorem NN{u:Pt}{l:Inn}(h:u∈r.map (·.1)):(put r u l).map (·.1)=r.map (·.1):=by rw[put_keys,hQ h]
theorem Base.pushed(b:Base es st g r){u v:Pt}(h:0<rm r u v):Base es st g (cW r u v):=by
 have a:=b.adjw h;have y:=LO a;have e:=SR (r:=r) y;refine#[C7 y b.ndi,λp q=>?_,?_,λp q=>?_,λp q=>?_];rw[y9 y ((b.adj u v).mpr a) ((b.adj v u).mpr (YB a))];exact b.adj p q;have k:u∈r.map (·.1):=by rw[b.keys];exact dB a
 have f:v∈r.map (·.1):=by rw[b.keys];exact dB (YB a)
 unfold cW;rw[NN (by rw[NN k];exact f),NN k];exact b.keys;rw[e];have:=b.nn p q;by_cases c:p=u/\q=v;rw[hQ c,c.1,c.2];split<;>omega;rw[hI c];split<;>omega;unfold fl;rw[e,e];have:=b.anti p q;unfold fl at this;by_cases x:p=v/\q=u;rw[hQ x,hQ (c:=q=u/\p=v) #[x.2,x.1],hI (c:=p=u/\q=v) (λz=>y (z.1.symm.trans x.1)),hI (c:=q=v/\p=u) (λz=>y (z.2.symm.trans x.1))];omega;rw[hI x,hI (c:=q=u/\p=v) (λz=>x #[z.2,z.1])];by_cases w:p=u/\q=v;rw[hQ w,hQ (c:=q=v/\p=u) #[w.2,w.1]];omega;rw[hI w,hI (c:=q=v/\p=u) (λz=>w #[z.2,z.1])];omega
theorem BU(b:Base es st g r){u v:Pt}(h:0<rm r u v)(x:Pt):out es st g (cW r u v) x=out es st g r x+(if x=u then 1 else 0) - (if x=v then 1 else 0):=by
 have a:=b.adjw h;have f:=LO a;unfold out;have e:∀q,fl es st g (cW r u v) x q=fl es st g r x q+((if q=v then(if x=u then 1 else 0) else 0)+-(if q=u then(if x=v then 1 else 0) else 0)):=λq=>by unfold fl;rw[SR f];by_cases k:x=u;have w:x≠v:=λz=>f (k.symm.trans z);rw[hI (c:=x=v/\q=u) (λz=>w z.1),hQ k,hI w];by_cases y:q=v;rw[hQ (c:=x=u/\q=v) #[k,y],hQ y];split<;>omega;rw[hI (c:=x=u/\q=v) (λz=>y z.2),hI y];split<;>omega;rw[hI (c:=x=u/\q=v) (λz=>k z.1),hI k];by_cases w:x=v;rw[hQ w];by_cases y:q=u;rw[hQ (c:=x=v/\q=u) #[w,y],hQ y];split<;>omega;rw[hI (c:=x=v/\q=u) (λz=>y z.2),hI y];split<;>omega;rw[hI (c:=x=v/\q=u) (λz=>w z.1),hI w];split<;>split<;>omega
 rw[RA λq _=>e q,VG,VG,xI,uI bF (dB (YB a)),uI bF (dB a)];omega
end
section
variable{r y:Rm}{ks:List Pt}
theorem CF.find{vs:List D}(h:CF r ks vs){q:Pt}(m:q∈ks)(b:q≠sA):∃z u p k v,CF r z u/\p∈z/\Oa r p q/\q∉z/\ks=z++q::k/\vs=u++pr p::v:=by
 induction h with|bg=>exact h7 (QI.mp m) b|@add ks vs p x c i w n f=>by_cases e:q∈ks;let#[z,u,a,k,v,Z,Y,X,s,o,l]:=f e;exact#[z,u,a,k++[x],v++[pr p],Z,Y,X,s,by rw[o,qg];rfl,by rw[l,qg];rfl];have j:q=x:=QI.mp ((QW.mp m).resolve_left e);subst j;exact#[ks,vs,p,[],[],c,i,w,n,rfl,rfl]
structure LC(es:gB)(st:LS)(g:Str)(y r:Rm)(here:Pt)(ks:List Pt):Prop extends Base es st g r where
 cons:∀x,x≠sA->x≠tO g->out es st g r x=if x=here then 1 else 0
 val:out es st g r sA=out es st g y sA+if here=sA then 1 else 0
 fresh:∀p,∀q∈ks,rm y p q<=rm r p q
theorem V1(f:Flow es st g y)(ks:List Pt):LC es st g y y (tO g) ks:=by refine#[f.toBase,λx u h=>?_,?_,λp q _=>QD3 _];rw[hI h];exact f.cons x u h;rw[hI (λz=>NB z.symm)];omega
theorem A7{h p:Pt}{u:List Pt}(nd:v9 y)(l:LC es st g y r h ks)(e:h∈ks)(hb:h≠sA)(w:Oa y p h)(b:h∉u)(hs:∀q∈u,q∈ks):0<rm r p h/\LC es st g y (cW r p h) p u:=by have h0:0<rm r p h:=Int.lt_of_lt_of_le ((YR nd).mp w) (l.fresh p h e);have a:=LO (l.adjw h0);refine#[h0,l.toBase.pushed h0,λx k f=>?_,?_,λx q v=>?_];rw[BU l.toBase h0,l.cons x k f];split<;>split<;>omega;rw[BU l.toBase h0,l.val,hI hb,hI (c:=sA=h) (λz=>hb z.symm)];by_cases c:p=sA;rw[hQ c,hQ c.symm];omega;rw[hI c,hI (λz=>c z.symm)];omega;have k:=l.fresh x q (hs q v);rw[SR a,hI (c:=x=p/\q=h) (λz=>b (z.2▸v))];split<;>omega
theorem Ce(l:LC es st g y r sA ks):Flow es st g r/\out es st g r sA=out es st g y sA+1:=by refine#[#[l.toBase,λx h z=>?_],?_];rw[l.cons x h z,hI h];rw[l.val,hQ rfl]
end
end
section
variable{es:gB}{st:LS}{g:Str}{r:Rm}
section
variable{p q y:Pt}{n a:Str}{ks:List Pt}
theorem tJ(b:Base es st g r)(h:rm (jA es st g) q p=0):fl es st g r p q=rm r q p:=by have:=b.anti p q;unfold fl at this ⊢;omega
def GR(r:Rm)(n:Str):Int:=rm r (fR n) (tO n)
theorem FR(b:Base es st g r)(n:Str):fl es st g r (tO n) (fR n)=GR r n:=tJ b (NH λl=>UE (.inr (.inl #[n,rfl,rfl])) l)
theorem GJ(b:Base es st g r)(n:Str):GR r n<=1:=by rw[<- FR b];have x:=Lj (es:=es) (st:=st) (g:=g) (n:=n);have h:=b.nn (tO n) (fR n);unfold fl;omega
theorem DY(b:Base es st g r)(h:p∉uF es st g∨q∉uF es st g):rm r p q=0:=by refine lN λa=>?_;have a:=(b.adj p q).mp a;rcases h with h|h;exact h (dB a);exact h (dB (YB a))
theorem l9(l:List Pt)(nd:l.Nodup)(u:Pt)(k:Int)(h:u∉l->k=0):sm l (λx=>if x=u then k else 0)=k:=by by_cases m:u∈l;exact uI nd m;rw[uN m,h m]
def inn(r:Rm)(n:Str)(y:Pt):Int:=if y=fR n then 0 else rm r (tO n) y
theorem IN(f:Flow es st g r)(h:n≠g):sm (uF es st g) (inn r n)=GR r n:=by
 have c:=f.cons (tO n) (λz=>NB z.symm) (λz=>h (XB z));unfold out at c;have e:∀y,fl es st g r (tO n) y=(if y=fR n then GR r n else 0)+- inn r n y:=λy=>by unfold inn;by_cases e:y=fR n;rw[hQ e,hQ e,e,FR f.toBase];omega;rw[hI e,hI e];unfold fl;rw[Gf e];omega
 rw[RA λy _=>e y,VG,xI,l9 _ bF (fR n) (GR r n) (λz=>DY f.toBase (.inl z))]at c;omega
theorem EN(b:Base es st g r)(n:Str)(y:Pt):0<=inn r n y:=by unfold inn;split;decide;exact b.nn _ _
def S6(r:Rm)(n:Str)(y:Pt):Int:=if y=tO n then 0 else rm r y (fR n)
theorem UU(f:Flow es st g r)(n:Str):sm (uF es st g) (S6 r n)=GR r n:=by
 have c:=f.cons (fR n) (λz=>gE z.symm) (λz=>CA z.symm);unfold out at c;have e:∀y,fl es st g r (fR n) y=- (if y=tO n then GR r n else 0)+S6 r n y:=λy=>by unfold S6;by_cases e:y=tO n;rw[hQ e,hQ e,e];have:=f.anti (fR n) (tO n);rw[FR f.toBase]at this;omega;rw[hI e,hI e,tJ f.toBase (Rn e)];omega
 rw[RA λy _=>e y,VG,xI,l9 _ bF (tO n) (GR r n) (λz=>DY f.toBase (.inr z))]at c;omega
theorem Pd(b:Base es st g r)(n:Str)(y:Pt):0<=S6 r n y:=by unfold S6;split;decide;exact b.nn _ _
def aR(r:Rm)(n:Str):Prop:=0<rm r (tO n) sA
def Z5(r:Rm)(a b:Str):Prop:=a≠b/\0<rm r (tO b) (fR a)
theorem pI(b:Base es st g r)(h:aR r n):n∈st/\n≠g:=by
 rcases EB.mp (fB.mp (b.adjw h)) with⟨v,m⟩| ⟨v,m⟩
 exact h7 (PB _ m).1 λl=>by
  rcases l with⟨e,_⟩| ⟨_,_,e⟩| ⟨_,_,_,e,_⟩
  exact NB e.symm;exact gE e;exact CA e
 rcases PD.mp m with⟨k,mk,x,e|e⟩| ⟨e,_,_,y|y|y⟩
 ·exact h7 (Fz wl e) NB
 have:=Fz (λw:Wy=>w.2.1) e;rw[XB this];exact#[mk,x];exact h7 (Fz wl y) NB;exact h7 (Fz wl y) NB;exact h7 (Fz wl y) gE
theorem fe(b:Base es st g r){c:Str}(h:Z5 r a c):(a,c)∈es/\a≠g:=by
 rcases EB.mp (fB.mp (b.adjw h.2)) with⟨v,m⟩| ⟨v,m⟩
 exact h7 (PB _ m).1 λl=>by
  rcases l with⟨e,_⟩| ⟨k,z,x⟩| ⟨_,_,_,e,_⟩
  exact NB e.symm;exact h.1 ((LG x).trans (XB z).symm);exact CA e
 rcases PD.mp m with⟨k,mk,u,e|e⟩| ⟨e,f,u,y|y|y⟩
 ·exact h7 (Fz wl e).symm CA
 exact h7 (Fz wl e).symm gE;exact h7 (Fz wl y).symm CA;exact h7 (Fz wl y).symm CA;have z:a=e.1:=LG (Fz wl y);have x:c=e.2:=XB (Fz (λw:Wy=>w.2.1) y);rw[z,x];exact#[f,u.1]
theorem HS:inn r n sA=rm r (tO n) sA:=by unfold inn;exact hI gE
theorem KN(h:a≠n):inn r n (fR a)=rm r (tO n) (fR a):=by unfold inn;exact hI λz=>h (LG z)
theorem Y7(h:a≠n):S6 r a (tO n)=rm r (tO n) (fR a):=by unfold S6;exact hI λz=>h (XB z).symm
theorem aH(b:Base es st g r)(h:0<rm r p q):p∈uF es st g/\q∈uF es st g:=#[dB (b.adjw h),dB (YB (b.adjw h))]
theorem lV(f:Flow es st g r)(n:Str)(h:n≠g):rm r (tO n) sA<=1:=by by_cases c:0<rm r (tO n) sA;have z:=KG (λx _=>EN f.toBase n x) (aH f.toBase c).2;rw[IN f h,HS]at z;exact QCW z (GJ f.toBase n);omega
theorem n8(f:Flow es st g r)(h:aR r n):GR r n=1:=by have ng:=(pI f.toBase h).2;have z:=KG (λx _=>EN f.toBase n x) (aH f.toBase h).2;rw[IN f ng,HS]at z;have:=GJ f.toBase n;unfold aR at h;omega
theorem J7(f:Flow es st g r)(h:Z5 r a n)(ng:n≠g):GR r n=1:=by have z:=KG (λx _=>EN f.toBase n x) (aH f.toBase h.2).2;rw[IN f ng,KN h.1]at z;have:=GJ f.toBase n;have:=h.2;omega
theorem kY(f:Flow es st g r)(ng:n≠g){x:Pt}(u:0<inn r n x)(h:0<inn r n y):x=y:=by
 have w:x∈uF es st g:=by unfold inn at u;split at u;exact h7 u (Wg 0);exact(aH f.toBase u).2
 have v:y∈uF es st g:=by unfold inn at h;split at h;exact h7 h (Wg 0);exact(aH f.toBase h).2
 by_cases e:x=y;exact e;have k:=rY (λz _=>EN f.toBase n z) w v e;rw[IN f ng]at k;have:=GJ f.toBase n;omega
theorem HU(f:Flow es st g r){b:Str}(ng:n≠g)(x:Z5 r a n)(h:Z5 r b n):a=b :=
 LG (kY f ng (by rw[KN x.1];exact x.2) (by rw[KN h.1];exact h.2))
theorem vO(f:Flow es st g r)(x:aR r n)(h:Z5 r a n):False :=
 gE (kY f (pI f.toBase x).2 (by rw[HS];exact x) (by rw[KN h.1];exact h.2))
theorem MZ(f:Flow es st g r)(h:GR r n=1):∃y,y≠tO n/\0<rm r y (fR n):=by let#[y,_,x]:=sY (f:=S6 r n) (l:=uF es st g) (by rw[UU f,h];decide);unfold S6 at x;split at x;exact h7 x (Wg 0);rename_i ne;exact#[y,ne,x]
theorem O9(b:Base es st g r)(h:IG r y (fR n)):∃m,y=tO m:=by
 rcases EB.mp (fB.mp ((b.adj _ _).mp h)) with⟨v,m⟩| ⟨v,m⟩
 rcases(PB _ m).1 with⟨_,k,e⟩| ⟨k,e,_⟩| ⟨_,k,_,_,e⟩
 ·exact h7 e.symm CA
 exact#[k,e];exact h7 e.symm CA;rcases(PB _ m).1 with⟨e,_⟩| ⟨k,e,_⟩| ⟨_,k,_,_,e⟩
 ·exact h7 e.symm gE
 exact h7 e.symm CA;exact#[k,e]
theorem K0(b:Base es st g r)(h:IG r y sA):∃m,y=tO m:=by
 rcases EB.mp (fB.mp ((b.adj _ _).mp h)) with⟨v,m⟩| ⟨v,m⟩
 rcases(PB _ m).1 with⟨_,k,e⟩| ⟨k,_,e⟩| ⟨_,k,_,_,e⟩
 ·exact h7 e NB
 exact h7 e gE;exact h7 e NB;rcases(PB _ m).1 with⟨_,k,e⟩| ⟨k,e,_⟩| ⟨_,k,_,e,_⟩
 ·exact#[k,e]
 exact h7 e NB;exact h7 e gE
theorem de(f:Flow es st g r)(h:GR r n=1):∃m,Z5 r n m:=by let#[y,z,x]:=MZ f h;let#[m,rfl]:=O9 f.toBase ((f.adj _ _).mpr (f.toBase.adjw x));exact#[m,λe=>z (by rw[e]),x]
theorem FL(f:Flow es st g r){v:Int}(m:(p,tO n,v)∈XX es st g):0<rm r p (tO n):=by
 have c:=Ff m;have l:=(PB _ m).1;have h:fl es st g r p (tO n)=rm r (tO n) p:=tJ f.toBase (NH (UE l));unfold fl at h;rw[c]at h;have o:rm r (tO n) p<=1:=by
  rcases PD.mp m with⟨k,mk,z,e|e⟩| ⟨e,s,z,y|y|y⟩
  exact h7 (Fz (λw:Wy=>w.2.1) e) CA;have b:p=sA:=Fz wl e;have u:n=k:=XB (Fz (λw:Wy=>w.2.1) e);rw[b];exact lV f n (by rw[u];exact z);exact h7 (Fz (λw:Wy=>w.2.1) y) CA;exact h7 (Fz (λw:Wy=>w.2.1) y) CA;have b:p=fR e.1:=Fz wl y;have u:n=e.2:=XB (Fz (λw:Wy=>w.2.1) y);rw[b];by_cases c:0<rm r (tO n) (fR e.1);have j:e.1≠n:=by rw[u];exact z.2
  have i:=KG (λx _=>Pd f.toBase e.1 x) (aH f.toBase c).1;rw[UU f,Y7 j]at i;exact QCW i (GJ f.toBase _);omega
 omega
theorem eP{l m:List Pt}(v:l.Nodup)(u:m.Nodup)(h:∀x,x∈l↔x∈m):l.9=m.length:=by have a:=yG v λx z=>(h x).mp z;have b:=yG u λx z=>(h x).mpr z;omega
noncomputable def lG(ks:List Pt)(x:Pt):Bool:=decide (x.2="to")&&!decide (fR x.1∈ks)
theorem CD{x:Pt}:lG ks x=Jt↔∃n,x=tO n/\fR n∉ks:=by unfold lG;rw[Qe,Q4,Fy,decide_eq_false_iff_not];constructor;rintro⟨u,z⟩;exact#[x.1,QEE rfl u,z];rintro⟨n,rfl,h⟩;exact#[rfl,h]
theorem bN(p:Pt->Bool):∀(l:List Pt),sm l (λx=>if p x=Jt then 1 else 0)=(l.filter p).9
 |[]=>rfl|x::l=>by show(if p x=Jt then 1 else 0)+sm l _=_;rw[bN p l,Wl];by_cases c:p x=Jt;rw[hQ c,hQ c,QL];omega;rw[hI c,hI c];omega
theorem CQ(f:Flow es st g r)(nd:ks.Nodup)(hk:∀p,p∈ks↔Rch r p)(M:tO g∉ks):out es st g r sA=(ks.filter (lG ks)).length:=by
 have sub:∀p∈ks,p∈uF es st g:=λp L=>by have:=EA.mp (mH f.toBase.dom f.toBase.bg ((hk p).mp L));rw[f.keys]at this;exact this
 have o:∀x∈ks,∀y,y∉ks->rm r x y=0:=λx w y u=>by have:=f.nn x y;by_cases c:0<rm r x y;exact h7 ((hk y).mpr (.go ((hk x).mp w) ((YR f.ndi).mpr c))) u;omega
 have I:sm ((uF es st g).filter λx=>decide (x∈ks)) (λx=>out es st g r x)=out es st g r sA:=by
  have hb:sA∈ks:=(hk sA).mpr .bg;have e:∀x∈(uF es st g).filter (λx=>decide (x∈ks)),out es st g r x=if x=sA then out es st g r sA else 0:=λx w=>by by_cases c:x=sA;rw[hQ c,c];rw[hI c];exact f.cons x c λz=>M (z▸Fx (QZ.mp w).2)
  rw[RA e];exact uI (bF.sublist qY) (QZ.mpr #[sub _ hb,dT hb])
 have G:∀x∈(uF es st g).filter (λx=>decide (x∈ks)),sm ((uF es st g).filter λy=>!decide (y∈ks)) (fl es st g r x)=if lG ks x=Jt then 1 else 0:=λx w=>by
  have W:x∈ks:=Fx (QZ.mp w).2;have Z:=(QZ.mp w).1;have k:∀y∈(uF es st g).filter (λy=>!decide (y∈ks)),y∉ks/\fl es st g r x y=rm (jA es st g) x y:=λy u=>by have:=(QZ.mp u).2;rw[Q4,decide_eq_false_iff_not]at this;refine#[this,?_];unfold fl;rw[o x W y this];omega
  have B:∀y∈(uF es st g).filter (λy=>!decide (y∈ks)),∀n,y=tO n->fl es st g r x y=0:=λy u n e=>by
   let#[C,O]:=k y u;rw[O,e];by_cases A:x=fR n;rw[A];exact NH λl=>UE (.inr (.inl #[n,rfl,rfl])) l;rcases Hj (es:=es) (st:=st) (g:=g) A with z|z
   ·exact z
   have a:IG (jA es st g) x (tO n):=by refine qW λJ=>?_;rw[lN J]at z;exact h7 z (by decide)
   rcases EB.mp (fB.mp a) with⟨v,m⟩| ⟨v,m⟩
   have:=FL f m;rw[o x W (tO n) (e▸C)]at this;exact h7 this (Wg 0);rw[NH (UE (PB _ m).1)]
  rcases yD.kind x (EA.mpr Z) with e|⟨n,e|e⟩
  have i:¬ lG ks x=true:=λz=>by let#[n,j,_]:=CD.mp z;exact NB (e.symm.trans j)
  rw[hI i];rw[RA (g:=λ_=>0),SF];intro y u;by_cases t:∃n,y=tO n;let#[n,t]:=t;exact B y u n t;rw[(k y u).2,e];exact NH λl=>by
   rcases l with⟨_,z⟩| ⟨n,z,_⟩| ⟨_,b,_,_,z⟩
   exact t z;exact NB z;exact t #[b,z]
  by_cases X:fR n∈ks
  ·have i:¬ lG ks x=true:=λz=>by
    let#[m,j,h]:=CD.mp z;rw[<- XB (e.symm.trans j)]at h;exact h X
   rw[hI i,RA (g:=λ_=>0),SF];intro y u;rw[(k y u).2,e];exact Gf λz=>(k y u).1 (z▸X)
  rw[hQ (CD.mpr #[n,e,X])];have K:Key (jA es st g) (tO n):=by rw[<- e];exact EA.mpr Z
  have N:fR n∈uF es st g:=dB (YB (fB.mpr (xM K)));rw[RA (g:=λy=>if y=fR n then 1 else 0)];exact uI (bF.sublist qY) (QZ.mpr #[N,by rw[dF X];rfl]);intro y u;rw[(k y u).2,e];by_cases c:y=fR n;rw[hQ c,c,Hf K];rw[hI c,Gf c];have i:¬ lG ks x=true:=λz=>by let#[m,j,_]:=CD.mp z;exact CA (j.symm.trans e)
  rw[hI i,RA (g:=λ_=>0),SF];intro y u;by_cases t:∃n,y=tO n;let#[n,t]:=t;exact B y u n t;rw[(k y u).2,e];exact NH λl=>by
   rcases l with⟨z,_⟩| ⟨n,z,_⟩| ⟨_,b,_,_,z⟩
   exact gE z.symm;exact CA z.symm;exact t #[b,z]
 have F:∀x,out es st g r x=sm ((uF es st g).filter λy=>decide (y∈ks)) (fl es st g r x)+sm ((uF es st g).filter λy=>!decide (y∈ks)) (fl es st g r x):=λx=>nP _ _;have E:sm ((uF es st g).filter λx=>decide (x∈ks)) (λx=>out es st g r x)=sm ((uF es st g).filter λx=>decide (x∈ks)) (λx=>if lG ks x=Jt then 1 else 0):=by rw[RA λx _=>F x,VG,j6 _ λx _ y _=>f.anti x y,RA G];omega
 rw[<- I,E,bN];have:(((uF es st g).filter λx=>decide (x∈ks)).filter (lG ks)).9=(ks.filter (lG ks)).length:=by refine eP ((bF.sublist qY).sublist qY) (nd.sublist qY) λx=>?_;rw[QZ,QZ,QZ,Fy];exact#[λ#[#[_,s],Y]=>#[s,Y],λ#[s,Y]=>#[#[sub x s,s],Y]]
 rw[this]
theorem t8(f:Flow es st g r):out es st g r sA=(((lk r sA).map (·.1)).filter λy=>decide (0<rm r y sA)).length:=by
 have e:∀y∈uF es st g,fl es st g r sA y=if decide (0<rm r y sA)=Jt then 1 else 0:=λy x=>by rw[tJ f.toBase An];have h0:=f.nn y sA;by_cases c:0<rm r y sA;rw[dT c,hQ rfl];let#[n,e]:=K0 f.toBase ((f.adj _ _).mpr (f.toBase.adjw c));rw[e]at c ⊢;have:=lV f n (pI f.toBase c).2;omega;rw[dF c,hI (by decide)];omega
 unfold out;rw[RA e,bN];have:((uF es st g).filter λy=>decide (0<rm r y sA)).9=(((lk r sA).map (·.1)).filter λy=>decide (0<rm r y sA)).length:=by refine eP (bF.sublist qY) ((f.ndi sA).sublist qY) λy=>?_;rw[QZ,QZ,Fy];refine#[λ#[_,h]=>#[?_,h],λ#[_,h]=>#[(aH f.toBase h).1,h]];let#[v,hv]:=(f.adj sA y).mpr (YB (f.toBase.adjw h));exact QV.mpr #[(y,v),zG hv,rfl]
 rw[this]
theorem D8(f:Flow es st g r)(hk:∀p,p∈ks↔Rch r p)(X:tO g∉ks){cut:LS}(hc:∀n,tO n∈ks->fR n∉ks->n∈cut):¬ ∃a,(a,g)∈es/\Led es st g cut a:=by
 have w:∀p∈ks,∀n v,(p,tO n,v)∈XX es st g->tO n∈ks:=λp o n v m=>(hk _).mpr (.go ((hk _).mp o) ((YR f.ndi).mpr (FL f m)));have x:∀n,Led es st g cut n->fR n∈ks:=λn h=>by
  induction h with|@st s h k=>let#[i,u]:=xE.mp k;have t:=w sA ((hk _).mpr .bg) s 2 (PD.mpr (.inl #[s,h,i,.inr rfl]));exact qW λz=>u (hc s t z)|@ed a b l m k j=>let#[i,u]:=xE.mp k;by_cases e:a=b;rw[<- e];exact j;have t:=w (fR a) j b 2 (PD.mpr (.inr #[(a,b),m,#[(UK l).1,e],.inr (.inr rfl)]));exact qW λz=>u (hc b t z)
 rintro⟨a,m,l⟩;exact X (w (fR a) (x a l) g 2 (PD.mpr (.inr #[(a,g),m,#[(UK l).1,(UK l).1],.inr (.inr rfl)])))
end
end
inductive Run(r:Rm)(g f:Str):LS->Str->Prop
 |nil:Run r g f [] f
 |go {c:LS}{n m:Str}:Run r g f c n->n≠g->Z5 r n m->Run r g f (c++[n]) m
inductive Chn(es:gB)(st:LS)(g:Str):LS->Str->Prop
 |st {f:Str}:f∈st->f≠g->Chn es st g [] f
 |go {c:LS}{n m:Str}:Chn es st g c n->n≠g->(n,m)∈es->Chn es st g (c++[n]) m
section
variable{es:gB}{st:LS}{g:Str}{r:Rm}
section
variable{s n:Str}{c:LS}
theorem Run.chn(f:Flow es st g r)(hs:aR r s)(h:Run r g s c n):Chn es st g c n:=by
 induction h with|nil=>exact .st (pI f.toBase hs).1 (pI f.toBase hs).2|go _ ng x y=>exact .go y ng (fe f.toBase x).1
theorem Run.thr1(f:Flow es st g r)(hs:aR r s)(h:Run r g s c n)(ng:n≠g):GR r n=1:=by
 cases h with|nil=>exact n8 f hs|go _ _ x=>exact J7 f x ng
theorem Run.pred(h:Run r g s c n):∀x,x∈c∨x=n->x=s∨∃y∈c,Z5 r y x:=by
 induction h with
 |nil=>intro x u;exact u.elim (λz=>(nomatch z)) .inl
 |@go c n m _ _ v w =>
  intro x u;rcases u with u|rfl;have:x∈c∨x=n:=(QW.mp u).imp_right QI.mp;rcases w x this with z|⟨y,k,z⟩
  exact .inl z;exact .inr #[y,Qg _ k,z];exact .inr #[n,QS _ QD,v]
theorem Run.ng(h:Run r g s c n):∀x∈c,x≠g:=by
 induction h with
 |nil=>exact λx y=>(nomatch y)
 |go _ k _ u=>intro x y;rcases QW.mp y with z|z;exact u x z;rw[QI.mp z];exact k
theorem Run.nd(f:Flow es st g r)(hs:aR r s)(h:Run r g s c n):c.Nodup/\n∉c:=by
 induction h with
 |nil=>exact#[Qo,λz=>(nomatch z)]
 |@go c n m h k x u =>
  have nd:(c++[n]).Nodup:=qH.mpr #[u.1,Qa.mpr #[λz=>(nomatch z),Qo],λa w b hb z=>by rw[QI.mp hb]at z;exact u.2 (z▸w)];refine#[nd,λz=>?_];rcases QW.mp z with z|z;rcases h.pred m (.inl z) with e|⟨y,v,e⟩
  ·rw[e]at x;exact vO f hs x
  rw[HU f (h.ng m z) e x]at v;exact u.2 v;exact x.1 (QI.mp z).symm
theorem Run.apart(f:Flow es st g r){s':Str}(hs:aR r s)(b:aR r s'){l:LS}{p:Str}(h:Run r g s c n)(h':Run r g s' l p):∀x∈c,x∈l->s=s':=by
 induction h with
 |nil=>exact λx a=>(nomatch a)
 |@go c n m h k q i =>
  intro x a v;rcases QW.mp a with z|z;exact i x z v;have z:=QI.mp z;subst z;rcases h.pred x (.inr rfl) with e|⟨y,j,e⟩<;>rcases h'.pred x (.inl v) with u|⟨o,w,u⟩
  exact e.symm.trans u;rw[e]at u;exact(vO f hs u).elim;rw[u]at e;exact(vO f b e).elim;rw[HU f k e u]at j;exact i o j w
end
end
section
variable{es:gB}{st:LS}{g:Str}
theorem M8{cut:LS}{c:LS}{n:Str}(h:Chn es st g c n)(hc:∀x∈c,x∉cut)(ng:n≠g)(y:n∉cut):Led es st g cut n:=by
 induction h with|st h _=>exact .st h (xE.mpr #[ng,y])|@go c n m _ k e z=>exact .ed (z (λx u=>hc x (Qg _ u)) k (hc n (QS _ QD))) e (xE.mpr #[ng,y])
theorem A3{cut:LS}{c:LS}(h:Chn es st g c g)(hl:¬ ∃a,(a,g)∈es/\Led es st g cut a):∃x∈c,x∈cut:=by
 refine qW λz=>?_;have hc:∀x∈c,x∉cut:=λx y m=>z #[x,y,m];cases h with|st _ e=>exact e rfl|@go c n _ h k e=>exact hl #[n,e,M8 h (λx y=>hc x (Qg _ y)) k (hc n (QS _ QD))]
def IB:List (LS)->Prop
 |[]=>True|c::cs=>(∀d∈cs,∀x∈c,x∉d)/\IB cs
theorem X9{cut:LS}:∀{cs:List (LS)},IB cs->(∀c∈cs,∃x∈c,x∈cut)->∃u:LS,u.9=cs.9/\u.Nodup/\(∀p∈u,p∈cut)/\∀p∈u,∃c∈cs,p∈c
 |[],_,_=>#[[],rfl,Qo,λ_ z=>(nomatch z),λ_ z=>(nomatch z)]
 |c::cs,a,h=>by
  let#[u,f,e,b,k]:=X9 (cs:=cs) a.2 λd v=>h d (QC _ v);let#[x,w,hc]:=h c QD;refine#[x::u,by rw[QL,QL,f],Qa.mpr #[λz=>?_,e],λp y=>?_,λp y=>?_];let#[d,v,y]:=k x z;exact a.1 d v x w y;rcases QK.mp y with z|z
  ·rw[z];exact hc
  exact b p z;rcases QK.mp y with z|z
  ·exact#[c,QD,by rw[z];exact w]
  let#[d,v,y]:=k p z;exact#[d,QC _ v,y]
theorem lX{cut:LS}{cs:List (LS)}(a:IB cs)(h:∀c∈cs,Chn es st g c g)(hl:¬ ∃a,(a,g)∈es/\Led es st g cut a):cs.9<=cut.length:=by let#[u,z,y,x,_]:=X9 a λc hc=>A3 (h c hc) hl;rw[<- z];exact nC y x
end
section
variable{ks:List Pt}{vs:List D}{p:Pt}
noncomputable def GC(ks:List Pt)(vs:List D):List (D×D):=(ks.map pr).zip vs
theorem Df(ks:List Pt)(vs:List D):(P8 ks vs).er=.dict (GC ks vs):=by show PyData.dict ((ks.map pr).zip (ersT (vs.map T.d)))=_;rw[KA];rfl
theorem eJ(h:vs.9=ks.9):(GC ks vs).map (·.1)=ks.map pr:=QAv (by rw[QF];omega)
theorem O8(h:vs.9=ks.9):(GC ks vs).map (·.2)=vs:=QAw (by rw[QF];omega)
theorem MH(h:vs.9=ks.9)(m:p∈ks):RC (GC ks vs)=Jr true:=by
 cases ks with
 |nil=>exact(nomatch m)
 |cons x ks=>cases vs with|nil=>cases h|cons y vs=>rfl
theorem XQ{q:Pt}{u:List Pt}:∀{y:List Pt},q∉y->dA ((y++q::u).map pr) (pr q)=Jr y.9
 |[],_=>ca rfl|x::y,h=>by show dA (pr x::(y++q::u).map pr) (pr q)=_;rw[v3 (λz=>h (by rw[pN z];exact QD)),XQ λz=>h (QC _ z)];rfl
theorem Pg{h z:List Pt}{y x:List D}{q:Pt}{n m:Bool}{R:T->Prop}(u:y.9=h.9)(w:x.9=z.9)(v:q∉h)(k:R (.d (pr p))):xC (.d (.dict (GC (h++q::z) (y++pr p::x)))) n (.d (pr q)) m R:=by
 have hl:(y++pr p::x).9=(h++q::z).length:=by rw[QM,QM,QL,QL,u,w]
 refine Ng (MH hl (p:=q) (QS _ QD)) (pC q) (by rw[eJ hl];exact XQ v) ?_ k;rw[O8 hl,<- u,Q0 (QX _),QBQ];rfl
theorem IS(a b:Pt):qE (pr a) (pr b)=decide (a=b):=by
 rw[qd,Fy];have e:qE (pr a) (pr b)=(qE (.str a.1) (.str b.1)&&(qE (.str a.2) (.str b.2)&&Jt)):=by simp[pr,qE,PyData.eqvAll]
 rw[e,cO,cO,QCx,Qe,Fy,Fy];exact#[λh=>QEE h.1 h.2,λh=>by rw[h];exact#[rfl,rfl]]
def AH(es:gB)(st:LS):Prop:=(∀s∈st,qb s=Jt)/\∀e∈es,qb e.1=Jt/\qb e.2=Jt
theorem yE{a b:Str}(x:qb a=Jt)(h:qb b=Jt):UD (pr (a,b)):=by refine#[?_,?_];simp only[pr,QAC,wv,x,h,Bool.and_self];simp only[pr,QBP,Ww];decide
theorem mP:qb "to"=true:=by decide +kernel
theorem zU:qb "from"=true:=by decide +kernel
theorem ML:qb ""=Jt/\qb "begin"=true:=by decide +kernel
theorem L1{es:gB}{st:LS}{g:Str}(h:AH es st)(k:p∈uF es st g):UD (pr p):=by
 have k:Key (jA es st g) p:=EA.mpr k;rw[AD]at k;rcases rJ.mp k with z|⟨⟨u,v,c⟩,m,z⟩
 rw[QI.mp (EA.mp z)];exact yE ML.1 ML.2;have z:p=u∨p=v:=z;rcases PD.mp m with⟨n,w,_,e|e⟩| ⟨e,x,_,y|y|y⟩
 cases e;rcases z with z|z<;>subst z;exact yE (h.1 n w) mP;exact yE (h.1 n w) zU;cases e;rcases z with z|z<;>subst z;exact yE ML.1 ML.2;exact yE (h.1 n w) mP;cases y;rcases z with z|z<;>subst z;exact yE (h.2 e x).1 mP;exact yE (h.2 e x).1 zU;cases y;rcases z with z|z<;>subst z;exact yE (h.2 e x).2 mP;exact yE (h.2 e x).2 zU;cases y;rcases z with z|z<;>subst z;exact yE (h.2 e x).1 zU;exact yE (h.2 e x).2 mP
def SO(r:Rm)(x:List (D×D))(last:D)(h:Pt)(o4:Option Sl):kA:=[oW (kB r),bD (.dict x),bD last,bD (pr h),o4]
end
section
variable{Ψ:PEv}{Z:PEnds}{q:PT}{r:Rm}{h:List (D×D)}{last:D}{u v:Pt}
theorem bn(hk:Key r u)(ha:IG r u v)(hl:(lk r u).9<jz)(k:pF Ψ q Z (SO (put r u (put (lk r u) v (rm r u v - 1))) h last v (bD (pr u)))) :
  pF Ψ (.seq (.six (.idx (.xt 0) (.xt 4)) (.xt 3) (.bin .Sub (.idx (.idx (.xt 0) (.xt 4)) (.xt 3)) (.int 1))) q) Z (SO r h last v (bD (pr u))):=by
 let#[x,y]:=ha;have e:rm r u v=x:=by unfold rm;rw[y];rfl
 rw[e]at k;delta SO at k ⊢;simp![↓EG];refine tE hk ?_;simp![↓UV];refine MM y ?_;simp![↓zA];refine bH (vE hk) λf z=>zN hl ?_;rw[z];exact k
theorem vn(hk:Key r v)(ha:IG r v u)(hl:(lk r v).9<jz)(k:pF Ψ q Z (SO (put r v (put (lk r v) u (rm r v u+1))) h last v (bD (pr u)))) :
  pF Ψ (.seq (.six (.idx (.xt 0) (.xt 3)) (.xt 4) (.bin .Add (.idx (.idx (.xt 0) (.xt 3)) (.xt 4)) (.int 1))) q) Z (SO r h last v (bD (pr u))):=by
 let#[x,y]:=ha;have e:rm r v u=x:=by unfold rm;rw[y];rfl
 rw[e]at k;delta SO at k ⊢;simp![↓EG];refine tE hk ?_;simp![↓UV];refine MM y ?_;simp![↓zA];refine bH (vE hk) λf z=>zN hl ?_;rw[z];exact k
end
theorem Base.inn{es:gB}{st:LS}{g:Str}{r:Rm}(b:Base es st g r)(p:Pt):(lk r p).9<=(jA es st g).length:=by
 have:=yG (ns:=uF es st g) (b.ndi p) λq h=>by let#[e,x,z]:=QV.mp h;have a:IG r p q:=fB.mpr #[e.2,by rw[<- z];exact x];exact dB (YB ((b.adj p q).mp a))
 unfold uF at this;rw[QF,QF]at this;exact this
section
variable{Ψ:PEv}{Z:PEnds}{es:gB}{st:LS}{g:Str}
theorem R7{m r:Rm}{ks:List Pt}{vs:List D}{x:Pt}{last:D}{o4:Option Sl}{z v:List Pt}{b u:List D}(hsz:(jA es st g).9<=1000)(Q:v9 m)(G:CF m z b)(S:ks=z++v)(R:vs=b++u)(h9:u.9=v.9)(E:x∈z)(hb:x≠sA)(i:LC es st g m r x z)
  (k:∀h y n l p r',CF m h y->ks=h++n->vs=y++l->l.9=n.9->h.9<z.9->p∈h->LC es st g m r' p h->Z.nx (SO r' (GC ks vs) last p (bD (pr p)))) :
  pF Ψ TD Z (SO r (GC ks vs) last x o4):=by
 let#[h,y,p,j,e,I,P,w,A,X,F]:=G.find E hb;have L:=G.len;have J:=I.len;have H:e.9=j.length:=by rw[X,F,QM,QM,QL,QL]at L;omega
 have s:ks=h++x::(j++v):=by rw[S,X,qg];rfl
 have o:vs=y++pr p::(e++u):=by rw[R,F,qg];rfl
 let#[W,K]:=A7 Q i E hb w A λq O=>by rw[X];exact Qg _ O
 have a:=i.adjw W;have B:=LO a;have N:Key r p:=by rw[EA,i.keys];exact dB a
 have M:Key r x:=by rw[EA,i.keys];exact dB (YB a)
 have C:=i.toBase.inn;have Y:pF Ψ %[.set 3 (.xt 4)|2] Z (SO (cW r p x) (GC ks vs) last x (bD (pr p))):=by have:=k h y (x::(j++v)) (pr p::(e++u)) p (cW r p x) I s o (by rw[QL,QL,QM,QM];omega) (by rw[X,QM,QL];omega) P K;unfold SO at this;delta SO;simp![↓zA];exact this
 have f:pF Ψ %[.six (.idx (.xt 0) (.xt 4)) (.xt 3) (.bin .Sub (.idx (.idx (.xt 0) (.xt 4)) (.xt 3)) (.int 1)),.six (.idx (.xt 0) (.xt 3)) (.xt 4) (.bin .Add (.idx (.idx (.xt 0) (.xt 3)) (.xt 4)) (.int 1)),.set 3 (.xt 4)|2] Z (SO r (GC ks vs) last x (bD (pr p))):=by have i1:=C p;have i2:=C x;refine bn N ((i.adj _ _).mpr a) () (vn ?_ ?_ ?_ Y);exact BH.mpr (.inr M);show IG _ x p;have:=(i.adj x p).mpr (YB a);unfold IG at this ⊢;rw[OD,hI B];exact this;rw[OD,hI B];omega
 unfold SO at f;delta SO;delta TD;simp![↓zA];rw[s,o]at f ⊢;refine Pg J (by rw[QM,QM];omega) A ?_;simp![↓zA];exact f
end
section
variable{Ψ:PEv}{W:LT->Prop}{n m:Bool}{E:XE}{ρ:kA}{R:T->Prop}{a g f:Str}{es:gB}{st c:LS}{r:Rm}{Z:PEnds}{ks:List Pt}{vs:List D}{L:Bool->Prop}{Q:T->Bool->Prop}{i:Nat}{cs:List (LS)}
def kN:PSp where
 md:=[.chg]
 run:=λy Q _=>∃(es:gB) (st:LS) (g:Str) (h:Rm) (ks:List Pt) (vs:List D),y=[kB h,.d (.dict (GC ks vs)),.d (pr (tO g))]/\((jA es st g).9<=1000/\AH es st/\Flow es st g h/\CF h ks vs/\tO g∈ks)/\∀x,Flow es st g x->out es st g x sA=out es st g h sA+1->Q (.d .none) [kB x]
theorem ue(B:Ψ.va "BEGIN"=Jr (pr sA)):EO Ψ XF kN jJ rH:=by
 rintro _ Q _ ⟨es,st,g,k,ks,vs,rfl,⟨N,M,fl,cf,I⟩,q⟩;refine eI [oW (kB k),bD (.dict (GC ks vs)),bD (pr (tO g)),Js,Js] ?_;delta XF;simp![↓zA];refine yH (λm ρ=>∃r h x v u y o4,m=h.9/\CF k h x/\ks=h++v/\vs=x++u/\u.9=v.9/\y∈h/\LC es st g k r y h/\ρ=SO r (GC ks vs) (pr (tO g)) y o4) ks.9 #[k,ks,vs,[],[],tO g,_,rfl,cf,by rw[wH],by rw[wH],rfl,I,V1 fl ks,rfl] ?_;rintro m ρ ⟨r,h,x,v,u,y,o4,em,C,H,S,J,K,Y,rfl⟩;have o:UD (pr y):=L1 M (by have:=mH fl.toBase.dom fl.toBase.bg (C.rch y K);rw[EA,fl.keys]at this;exact this);have s:UD (pr sA):=yE ML.1 ML.2;have z:∀L:Bool->Prop,L (!decide (y=sA))->OC .NotEq (.d (pr y)) (.d (pr sA)) L:=λL l=>by show UD (pr y)/\UD (pr sA)/\L (!PyData.eqv (pr y) (pr sA));rw[IS];exact#[o,s,l]
 by_cases e:y=sA;subst e;delta SO;simp![↓iG B];refine z _ ?_;rw[dT rfl];let#[P,O]:=Ce Y;exact q r P O;have A:=λ(Z:PEnds) G=>R7 (Ψ:=Ψ) (Z:=Z) (last:=pr (tO g)) (o4:=o4) N fl.ndi C H S J K e Y G;unfold SO at A;delta SO;simp![↓iG B];refine z _ ?_;rw[dF e];refine A _ λw j X b p F a1 a2 a3 a4 a5 a6 a7=>#[w.9,(),F,w,j,X,b,p,_,rfl,a1,a2,a3,a4,a6,a7,rfl]
theorem EX{l:Inn}:DK .val [(mD l,Ju)] W=W ((l.map λe=>pr e.1).map T.d):=sQ _ _
theorem fc{kvs:List (D×D)}(h:RC kvs=Jr Jt):DK .val [(.d (.dict kvs),n)] W=W ((kvs.map (·.1)).map T.d):=by unfold DK GB;rw[fA];show BB .val [KB kvs] W=_;unfold KB;rw[h];exact sQ _ _
theorem G4{a b h:PX}{t:Str}{x:T}{R:Option T->Prop}:sG Ψ E [] [t] (.nm 0) (.and a b) h ρ x R=rN Ψ (.and a b) E (Jr (.kw x)::lockA ρ) λk z=>if k=Jt then rB Ψ h E z λy n _=>fC y n (R (Jr y)) else R none:=rfl
theorem JJ{p:Pt}:xC (.d (pr p)) n (.d (.int 0)) m R=R (.d (.str p.1)):=by delta pr;rw[OX,X4,OB]
theorem RX{p:Pt}:xC (.d (pr p)) n (.d (.int 1)) m R=R (.d (.str p.2)):=by delta pr;rw[OX,pk,OB]
theorem K9:(T.d (.tuple [.str a,.str "from"]))=.d (pr (fR a)):=rfl
theorem IY:(T.d (.tuple [.str a,.str "to"]))=.d (pr (tO a)):=rfl
def PF:PSp where
 md:=[.kw]
 run:=λh Q _=>∃(es:gB) (st:LS) (g:Str) (r:Rm) (n:Str),h=[kB r,.d (.str n)]/\((jA es st g).9<=1000/\Flow es st g r/\GR r n=1)/\∀m,Z5 r n m->Q (.d (.str m)) []
theorem tW:EO Ψ SD PF aG gF:=by
 rintro _ Q _ ⟨es,st,g,r,n,rfl,⟨M,fl,K⟩,q⟩;have J:=fl.toBase.inn (fR n);let#[b,k]:=de fl K;have l:IG r (fR n) (tO b):=(fl.adj _ _).mpr (YB (fl.toBase.adjw k.2));have s:Key r (fR n):=by rw[EA,fl.keys];exact dB ((fl.adj _ _).mp l)
 refine JA [Jr (.kw (kB r)),bD (.str n),Js] ?_;delta SD;simp![K9,↓EG];refine#[(),tE s ?_];simp![↓A4,↓EX];have F:((lk r (fR n)).map λe=>pr e.1).map T.d=((lk r (fR n)).map (·.1)).map λp=>T.d (pr p):=by rw[Qh,Qh];rfl
 rw[F];refine iA (λp=>T.d (pr p)) (λ(p:Pt)=>T.d (.str p.1)) (λp=>!decide (p.1=n)&&decide (0<rm r p (fR n))) ((lk r (fR n)).map (·.1)) [] _ (λx Y R u=>?_) (by show 0+((lk r (fR n)).map (·.1)).9<=_;rw[QF];omega) ?_;let#[e,A,C]:=QV.mp Y;have G:IG r (fR n) x:=fB.mpr #[e.2,by rw[<- C];exact A];have w:IG r x (fR n):=(fl.adj _ _).mpr (YB ((fl.adj _ _).mp G));have o:Key r x:=by rw[EA,fl.keys];exact dB ((fl.adj _ _).mp w)
 let#[v,hv]:=w;have B:rm r x (fR n)=v:=by unfold rm;rw[hv];rfl
 rw[B]at u;simp![↓G4,↓JJ,↓EG];by_cases c:x.1=n;rw[dT c]at u ⊢;exact u;rw[dF c]at u ⊢;simp only[QBV,↓reduceIte];refine tE o ?_;simp![↓UV];refine MM hv ?_;simp![↓JJ];by_cases d:0<v;rw[dT d]at u ⊢;exact u;rw[dF d]at u ⊢;exact u;have hm:tO b∈((lk r (fR n)).map (·.1)).filter λp=>!decide (p.1=n)&&decide (0<rm r p (fR n)):=by let#[v,hv]:=l;refine QZ.mpr #[QV.mpr #[_,zG hv,rfl],?_];rw[dF (show ¬ (tO b).1=n from λz=>k.1 z.symm),dT k.2];rfl
 cases j:((lk r (fR n)).map (·.1)).filter λp=>!decide (p.1=n)&&decide (0<rm r p (fR n)) with
 |nil=>rw[j]at hm;exact(nomatch hm)
 |cons y I =>
  have X:y∈((lk r (fR n)).map (·.1)).filter λp=>!decide (p.1=n)&&decide (0<rm r p (fR n)):=by rw[j];exact QD
  have h:=(QZ.mp X).2;rw[Qe,Q4,decide_eq_false_iff_not,Fy]at h;let#[m,rfl]:=O9 fl.toBase ((fl.adj _ _).mpr (fl.toBase.adjw h.2));rw[Qy,LA (λp:Pt=>Jx p.1)];simp![↓zA];rw[QU,X4];simp![↓zA];exact q m #[λz=>h.1 z.symm,h.2]
def dH:PSp where
 md:=[.kw]
 run:=λh Q _=>∃(es:gB) (st:LS) (g:Str) (r:Rm) (f:Str),h=[kB r,.d (.str f),.d (.str g)]/\((jA es st g).9<=1000/\Flow es st g r/\aR r f)/\∀c,Run r g f c g->Q (.lst ((c.map Jx).map T.d)) []
theorem Pc(fl:Flow es st g r)(w:aR r f){n:Str}(h:Run r g f c n):(∀x∈c,tO x∈uF es st g)/\tO n∈uF es st g:=by
 induction h with
 |nil=>exact#[λx y=>(nomatch y),(aH fl.toBase w).1]
 |go _ _ v u=>refine#[λx y=>?_,(aH fl.toBase v.2).1];rcases QW.mp y with z|z;exact u.1 x z;rw[QI.mp z];exact u.2
theorem gU(fl:Flow es st g r)(y:aR r f){n:Str}(h:Run r g f c n):c.9<=(jA es st g).length:=by
 have nd:=(h.nd fl y).1;have:=yG (ks:=c.map tO) (ns:=uF es st g) (QAm tO (λa b u z=>u (XB z)) nd) λp w=>by let#[x,v,e]:=QV.mp w;rw[<- e];exact(Pc fl y h).1 x v
 unfold uF at this;rw[QF,QF]at this;exact this
def Bf(r:Rm)(f g:Str)(c:LS)(n:Str):kA:=[Jr (.kw (kB r)),bD (.str f),bD (.str g),oW (.lst ((c.map Jx).map T.d)),bD (.str n)]
theorem N8(x:Ψ.sp "name_behind"=PF){n:Str}(hs:(jA es st g).9<=1000)(fl:Flow es st g r)(h:GR r n=1)(hl:c.9<=1000)(k:∀m,Z5 r n m->Z.nx (Bf r f g (c++[n]) m)) :
  pF Ψ aD Z (Bf r f g c n):=by
 delta Bf at k ⊢;delta aD;simp![↓MO,↓lA (md:=[.kw]) x rfl rfl];refine#[by rw[QF,QF];omega,#[_,_,_,_,_,rfl,#[hs,fl,h],λm nx=>?_]];have:=k m nx;rw[Qb,Qb]at this;simp![↓zA];exact this
theorem FZ(b:Ψ.sp "name_behind"=PF):EO Ψ AE dH IH pG:=by
 rintro _ Q _ ⟨es,st,g,r,f,rfl,⟨hs,fl,z⟩,q⟩;have u:jz=16777216:=qU;refine JA [Jr (.kw (kB r)),bD (.str f),bD (.str g),Js,Js] ?_;delta AE
 simp![↓zA];refine#[Q5 _,yH (λm ρ=>∃c n,m+c.9=1001/\Run r g f c n/\ρ=Bf r f g c n) 1001 #[[],f,rfl,.nil,rfl] ?_];rintro m ρ ⟨c,n,j,x,rfl⟩;have hl:=gU fl z x;by_cases e:n=g;subst e;delta Bf;simp![↓zA];exact q c x;have v:=λ(Z:PEnds) u=>N8 (Ψ:=Ψ) (Z:=Z) (f:=f) (g:=g) (c:=c) b hs fl (x.thr1 fl z e) () u;unfold Bf at v;delta Bf;simp![↓zA];rw[dF e];refine v _ λk w=>?_;have h:=x.go e w;have y:=gU fl z h;rw[QM,Qw]at y;exact#[m - 1,(),c++[n],k,by rw[QM,Qw];omega,h,rfl]
theorem Lf{q:Pt}(hv:vs.9=ks.9)(hb:sA∈ks):OC .NotIn (.d (pr q)) (.d (.dict (GC ks vs))) L=L (!decide (q∈ks)):=by show(∃b,RC (GC ks vs)=Jr b/\vF b (pr q)/\L (!(dA ((GC ks vs).map (·.1)) (pr q)).isSome))=_;rw[MH hv hb,eJ hv,xO];exact h8 #[λ#[_,_,_,h]=>h,λh=>#[Jt,rfl,pC q,h]]
theorem Ua{q:Pt}(hv:vs.9=ks.9)(hb:sA∈ks):OC .In (.d (pr q)) (.d (.dict (GC ks vs))) L=L (decide (q∈ks)):=by show(∃b,RC (GC ks vs)=Jr b/\vF b (pr q)/\L (dA ((GC ks vs).map (·.1)) (pr q)).isSome)=_;rw[MH hv hb,eJ hv,xO];exact h8 #[λ#[_,_,_,h]=>h,λh=>#[Jt,rfl,pC q,h]]
theorem Pi{ss:LS}(x:ss.9<64)(q:∀h:LS,h.Perm ss->gu h=Jt->Q (.lst ((h.map Jx).map T.d)) Jt):CL .sorted [(.lst ((ss.map Jx).map T.d),n)] Q:=by unfold CL GB;rw[oC];exact .inl #[_,ss,rfl,oA _,x,q]
theorem Ri{ls:List (LS)}(x:ls.9<64)(q:∀h:List (LS),h.Perm ls->Q (.lst ((h.map uD).map T.d)) Jt):CL .sorted [(.d (.list (ls.map uD)),n)] Q:=by unfold CL GB;rw[fA];exact .inr #[_,ls,rfl,oA _,x,q]
def AK(ks:List Pt):LS:=(ks.filter (lG ks)).map λp=>p.1
def xN:PSp where
 run:=λh Q _=>∃(ks:List Pt) (vs:List D),h=[.d (.dict (GC ks vs))]/\(vs.9=ks.9/\sA∈ks/\ks.9<=1000/\(ks.filter (lG ks)).9<64)/\∀cut:LS,cut.Perm (AK ks)->gu cut=Jt->Q (.lst ((cut.map Jx).map T.d)) []
theorem l7:EO Ψ SE xN EH oG:=by rintro _ Q _ ⟨ks,vs,rfl,⟨hv,hb,k,v⟩,q⟩;refine JA [bD (.dict (GC ks vs))] ?_;delta SE;simp![↓fc (MH hv hb),eJ hv];rw[<- LA];refine iA (λp=>T.d (pr p)) (λ(p:Pt)=>T.d (.str p.1)) (lG ks) ks [] _ (λx w R h=>?_) (by show 0+ks.9<=_;omega) ?_;have h:R (if(decide (x.2="to")&&!decide (fR x.1∈ks))=Jt then Jr (T.d (.str x.1)) else Js):=h;simp![↓G4,↓JJ,↓RX,K9,↓Lf hv hb];by_cases c:x.2="to";rw[dT c]at h ⊢;refine#[(),?_];by_cases d:fR x.1∈ks;rw[dT d]at h ⊢;exact h;rw[dF d]at h ⊢;exact h;rw[dF c]at h ⊢;exact h;rw[Qy,LA (λp:Pt=>Jx p.1),show((ks.filter (lG ks)).map λp=>Jx p.1)=(AK ks).map Jx by unfold AK;rw[Qh];rfl];refine Pi (by unfold AK;rw[QF];exact v) λy u z=>?_;simp![↓zA];exact q y u z
theorem xX(f:Flow es st g r):(((lk r sA).map (·.1)).filter λy=>decide (0<rm r y sA)).9<=st.length:=by
 have u:∀y∈((lk r sA).map (·.1)).filter (λy=>decide (0<rm r y sA)),y=tO y.1/\aR r y.1:=λy x=>by have h:=Fx (QZ.mp x).2;let#[n,rfl]:=K0 f.toBase ((f.adj _ _).mpr (f.toBase.adjw h));exact#[rfl,h]
 have nd:(((lk r sA).map (·.1)).filter λy=>decide (0<rm r y sA)).Nodup:=(f.ndi sA).sublist qY;have:=nC (ks:=(((lk r sA).map (·.1)).filter λy=>decide (0<rm r y sA)).map (·.1)) (ns:=st) (by
  refine QAm _ (λa b h=>h) (WZ (λ{a b} w hb v z=>?_) nd);exact v (by rw[(u a w).1,(u b hb).1,z])) λs hs=>by
  let#[y,x,e]:=QV.mp hs;rw[<- e];exact(pI f.toBase (u y x).2).1
 rw[QF]at this;exact this
theorem aI{α v:Type}{body:T->(Option T->Prop)->Prop}(P:α->v->Prop)(g:α->T)(f:v->T):∀(l:List α) (h:LT) (Q:LT->Prop),(∀x∈l,∀R:Option T->Prop,(∀y,P x y->R (Jr (f y)))->body (g x) R)->h.9+l.9<=jz->(∀u,Kv P l u->Q (h++u.map f))->oD body (l.map g) h Q
 |[],h,Q,_,hl,q=>by have:=q [] .nil;rw[we,wH]at this;exact#[by rw[Qr]at hl;omega,this]|x::r,h,Q,hb,hl,q=>by
  rw[QL]at hl;refine hb x QD _ λy k=>#[(),?_]
  refine aI P g f r _ Q (λz w=>hb z (QC _ w)) (by rw[QM,Qw];omega) λu b=>?_;have:=q (y::u) (.cons k b);rw[QU]at this;rw[qg];exact this
theorem Lb{r:PT}:SJ Ψ E r Z i (P8 ks vs) Jt ρ=pB Ψ E r Z (ρ.set i (bD (.dict (GC ks vs)))):=by unfold SJ;rw[Df];exact h8 #[λh=>h.2,λh=>#[rfl,h]]
def Gj(c:LS):T:=.lst ((c.map Jx).map T.d)
theorem Uf(cs:List (LS)):ersT (cs.map Gj)=cs.map uD:=by rw[bO,Qh];congr 1;funext c;show PyData.list (ersT ((c.map Jx).map T.d))=_;rw[KA];rfl
theorem yp{r:PT}:SJ Ψ E r Z i (.lst (cs.map Gj)) Jt ρ=pB Ψ E r Z (ρ.set i (bD (.list (cs.map uD)))):=by
 have e:(T.lst (cs.map Gj)).er=.list (cs.map uD):=by show PyData.list (ersT (cs.map Gj))=_;rw[Uf]
 unfold SJ;rw[e];exact h8 #[λh=>h.2,λh=>#[rfl,h]]
theorem xj{a b:LT}:sF [.lst a,.lst b]=.tup [.lst a,.lst b]:=rfl
theorem XI:∀{cs:List (LS)},IB cs↔cs.Pairwise λc d=>∀x∈c,x∉d
 |[]=>#[λ_=>.nil,λ_=>trivial]|c::cs=>by rw[QBU,<- XI];exact QAZ
theorem ZT{ds:List (LS)}(h:ds.Perm cs)(a:IB cs):IB ds:=XI.mpr ((h.pairwise_iff (λ{a b} z x u y=>z x y u)).mpr (XI.mp a))
structure Good(es:gB)(st:LS)(g:Str)(cs:List (LS))(cut:LS):Prop where
 chn:∀c∈cs,Chn es st g c g/\c.Nodup/\∀x∈c,x≠g
 apart:IB cs
 len:cs.9=cut.9
 few:cut.9<=11
 nd:cut.Nodup
 srt:gu cut=Jt
 ng:g∉cut
 led:¬ ∃a,(a,g)∈es/\Led es st g cut a
 okn:∀s∈cut,qb s=Jt
end
section
variable{es:gB}{st:LS}{g:Str}{r:Rm}
theorem AJ(f:Flow es st g r):∀{fs:LS}{cs:List (LS)},fs.Nodup->(∀s∈fs,aR r s)->Kv (λs c=>Run r g s c g) fs cs->IB cs/\(∀c∈cs,∃s∈fs,Run r g s c g)
 |_,_,_,_,.nil=>#[trivial,λ_ h=>(nomatch h)]
 |s::fs,c::cs,nd,hf,.cons h t=>by
  let#[b,a]:=Qa.mp nd;let#[j,k]:=AJ f a (λs hs=>hf s (QC _ hs)) t;refine#[#[λd w x i e=>?_,j],λd w=>?_];let#[u,y,v]:=k d w;have:=Run.apart f (hf s QD) (hf u (QC _ y)) h v x i e;exact b (this▸y);rcases QK.mp w with z|z
  ·rw[z];exact#[s,QD,h]
  let#[u,y,v]:=k d z;exact#[u,QC _ y,v]
def Bl(r:Rm):List Pt:=((lk r sA).map λe=>e.1).filter λy=>decide (0<rm r y sA)
def NS(r:Rm):LS:=(Bl r).map λp=>p.1
theorem T2(f:Flow es st g r):∀y∈Bl r,y=tO y.1/\aR r y.1:=λy x=>by have h:=Fx (QZ.mp x).2;let#[n,rfl]:=K0 f.toBase ((f.adj _ _).mpr (f.toBase.adjw h));exact#[rfl,h]
theorem Xj(f:Flow es st g r):(NS r).Nodup:=by have nd:(Bl r).Nodup:=(f.ndi sA).sublist qY;refine QAm _ (λa b h=>h) (WZ (λ{a b} y hb x z=>?_) nd);exact x (by rw[(T2 f a y).1,(T2 f b hb).1,z])
theorem MS(f:Flow es st g r):∀s∈NS r,aR r s:=λs hs=>by let#[y,h,e]:=QV.mp hs;rw[<- e];exact(T2 f y h).2
theorem sI(f:Flow es st g r):out es st g r sA=(NS r).9/\(NS r).9<=st.length:=by have x:=t8 f;have h:=xX f;unfold NS;rw[QF];exact#[x,h]
theorem nK{α x:Type}{P:α->x->Prop}{l:List α}{m:List x}(h:Kv P l m):l.9=m.length:=qt h
theorem l8(f:Flow es st g r)(B:AH es st)(E:st.9<=11){ks:List Pt}{vs:List D}(Z:CF r ks vs)(hk:∀p,p∈ks↔Rch r p)(o:tO g∉ks){cs ds:List (LS)}(X:Kv (λs c=>Run r g s c g) (NS r) cs)(j:ds.Perm cs){cut:LS}(w:cut.Perm (AK ks))(sc:gu cut=Jt):Good es st g ds cut:=by
 let#[I,G]:=AJ f (Xj f) (MS f) X;let#[O,N]:=sI f;have M:=CQ f Z.nd hk o;have L:(AK ks).9=(ks.filter (lG ks)).length:=by unfold AK;rw[QF]
 have J:=nK X;have u:∀s,s∈AK ks↔tO s∈ks/\fR s∉ks:=λs=>by unfold AK;rw[QV];constructor;rintro⟨y,A,e⟩;let#[v,x]:=QZ.mp A;let#[n,q,k]:=CD.mp x;subst q;have e:n=s:=e;subst e;exact#[v,k];rintro⟨v,x⟩;exact#[tO s,QZ.mpr #[v,CD.mpr #[s,rfl,x]],rfl]
 have l:(AK ks).Nodup:=by unfold AK;refine QAm _ (λa b h=>h) (WZ (λ{a b} C hb K z=>?_) (Z.nd.sublist (qY (p:=lG ks))));let#[n,F,_]:=CD.mp (QZ.mp C).2;let#[m,q,_]:=CD.mp (QZ.mp hb).2;subst F q;have z:n=m:=z;exact K (by rw[z])
 have W:=w.length_eq;refine#[λc hc=>?_,ZT j I,by rw[j.length_eq,W];omega,(),w.nodup_iff.mpr l,sc,λz=>o ((u g).mp (w.mem_iff.mp z)).1,?_,λs hs=>?_];let#[s,hs,i]:=G c (j.mem_iff.mp hc);have Y:=MS f s hs;exact#[i.chn f Y,(i.nd f Y).1,i.ng];exact D8 f hk o λn v x=>w.mem_iff.mpr ((u n).mpr #[v,x]);have v:=((u s).mp (w.mem_iff.mp hs)).1;have x:=EA.mp (mH f.toBase.dom f.toBase.bg ((hk _).mp v));rw[f.keys]at x;have k:=(L1 B x).1;simp only[pr,tO,QAC,wv,Qe]at k;exact k.1
end
def BO(es:gB)(st:LS)(g:Str)(r:Rm)(h:List (D×D))(o5 o6:Option Sl):kA:=[bD (.list (es.map pr)),bD (.list (st.map Jx)),bD (.str g),oW (kB r),bD (.dict h),o5,o6]
section
variable{Ψ:PEv}{Z:PEnds}{es:gB}{st:LS}{g:Str}{r:Rm}
section
variable{q:PT}{h:List (D×D)}{o6:Option Sl}
theorem Ko(u:Ψ.sp "rooms_of"=cH)(z:Ψ.sp "points_reached"=cF)(y:es.9<=126)(x:st.9<=11)(k:∀ks vs,CF (jA es st g) ks vs->(∀p,p∈ks↔Rch (jA es st g) p)->pF Ψ q Z (BO es st g (jA es st g) (GC ks vs) Js Js)) :
  pF Ψ (.seq (.own 3 (.call "rooms_of" %[.xt 0,.xt 1,.xt 2|1])) (.seq (.set 4 (.call "points_reached" %[.xt 3|1])) q)) Z [bD (.list (es.map pr)),bD (.list (st.map Jx)),bD (.str g),Js,Js,Js,Js]:=by
 have ok:=OP (g:=g) y x;delta BO at k;simp![↓lA (md:=[]) u rfl rfl,↓lA (md:=[.kw]) z rfl rfl];refine#[_,_,_,rfl,#[y,x],?_];simp![↓MO,↓lA (md:=[.kw]) z rfl rfl];refine#[_,_,rfl,#[(.inl rfl),ok.dom,ok.bg,ok.sz.1],λks vs hc hk=>?_];simp![↓Lb];exact k ks vs hc hk
theorem Zo(u:Ψ.sp "points_reached"=cF)(a:Ψ.sp "lay_chain"=kN){ks:List Pt}{vs:List D}(hs:(jA es st g).9<=1000)(v:AH es st)(f:Flow es st g r)(b:CF r ks vs)(w:tO g∈ks)
  (k:∀r' x y,Flow es st g r'->out es st g r' sA=out es st g r sA+1->CF r' x y->(∀p,p∈x↔Rch r' p)->Z.nx (BO es st g r' (GC x y) Js Js)) :
  pF Ψ ZC Z (BO es st g r (GC ks vs) Js Js):=by
 delta BO at k ⊢;delta ZC;simp![IY,↓dG (md:=[]) a rfl rfl,↓lA (md:=[.kw]) u rfl rfl];refine#[(),#[_,_,_,_,_,_,rfl,#[hs,v,f,b,w],λr' z e=>#[_,rfl,?_]]];simp![↓MO,↓lA (md:=[.kw]) u rfl rfl];refine#[_,_,rfl,#[(.inl rfl),z.toBase.dom,z.toBase.bg,(by rw[z.toBase.len];exact hs)],λx y hc hk=>?_];simp![↓Lb];exact k r' x y z e hc hk
theorem Yo(w:Ψ.va "BEGIN"=Jr (pr sA)){o5:Option Sl}(hs:(jA es st g).9<=1000)(f:Flow es st g r)(k:pF Ψ q Z (BO es st g r h (bD (.list ((NS r).map Jx))) o6)) :
  pF Ψ (.seq (.set 5 (.comp [] ["point"] (.nm 0) .val %[.idx (.xt 3) (.glo "BEGIN")|1] (.cmp .Gt (.idx (.idx (.xt 4) (.xt 0)) (.glo "BEGIN")) (.int 0)) (.idx (.xt 0) (.int 0)))) q) Z (BO es st g r h o5 o6):=by
 have s:=f.toBase.inn sA;delta BO at k ⊢;simp![↓EG,↓iG w];refine tE f.toBase.bg ?_;simp![↓A4,↓EX];have n:((lk r sA).map λe=>pr e.1).map T.d=((lk r sA).map λe=>e.1).map λp=>T.d (pr p):=by rw[Qh,Qh];rfl
 rw[n];refine iA (λp=>T.d (pr p)) (λ(p:Pt)=>T.d (.str p.1)) (λy=>decide (0<rm r y sA)) ((lk r sA).map λe=>e.1) [] _ (λx b R z=>?_) (by show 0+((lk r sA).map λe=>e.1).9<=_;rw[QF];omega) ?_;let#[e,i,l]:=QV.mp b;have o:IG r sA x:=fB.mpr #[e.2,by rw[<- l];exact i];have u:IG r x sA:=(f.adj _ _).mpr (YB ((f.adj _ _).mp o));have a:Key r x:=by rw[EA,f.keys];exact dB ((f.adj _ _).mp u)
 let#[v,hv]:=u;have j:rm r x sA=v:=by unfold rm;rw[hv];rfl
 rw[j]at z;simp![↓EG,↓iG w];refine tE a ?_;simp![↓UV,↓iG w];refine MM hv ?_;simp![↓JJ];by_cases d:0<v;rw[dT d]at z ⊢;exact z;rw[dF d]at z ⊢;exact z;rw[Qy,LA (λp:Pt=>Jx p.1)];have m:((((lk r sA).map λe=>e.1).filter λy=>decide (0<rm r y sA)).map λp=>Jx p.1)=(NS r).map Jx:=by unfold NS Bl;rw[Qh];rfl
 rw[m];simp![↓zA];exact k
theorem Jo(w:Ψ.sp "chain_from"=dH)(hs:(jA es st g).9<=1000)(a:st.9<=11)(f:Flow es st g r)(k:∀cs,Kv (λs c=>Run r g s c g) (NS r) cs->pF Ψ q Z (BO es st g r h (bD (.list ((NS r).map Jx))) (bD (.list (cs.map uD))))) :
  pF Ψ (.seq (.set 6 (.comp [] ["first"] (.nm 0) .val %[.xt 5|1] .nop (.call "chain_from" %[.xt 4,.xt 0,.xt 3|1]))) q) Z (BO es st g r h (bD (.list ((NS r).map Jx))) o6):=by
 have hl:=(sI f).2;delta BO at k ⊢;simp![↓zA];rw[<- LA Jx (NS r)];refine aI (λs c=>Run r g s c g) (λs=>T.d (.str s)) Gj (NS r) [] _ (λx z R v=>?_) (by show 0+(NS r).9<=_;omega) λcs u=>?_;simp![↓MO,↓lA (md:=[.kw]) w rfl rfl];refine#[_,_,_,_,_,rfl,#[hs,f,(MS f x z)],λc y=>?_];simp![↓zA];exact v c y;rw[Qy];simp![↓yp];exact k cs u
end
end
section
variable{es es':gB}{F sr z:LS}{x:Str}{n:Int}
noncomputable def fH:PSp where
 run:=λy Q _=>∃(es:gB) (st:LS) (g:Str),y=[.d (.list (es.map pr)),.d (.list (st.map Jx)),.d (.str g)]/\(es.9<=126/\st.9<=11/\AH es st)/\∀h cut,Good es st g h cut->Q (.tup [.lst ((h.map uD).map T.d),.lst ((cut.map Jx).map T.d)]) []
theorem GZ{Ψ:PEv}(P:Ψ.sp "rooms_of"=cH)(B:Ψ.sp "points_reached"=cF)(O:Ψ.sp "lay_chain"=kN)(N:Ψ.sp "chain_from"=dH)(A:Ψ.sp "full_names"=xN)(M:Ψ.va "BEGIN"=Jr (pr sA))(ds Q E)(h:fH.run ds Q E):Ep Ψ DF fH HF yF ds Q:=by
 let#[es,st,g,rfl,#[X,b,K],q]:=h;have Y:jz=16777216:=qU;have hs:(jA es st g).9<=1000:=(OP (g:=g) X b).sz.1;refine JA [bD (.list (es.map pr)),bD (.list (st.map Jx)),bD (.str g),Js,Js,Js,Js] ?_;refine Ko P B X b λj v R J=>?_;have b0:=sI (ua (es:=es) (st:=st) (g:=g));delta BO;simp![↓zA];refine yH (λm s=>∃r u a,(m:Int)+out es st g r sA=12/\Flow es st g r/\CF r u a/\(∀p,p∈u↔Rch r p)/\s=BO es st g r (GC u a) Js Js) (12 - out es st g (jA es st g) sA).toNat #[jA es st g,j,v,(),ua,R,J,rfl] ?_;rintro m s ⟨r,u,a,em,f,y,hk,rfl⟩;have bd:=sI f;by_cases k:tO g∈u;have w:=λ(Z:PEnds) Y=>Zo (Ψ:=Ψ) (Z:=Z) B O hs K f y k Y;unfold BO at w;delta BO;simp![IY,↓Ua y.len y.hb];refine#[(),?_];rw[dT k];refine w _ λC l i o e S L=>#[m - 1,?_,C,l,i,?_,o,S,L,rfl]
 have:=sI o;omega;have:=sI o;omega;have W:pF Ψ %[.set 5 (.comp [] ["point"] (.nm 0) .val %[.idx (.xt 3) (.glo "BEGIN")|1] (.cmp .Gt (.idx (.idx (.xt 4) (.xt 0)) (.glo "BEGIN")) (.int 0)) (.idx (.xt 0) (.int 0))),.set 6 (.comp [] ["first"] (.nm 0) .val %[.xt 5|1] .nop (.call "chain_from" %[.xt 4,.xt 0,.xt 3|1])),.ret (.tup %[.bi .sorted %[.xt 6|1],.call "full_names" %[.xt 4|1]|1])|2] (eZ Q) (BO es st g r (GC u a) Js Js):=by refine Yo M hs f (Jo N hs b f λcs w=>?_);have H:=nK w;have l3:=CQ f y.nd hk k;delta BO;simp![↓lA (md:=[]) A rfl rfl];refine Ri () λds G=>?_;simp![↓lA (md:=[]) A rfl rfl];refine#[_,_,rfl,#[y.len,y.hb,(Qf (y.le f.toBase.dom f.toBase.bg) (by rw[f.toBase.len];exact hs)),()],λcut I sc=>?_];simp![xj];exact#[(),q ds cut (l8 f K b y hk k w G I sc)]
 unfold BO at W;delta BO;simp![IY,↓Ua y.len y.hb];refine#[(),?_];rw[dF k];exact W
def uO(es:gB)(F:LS):gB:=es.filter λe=>decide (e.1∈F)
theorem DE{e:Str×Str}:e∈uO es F↔e∈es/\e.1∈F:=by unfold uO;rw[QZ,Fy]
def xF(es:gB)(sr:LS)(x:Str)(F:LS)(n:Int):Prop:=∃h:List (LS),IB h/\(∀c∈h,Chn (uO es F) sr x c x)/\n<=(h.9:Int)
theorem Chn.sub{g:Str}(v:∀e∈es,e∈es')(u:∀s∈sr,s∈z){c:LS}{n:Str}(h:Chn es sr g c n):Chn es' z g c n:=by
 induction h with|st a b=>exact .st (u _ a) b|go _ b c y=>exact .go y b (v _ c)
theorem xF.sub{v:LS}{u:Int}(i:∀e∈es,e∈es')(g:∀s∈sr,s∈z)(f:∀y∈F,y∈v)(w:u<=n)(h:xF es sr x F n):xF es' z x v u:=by let#[o,a,c,l]:=h;refine#[o,a,λd b=>Chn.sub (λe k=>?_) g (c d b),QCW w l];let#[m,j]:=DE.mp k;exact DE.mpr #[i e m,f _ j]
theorem A0{cs:List (LS)}{cut:LS}(h:Good (uO es F) sr x cs cut):xF es sr x F n↔n<=(cs.9:Int):=by constructor;rintro⟨y,a,c,l⟩;have:=lX a c h.led;rw[<- h.len]at this;exact QCW l (Int.ofNat_le.mpr this);exact λl=>#[cs,h.apart,λc hc=>(h.chn c hc).1,l]
inductive Held(es:gB)(sr:LS)(nd:List (Str×Int)):Str->Prop
 |see {x:Str}{n:Int}:(x,n)∈nd->x∈sr->Held es sr nd x
 |tell {x:Str}{n:Int}(F:LS):(x,n)∈nd->(∀y∈F,Held es sr nd y)->xF es sr x F n->Held es sr nd x
end
section
variable{es es':gB}{sr y:LS}{nd u:List (Str×Int)}
theorem JQ{S:LS}(e:∀x∈S,Held es sr nd x)(k:∀x n,(x,n)∈nd->x∈sr->x∈S)(w:∀x n,(x,n)∈nd->x∉S->¬ xF es sr x S n)(x:Str):x∈S↔Held es sr nd x:=by
 refine#[e x,λh=>?_];induction h with|see a b=>exact k _ _ a b|@tell x n F a _ m v=>by_cases z:x∈S;exact z;exact h7 (m.sub (λ_ h=>h) (λ_ h=>h) v (QD3 _)) (w x n a z)
theorem zO{x:Str}(h:Held es sr nd x):∃n,(x,n)∈nd:=by
 cases h with|see a _=>exact#[_,a]|tell _ a=>exact#[_,a]
end
noncomputable def aE:PSp where
 md:=[.ky,.ky,.kz]
 run:=λz Q _=>∃(x:gB) (h F:LS) (g:Str),z=[.d (.list (x.map pr)),.d (.list (h.map Jx)),.lst ((F.map Jx).map T.d),.d (.str g)]/\(x.9<=126/\h.9<=11/\AH x h)/\∀y cut,Good (uO x F) h g y cut->Q (.tup [.lst ((y.map uD).map T.d),.lst ((cut.map Jx).map T.d)]) []
theorem d7{Ψ:PEv}(w:Ψ.sp "apart_chains"=fH):EO Ψ rD aE FF IE:=by
 rintro _ Q _ ⟨h,u,F,g,rfl,⟨b,a,v⟩,q⟩;have k:(uO h F).9<=126:=Qf (WK _ _) b;have z:AH (uO h F) u:=#[v.1,λe f=>v.2 e (DE.mp f).1]
 refine JA [bD (.list (h.map pr)),bD (.list (u.map Jx)),Jr (.kw (.lst ((F.map Jx).map T.d))),bD (.str g)] ?_;delta rD;simp![↓lA (md:=[]) w rfl rfl];rw[<- LA pr h];refine iA (λp=>T.d (pr p)) (λ(p:Str×Str)=>T.d (pr p)) (λp=>decide (p.1∈F)) h [] _ (λx l R y=>?_) (by show 0+h.9<=_;omega) ?_;simp![↓JJ,cC,CB,FA,true_or];by_cases d:x.1∈F;rw[dT d]at y ⊢;exact y;rw[dF d]at y ⊢;exact y;rw[Qy,LA pr];simp![↓lA (md:=[]) w rfl rfl];refine#[_,_,_,rfl,#[k,a,z],λj cut i=>?_];simp![↓zA];exact q j cut i
section
variable{Ψ:PEv}{E:XE}{ρ:kA}{K:TK}{a b c h:PX}{ds:List D}{n m:Bool}{L:Bool->Prop}
def Cc(x:T)(n:Bool)(Ψ:PEv)(b:PX)(E:XE)(ρ:kA)(K:TK):Prop:=sq (α:=Option Int) (vA x n) ρ (λρ R=>(pe Ψ b E).e ρ λu _ y=>YD u.er λo=>R o y) λu y=>XG (vA x n).vw Js u λz k=>K z k y
def Gh(x:T)(n:Bool)(Ψ:PEv)(b:PX)(E:XE)(ρ:kA)(K:TK):Prop:=sq (α:=Option Int) (vA x n) ρ (λρ R=>(pe Ψ b E).e ρ λu _ y=>YD u.er λo=>R o y) λl y=>XG (vA x n).vw l Js λz k=>K z k y
def XU(x:T)(Q:Option Int->Prop):Prop:=YD x.er Q
theorem Ji{i:Int}{Q:Option Int->Prop}:XU (.d (.int i)) Q=Q (Jr i):=rfl
theorem oY{x:T}{R:Option Int->kA->Prop}:sq (α:=Option Int) x ρ (λρ (R:Option Int->kA->Prop)=>R Js ρ) R=R Js ρ:=by unfold sq;split<;>rfl
theorem k5{j:Nat}:rB Ψ (.slc a .nop (.xt j)) E ρ K=rB Ψ a E ρ λx n v=>Cc x n Ψ (.xt j) E v K:=by show(pe Ψ a E).e ρ (λx n v=>sq (α:=Option Int) (vA x n) v (λρ (R:Option Int->kA->Prop)=>R Js ρ) λl w=>sq (α:=Option Int) (vA x n) w (λρ R=>(pe Ψ (.xt j) E).e ρ λu _ y=>YD u.er λo=>R o y) λu y=>XG (vA x n).vw l u λz k=>K z k y)=_;simp only[oY];rfl
theorem gp{x:D}:Cc (.d x) n Ψ b E ρ K=rB Ψ b E ρ λu _ y=>XU u λo=>dN (.d x) n Js o λz k=>K z k y:=by cases n<;>rfl
theorem Uo{t u:Str}{x y:D}{R:Option T->Prop}{v:vt}:sG Ψ E [] [t,u] (.tp [0,1]) (.cmp v a b) h ρ (.d (.tuple [x,y])) R=rN Ψ (.cmp v a b) E (bD x::bD y::lockA ρ) λk z=>if k=Jt then rB Ψ h E z λy n _=>fC y n (R (Jr y)) else R none:=OB
theorem jl{j:Nat}{es:PX}:rB Ψ (.mt .reverse (.xt j) es) E ρ K=AC ρ[j]? λt=>KH .reverse t=Jt/\lK Ψ es E [] (ρ.set j (Jr (.kw t))) λxs x=>cE xs=Jt/\x[j]?=Jr (Jr (.kw t))/\JK .reverse t (zF xs) λr s'=>K r Jt (x.set j (Jr (.own s'))):=rfl
theorem Ze{N:T->T->Prop}:JK .reverse (.lst (ds.map T.d)) [] N=N (.d .none) (.lst (ds.reverse.map T.d)):=by refine h8 #[λ#[x,e,_,k]=>?_,λk=>#[ds,rfl,rfl,k]];injection e with e;have:=Fz ersT e;rw[KA,KA]at this;rw[this];exact k
theorem L4{t:T}{Q:T->Bool->Prop}:fE .Add (.d (.list ds)) n t m Q=fE .Add (.lst (ds.map T.d)) Ju t m Q:=by unfold fE;rw[fA];rfl
end
theorem M3{α:Type}(l:List α)(k:Nat):nD l Js (Jr (k:Int))=l.take k:=by
 unfold nD;have x:HT.sIx l.9 0 Js=0:=rfl;rw[x,List.drop_zero,QDa];have h:HT.sIx l.9 l.9 (Jr (k:Int))=min k l.length:=by unfold HT.sIx;simp only;split<;>omega
 rw[h,List.take_eq_take_iff];omega
theorem DQ{α:Type}(l:List α)(k:Nat):nD l (Jr (k:Int)) Js=l.drop k:=by
 unfold nD;have x:HT.sIx l.9 l.9 Js=l.length:=rfl;have h:HT.sIx l.9 0 (Jr (k:Int))=min k l.length:=by unfold HT.sIx;simp only;split<;>omega
 rw[x,h,List.take_of_length_le (by rw[Wh];omega)];by_cases c:k<=l.9;rw[Nat.min_eq_left c];rw[Nat.min_eq_right (),QDt,WA ()]
theorem Y8(a b:List D):(T.tup [.lst (a.map T.d),.lst (b.map T.d)]).er=.tuple [.list a,.list b]:=by show PyData.tuple [.list (ersT (a.map T.d)),.list (ersT (b.map T.d))]=_;rw[KA,KA]
theorem Gg{a b:List D}{m:Bool}{t:T}{R:T->Prop}:xC (.tup [.lst (a.map T.d),.lst (b.map T.d)]) Jt t m R=xC (.d (.tuple [.list a,.list b])) Ju t m R:=by
 have e:vA (.tup [.lst (a.map T.d),.lst (b.map T.d)]) Jt=.d (.tuple [.list a,.list b]):=by show T.d (T.tup [.lst (a.map T.d),.lst (b.map T.d)]).er=_;rw[Y8]
 unfold xC;rw[e];rfl
section
variable{Ψ:PEv}{E:XE}{ρ:kA}{a c h:PX}{W:LT->Prop}{R:Option T->Prop}{C:LT->Prop}{xs:List (T×Bool)}{ds:List D}{n m:Bool}
section
variable{md:List Md}{ts:LT}{b:Bool}{t u:Str}
theorem oR{as:PX}{M:List (T×Bool)->kA->Prop}:lK Ψ (.nr a as) E (.ky::md) ρ M=rB Ψ a E ρ λx n z=>T5 x n Ψ as E md z λxs y=>M ((x,n)::xs) y:=rfl
theorem Pp{d:D}:mB (.ky::md) ((.d d,n)::xs) C=mB md xs λts=>C (.d d::ts):=by
 have e:YA (.ky::md) ((.d d,n)::xs) []=(YA md xs []).map (.d d::·):=by cases n<;>rfl
 unfold mB;rw[e,lF]
theorem yh:DK .val [(.lst ts,Ju)] W=W ts:=by unfold DK GB;exact CK ts
theorem Yk{m:List Bool}{x y:D}{v:vt}:sG Ψ E (b::m) [t,u] (.tp [0,1]) (.cmp v a c) h ρ (.d (.tuple [x,y])) R=rN Ψ (.cmp v a c) E (bD x::bD y::PC (b::m) (lockA ρ)) λk z=>if k=Jt then rB Ψ h E z λy n _=>fC y n (R (Jr y)) else R none:=OB
theorem Xo{m:List Bool}{x y:T}:sG Ψ E (b::m) [t,u] (.tp [0,1]) .nop h ρ (.tup [x,y]) R=rB Ψ h E (Jr (.kw x)::Jr (.kw y)::PC (b::m) (lockA ρ)) λy n _=>fC y n (R (Jr y)):=OB
theorem vr:ZK ((.lst [],Jt)::xs) C=ZK xs λts=>C (.lst []::ts):=jp (ds:=[])
theorem vj{d:D}:sF [.d d,.lst ts]=.tup [.d d,.lst ts]:=rfl
theorem Pj{i j:Int}{L:Bool->Prop}:OC .GtE (.d (.int i)) (.d (.int j)) L=L (decide (j<=i)):=rfl
end
end
noncomputable abbrev Rw:=Str×List (LS)
noncomputable def UG(r:Rw):T:=.tup [.d (.str r.1),.lst ((r.2.map uD).map T.d)]
def yI(p:Str×Int):D:=.tuple [.str p.1,.int p.2]
def vX(es:gB)(sr:LS)(nd:List (Str×Int))(h:List Rw)(F:LS)(b:Bool)(o6 o7 o8:Option Sl):kA:=[bD (.list (es.map pr)),bD (.list (sr.map Jx)),bD (.list (nd.map yI)),oW (.lst (h.map UG)),oW (.lst ((F.map Jx).map T.d)),bD (.bool b),o6,o7,o8]
section
variable{Ψ:PEv}{Z:PEnds}{es:gB}{sr:LS}{nd:List (Str×Int)}{q:PT}
section
variable{o5 o6 o7 o8:Option Sl}{h:List Rw}
noncomputable def tP(sr:LS)(nd:List (Str×Int)):List Rw:=(nd.filter λp=>decide (p.1∈sr)).map λp=>(p.1,[])
theorem Gn(hl:nd.9<=100){o4:Option Sl}(k:pF Ψ q Z [bD (.list (es.map pr)),bD (.list (sr.map Jx)),bD (.list (nd.map yI)),oW (.lst ((tP sr nd).map UG)),o4,o5,o6,o7,o8]) :
  pF Ψ (.seq (.own 3 (.comp [Ju,Ju,Ju,Ju,Ju,Ju,Jt,Jt] ["name","number"] (.tp [0,1]) .val %[.xt 2|1] (.cmp .In (.xt 0) (.xt 3)) (.tup %[.xt 0,.lst .ny|1]))) q) Z [bD (.list (es.map pr)),bD (.list (sr.map Jx)),bD (.list (nd.map yI)),Js,o4,o5,o6,o7,o8]:=by
 simp![↓zA];rw[<- LA yI nd];refine iA (λp=>T.d (yI p)) (λ(p:Str×Int)=>UG (p.1,[])) (λp=>decide (p.1∈sr)) nd [] _ (λx z R y=>?_) (by show 0+nd.9<=_;omega) ?_;let#[x,n]:=x;delta yI;simp![↓Yk,cC,CB,FA,true_or];by_cases d:x∈sr;rw[dT d]at y ⊢;simp![↓vr,↓vj];exact#[(),(),y];rw[dF d]at y ⊢;exact y;rw[Qy];have e:(nd.filter λp=>decide (p.1∈sr)).map (λp=>UG (p.1,[]))=(tP sr nd).map UG:=by unfold tP;rw[Qh];rfl
 rw[e];exact k
theorem Fn(hl:h.9<=100)(k:pF Ψ q Z [bD (.list (es.map pr)),bD (.list (sr.map Jx)),bD (.list (nd.map yI)),oW (.lst (h.map UG)),oW (.lst (((h.map λr=>r.1).map Jx).map T.d)),o5,o6,o7,o8]) :
  pF Ψ (.seq (.own 4 (.comp [Ju,Ju,Ju,Ju,Ju,Ju,Jt,Ju,Jt] ["name","chains"] (.tp [0,1]) .val %[.xt 3|1] .nop (.xt 0))) q) Z [bD (.list (es.map pr)),bD (.list (sr.map Jx)),bD (.list (nd.map yI)),oW (.lst (h.map UG)),Js,o5,o6,o7,o8]:=by
 simp![↓yh];refine iC UG (λr=>T.d (.str r.1)) h [] _ (λx z R y=>?_) (by show 0+h.9<=_;omega) ?_;delta UG;simp![↓Xo];exact y;rw[Qy,LA (λr:Rw=>Jx r.1)];have e:(h.map λr=>Jx r.1)=(h.map λr=>r.1).map Jx:=by rw[Qh];rfl
 rw[e];exact k
theorem Cn(f:Ψ.sp "told_through"=aE){F:LS}{b:Bool}{x:Str}{n:Int}(a:es.9<=126)(k:sr.9<=11)(e:AH es sr)(j:h.9<=100)(i:F.9<=100)
  (w:x∈F->∀o8,Z.nx (vX es sr nd h F b (bD (.str x)) (bD (.int n)) o8))
  (v:x∉F->¬ xF es sr x F n->∀o8,Z.nx (vX es sr nd h F b (bD (.str x)) (bD (.int n)) o8))
  (u:x∉F->xF es sr x F n->∀cs o8,Z.nx (vX es sr nd (h++[(x,cs)]) (F++[x]) Jt (bD (.str x)) (bD (.int n)) o8)) :
  pF Ψ YC Z (vX es sr nd h F b (bD (.str x)) (bD (.int n)) o8):=by
 delta vX at w v u ⊢;delta YC;simp![cC,CB,FA,true_or];by_cases d:x∈F;rw[dT d];exact w d _;rw[dF d];simp![↓oR,↓Pp,↓lA (md:=[.ky,.ky,.kz]) f rfl rfl];refine#[_,_,_,_,rfl,#[a,k,e],λcs cut g=>?_];have y:=A0 (n:=n) g;simp![↓Gg,↓X4,↓Pj,QF];by_cases c:n<=(cs.9:Int);rw[dT c];simp![↓k5,↓gp,↓Ji,↓vj];rw[gO];refine#[(),(),by rw[QF,QF];omega,?_];have:=u d (y.mpr c) (nD cs Js (Jr n)) (bD (.list (cs.map uD)));rw[Qb,Qb,Qb]at this;exact this;rw[dF c];exact v d (λz=>c (y.mp z)) _
end
end
structure GI(es:gB)(sr:LS)(nd:List (Str×Int))(rs:List Rw)(F:LS):Prop where
 e:F=rs.map λr=>r.1
 ndp:F.Nodup
 held:∀x∈F,Held es sr nd x
 see:∀x n,(x,n)∈nd->x∈sr->x∈F
 non:∀r∈rs,r.1∈sr->r.2=[]
section
variable{es:gB}{sr:LS}{nd:List (Str×Int)}{u:List Rw}{F:LS}
theorem GI.len(g:GI es sr nd u F):F.9<=nd.length:=by
 have:=nC (ns:=nd.map λp=>p.1) g.ndp λs hs=>by let#[n,h]:=zO (g.held s hs);exact QV.mpr #[_,h,rfl]
 rw[QF]at this;exact this
theorem GI.rlen(g:GI es sr nd u F):u.9=F.length:=by rw[g.e,QF]
theorem Xn(h:(nd.map λp=>p.1).Nodup):GI es sr nd (tP sr nd) ((tP sr nd).map λr=>r.1):=by
 have e:((tP sr nd).map λr=>r.1)=(nd.filter λp=>decide (p.1∈sr)).map λp=>p.1:=by unfold tP;rw[Qh];rfl
 refine#[rfl,?_,λx y=>?_,λx n y hs=>?_,λr z _=>?_];rw[e];exact h.sublist (qY.map _);rw[e]at y;let#[p,v,rfl]:=QV.mp y;let#[k,w]:=QZ.mp v;exact .see (n:=p.2) k (Fx w);rw[e];exact QV.mpr #[(x,n),QZ.mpr #[y,dT hs],rfl];unfold tP at z;let#[p,_,rfl]:=QV.mp z;rfl
theorem GI.add(g:GI es sr nd u F){x:Str}{n:Int}(v:(x,n)∈nd)(w:x∉F)(m:xF es sr x F n)(cs:List (LS)):GI es sr nd (u++[(x,cs)]) (F++[x]):=by
 refine#[by rw[Qb,<- g.e];rfl,qH.mpr #[g.ndp,Qa.mpr #[λz=>(nomatch z),Qo],λa i b hb e=>?_],λy h=>?_,λy k h hs=>Qg _ (g.see y k h hs),λr f hs=>?_];rw[QI.mp hb]at e;exact w (e▸i);rcases QW.mp h with z|z
 ·exact g.held y z
 rw[QI.mp z];exact .tell F v g.held m;rcases QW.mp f with z|z
 ·exact g.non r z hs
 rw[QI.mp z]at hs;exact h7 (g.see x n v hs) w
end
def fF:PSp where
 run:=λu Q _=>∃(y:gB) (h:LS) (nd:List (Str×Int)),u=[.d (.list (y.map pr)),.d (.list (h.map Jx)),.d (.list (nd.map yI))]/\(y.9<=126/\h.9<=11/\AH y h/\nd.9<=90/\(nd.map λp=>p.1).Nodup)/\∀z F,GI y h nd z F->(∀x,x∈F↔Held y h nd x)->Q (.lst (z.map UG)) []
theorem jW{es:gB}{sr:LS}{nd:List (Str×Int)}{K:T->LT->Prop}{E:XE}(l:es.9<=126/\sr.9<=11/\AH es sr/\nd.9<=90/\(nd.map λp=>p.1).Nodup)(q:∀h F,GI es sr nd h F->(∀x,x∈F↔Held es sr nd x)->K (.lst (h.map UG)) []):yW fF [.d (.list (es.map pr)),.d (.list (sr.map Jx)),.d (.list (nd.map yI))] K E:=#[es,sr,nd,rfl,l,q]
section
variable{Ψ:PEv}{Z:PEnds}{es:gB}{sr:LS}{nd:List (Str×Int)}{u:List Rw}{F:LS}
theorem Bn(L:Ψ.sp "told_through"=aE)(G:es.9<=126)(E:sr.9<=11)(J:AH es sr)(O:nd.9<=90){b:Bool}{o6 o7 o8:Option Sl}(g:GI es sr nd u F)
  (k:∀v w a o6 o7 o8,GI es sr nd v w->F.9<=w.9->(a=Jt->F.9<w.9)->(a=Ju->∀x n,(x,n)∈nd->x∉w->¬ xF es sr x w n)->Z.nx (vX es sr nd v w a o6 o7 o8)) :
  pF Ψ JC Z (vX es sr nd u F b o6 o7 o8):=by
 delta vX;delta JC;simp![↓zA];rw[<- LA yI nd];refine cB (λ(p:Str×Int)=>T.d (yI p)) (λl r=>∃v w a o6 o7 o8,GI es sr nd v w/\(∀p∈l,p∈nd)/\F.9<=w.9/\(a=Jt->F.9<w.9)/\(a=Ju->∀x n,(x,n)∈nd->(x,n)∈l∨x∈w∨¬ xF es sr x w n)/\r=vX es sr nd v w a o6 o7 o8) ?_ ?_ _ _ #[u,F,Ju,_,_,_,g,λ_ z=>z,QX _,λz=>(nomatch z),λ_ x n h=>.inl h,rfl];rintro r ⟨v,w,a,B,A,K,f,_,q,o,j,rfl⟩;exact k v w a _ _ _ f q o λhb x n Y i=>((j hb x n Y).resolve_left λz=>(nomatch z)).resolve_left i;rintro⟨x,n⟩ l r N W ⟨v,w,a,B,A,K,f,m,q,o,j,rfl⟩;have Y:=m _ QD;have s:∀p∈l,p∈nd:=λp I=>m p (QC _ I);have Q:=f.len;have P:=f.rlen;refine kC.mk rfl ?_;refine Cn (x:=x) (n:=n) L G E J () () (λi o8=>W _ #[v,w,a,_,_,_,f,s,q,o,λhb y k X=>?_,rfl]) (λi nm o8=>W _ #[v,w,a,_,_,_,f,s,q,o,λhb y k X=>?_,rfl]) λi C M o8=>W _ #[_,_,Jt,_,_,_,f.add Y i C M,s,?_,λ_=>?_,λz=>(nomatch z),rfl];rcases j hb y k X with z|z
 ·rcases QK.mp z with e|z
  ·cases e
   exact .inr (.inl i)
  exact .inl z
 exact .inr z;rcases j hb y k X with z|z
 ·rcases QK.mp z with e|z
  ·cases e
   exact .inr (.inr nm)
  exact .inl z
 exact .inr z;rw[QM,Qw];omega;rw[QM,Qw];omega
end
theorem HZ{Ψ:PEv}(r:Ψ.sp "told_through"=aE):EO Ψ BF fF GF jF:=by
 rintro _ Q _ ⟨es,sr,nd,rfl,⟨j,i,o,f,p⟩,q⟩;refine JA [bD (.list (es.map pr)),bD (.list (sr.map Jx)),bD (.list (nd.map yI)),Js,Js,Js,Js,Js,Js] ?_;have u:=Xn (es:=es) (sr:=sr) p;have A:=u.len;have K:=u.rlen;refine Gn () (Fn () ?_);simp![↓zA];refine yH (λm v=>∃h F b o6 o7 o8,m=2 * (nd.9 - F.9)+(if b=Jt then 1 else 0)/\GI es sr nd h F/\(b=Ju->∀x n,(x,n)∈nd->x∉F->¬ xF es sr x F n)/\v=vX es sr nd h F b o6 o7 o8) _ #[_,_,Jt,Js,Js,Js,rfl,u,λz=>(nomatch z),rfl] ?_;rintro m v ⟨h,F,b,o6,o7,o8,a,g,s,rfl⟩;cases b with
 |true =>
  have w:=λ(Z:PEnds) l=>Bn (Ψ:=Ψ) (Z:=Z) (b:=Jt) (o6:=o6) (o7:=o7) (o8:=o8) r j i o f g l;unfold vX at w;delta vX;simp![↓zA];refine w _ λy W e o6 o7 o8 k B Y X=>#[_,?_,y,W,e,o6,o7,o8,rfl,k,X,rfl]
  have:=k.len;cases e with|true=>have:=Y rfl;rw[a,hQ rfl];omega|false=>rw[a,hQ rfl,hI QG];omega
 |false=>delta vX;simp![↓zA];exact q h F g λx=>JQ g.held g.see (s rfl) x
def zJ(r:Rw):D:=.tuple [.str r.1,.list (r.2.map uD)]
noncomputable def Hl(y:Str×LS):D:=.tuple [.str y.1,.list (y.2.map Jx)]
theorem b6(h:List Rw):ersT (h.map UG)=h.map zJ:=by rw[bO,Qh];congr 1;funext r;show PyData.tuple [.str r.1,.list (ersT ((r.2.map uD).map T.d))]=_;rw[KA];rfl
section
variable{Ψ:PEv}{E:XE}{ρ:kA}{r:PT}{Z:PEnds}{i:Nat}{n:Bool}{md:List Md}{xs:List (T×Bool)}{C:LT->Prop}{ds:List D}
theorem eg{x:List Rw}:SJ Ψ E r Z i (.lst (x.map UG)) Jt ρ=pB Ψ E r Z (ρ.set i (bD (.list (x.map zJ)))):=by
 have e:(T.lst (x.map UG)).er=.list (x.map zJ):=by show PyData.list (ersT (x.map UG))=_;rw[b6]
 unfold SJ;rw[e];exact h8 #[λh=>h.2,λh=>#[rfl,h]]
theorem No:mB (.kz::md) ((.d (.list ds),n)::xs) C=mB md xs λts=>C (.lst (ds.map T.d)::ts):=Op (by rw[fA];simp only[EE,T.vw,oA,qO])
theorem bj{d:D}{ts:LT}:sF [.d d,.lst ts]=.tup [.d d,.lst ts]:=rfl
end
def c5(es:gB)(sr F:LS)(x:Str)(y:Str×LS):Prop:=y.1=x/\∃h,Good (uO es F) sr x h y.2
noncomputable def rZ(nd:List (Str×Int))(F:LS):LS:=(nd.filter λp=>!decide (p.1∈F)).map λp=>p.1
def pY:PSp where
 run:=λv Q _=>∃(y:gB) (h:LS) (nd:List (Str×Int)),v=[.d (.list (y.map pr)),.d (.list (h.map Jx)),.d (.list (nd.map yI))]/\(y.9<=126/\h.9<=11/\AH y h/\nd.9<=90/\(nd.map λp=>p.1).Nodup)/\∀u F z,GI y h nd u F->(∀x,x∈F↔Held y h nd x)->Kv (c5 y h F) (rZ nd F) z->Q (.tup [.d (.list (u.map zJ)),.lst ((z.map Hl).map T.d)]) []
noncomputable def J5(es:gB)(sr:LS)(nd:List (Str×Int))(h:List Rw)(o4 o5:Option Sl):kA:=[bD (.list (es.map pr)),bD (.list (sr.map Jx)),bD (.list (nd.map yI)),bD (.list (h.map zJ)),o4,o5]
section
variable{Ψ:PEv}{Z:PEnds}{es:gB}{sr:LS}{nd:List (Str×Int)}{h:List Rw}{F:LS}{q:PT}{o4 o5:Option Sl}
theorem yo(hl:h.9<=100)(k:pF Ψ q Z (J5 es sr nd h (bD (.list ((h.map λr=>r.1).map Jx))) o5)) :
  pF Ψ (.seq (.set 4 (.comp [] ["name","chains"] (.tp [0,1]) .val %[.xt 3|1] .nop (.xt 0))) q) Z (J5 es sr nd h o4 o5):=by
 delta J5 at k ⊢;simp![↓zA];rw[<- LA zJ h];refine iC (λr=>T.d (zJ r)) (λr=>T.d (.str r.1)) h [] _ (λx z R y=>?_) (by show 0+h.9<=_;omega) ?_;delta zJ;simp![↓zA];exact y;rw[Qy,LA (λr:Rw=>Jx r.1),show(h.map λr=>Jx r.1)=(h.map λr=>r.1).map Jx by rw[Qh];rfl];simp![↓zA];exact k
theorem jo(hl:nd.9<=100)(k:pF Ψ q Z (J5 es sr nd h (bD (.list (F.map Jx))) (bD (.list ((rZ nd F).map Jx))))) :
  pF Ψ (.seq (.set 5 (.comp [] ["name","number"] (.tp [0,1]) .val %[.xt 2|1] (.cmp .NotIn (.xt 0) (.xt 6)) (.xt 0))) q) Z (J5 es sr nd h (bD (.list (F.map Jx))) o5):=by
 delta J5 at k ⊢;simp![↓zA];rw[<- LA yI nd];refine iA (λp=>T.d (yI p)) (λ(p:Str×Int)=>T.d (.str p.1)) (λp=>!decide (p.1∈F)) nd [] _ (λx z R y=>?_) (by show 0+nd.9<=_;omega) ?_;let#[x,n]:=x;delta yI;simp![↓Uo,cC,CB,FA,true_or];by_cases d:x∈F;rw[dT d]at y ⊢;exact y;rw[dF d]at y ⊢;exact y;rw[Qy,LA (λp:Str×Int=>Jx p.1),show((nd.filter λp=>!decide (p.1∈F)).map λp=>Jx p.1)=(rZ nd F).map Jx by unfold rZ;rw[Qh];rfl];simp![↓zA];exact k
theorem En(f:Ψ.sp "told_through"=aE){Q:T->LT->Prop}{z:LS}(w:es.9<=126)(v:sr.9<=11)(b:AH es sr)(hl:z.9<=100)(k:∀u,Kv (c5 es sr F) z u->Q (.tup [.d (.list (h.map zJ)),.lst ((u.map Hl).map T.d)]) []) :
  pF Ψ %[.ret (.tup %[.xt 3,.comp [] ["name"] (.nm 0) .val %[.xt 5|1] .nop (.tup %[.xt 0,.idx (.call "told_through" %[.xt 1,.xt 2,.xt 5,.xt 0|1]) (.int 1)|1])|1])|2] (eZ Q) (J5 es sr nd h (bD (.list (F.map Jx))) (bD (.list (z.map Jx)))):=by
 delta J5;simp![↓zA];rw[<- LA Jx z];refine aI (c5 es sr F) (λs=>T.d (.str s)) (λy=>T.d (Hl y)) z [] _ (λx j R e=>?_) (by show 0+z.9<=_;omega) λu a=>?_;simp![↓oR,↓Pp,↓No,↓lA (md:=[.ky,.ky,.kz]) f rfl rfl];refine#[_,_,_,_,rfl,#[w,v,b],λi cut g=>?_];simp![↓Gg,↓pk];exact#[(),e (x,cut) #[rfl,i,g]];rw[Qy,LA Hl u];simp![↓bj];exact#[(),k u a]
theorem zo(z:Ψ.sp "ground_alone"=fF)(l:es.9<=126/\sr.9<=11/\AH es sr/\nd.9<=90/\(nd.map λp=>p.1).Nodup)(k:∀h F,GI es sr nd h F->(∀x,x∈F↔Held es sr nd x)->pF Ψ q Z (J5 es sr nd h o4 o5)) :
  pF Ψ (.seq (.set 3 (.call "ground_alone" %[.xt 0,.xt 1,.xt 2|1])) q) Z [bD (.list (es.map pr)),bD (.list (sr.map Jx)),bD (.list (nd.map yI)),Js,o4,o5]:=by
 delta J5 at k;simp![↓lA (md:=[]) z rfl rfl];refine jW l λh F g y=>?_;simp![↓eg];exact k h F g y
end
theorem Mi{Ψ:PEv}(b:Ψ.sp "ground_alone"=fF)(a:Ψ.sp "told_through"=aE):EO Ψ UF pY yJ sH:=by rintro _ Q _ ⟨f,x,nd,rfl,l,q⟩;refine JA [bD (.list (f.map pr)),bD (.list (x.map Jx)),bD (.list (nd.map yI)),Js,Js,Js] ?_;delta UF;refine zo b l λy F g k=>?_;let#[u,z,w,i,_]:=l;have m:=g.len;have j:=g.rlen;refine yo () ?_;rw[<- g.e];refine jo () (En a u z w ?_ λh v=>q y F h g k v);unfold rZ;rw[QF];exact Qf (WK _ _) ()
def To(ns:LS)(nd:List (Str×Int)):Prop:=(nd.map λp=>p.1).Perm ns/\∀p∈nd,1<=p.2/\p.2<=5
noncomputable def NJ:PSp where
 md:=[.kz]
 run:=λy Q _=>∃(x:LJ) (h:LS),y=[.lst ((x.map Jy).map T.d),.d (.list (h.map Jx))]/\(0<h.9/\h.9<=10)/\∀nd,To h nd->Q (.lst ((nd.map yI).map T.d)) []
noncomputable def RU(sc:Sl)(ns:LS)(v m:Int)(nd:List (Str×Int))(o5 o6 o7 o8:Option Sl):kA:=[Jr sc,bD (.list (ns.map Jx)),bD (.int v),bD (.int m),oW (.lst ((nd.map yI).map T.d)),o5,o6,o7,o8]
section
variable{Ψ:PEv}{Z:PEnds}{sc:Sl}{ns:LS}{v m:Int}{nd:List (Str×Int)}{o5 o6 o7 o8:Option Sl}{q:PT}
theorem Sm(a:Ψ.sp "_law_mixed"=tB){x:Str}{i:Nat}(hm:0<=m)(r:i<10)(hl:nd.9<=100)(k:∀(n:Int) o7,1<=n/\n<=5->Z.nx (RU sc ns v m (nd++[(x,n)]) (bD (.int (i:Int))) (bD (.str x)) o7 o8)) :
  pF Ψ DD Z (RU sc ns v m nd (bD (.int (i:Int))) (bD (.str x)) o7 o8):=by
 delta RU at k ⊢;delta DD;simp?[↓lA (md:=[]) a rfl rfl];refine QED zD #[#[(),()],λn p=>?_];have w:=Qn n (show(2:Int)≠0 by decide);have u:=Qn n (show(3:Int)≠0 by decide);have y:=Qn n (show(5:Int)≠0 by decide);have g:=Qk n (show(0:Int)<2 by decide);have f:=Qk n (show(0:Int)<3 by decide);have b:=Qk n (show(0:Int)<5 by decide);simp?[↓zA];refine#[(),JT (Qn _ (by decide)) (Qk _ (by decide)) λd h=>?_];have e:∃j:Int,d=.int j/\0<=j/\j<=4:=by
  rcases QK.mp h with z|h;exact#[0,z,by decide,by decide];rcases QK.mp h with z|h
  ·exact#[_,z,w,()]
  rcases QK.mp h with z|h
  ·exact#[_,z,u,()]
  exact#[_,QI.mp h,y,()]
 let#[j,rfl,o,l]:=e;simp![↓zA];refine#[(),by rw[QF,QF];omega,?_];have:=k (1+j) (bD (.int n)) #[(),()];rw[Qb,Qb]at this;exact this
end
section
variable{Ψ:PEv}{E:XE}{ρ:kA}{K:TK}{a b:PX}{ds:List D}
theorem u9{j:Nat}:rB Ψ (.slc a (.xt j) .nop) E ρ K=rB Ψ a E ρ λx n y=>Gh x n Ψ (.xt j) E y K:=by show(pe Ψ a E).e ρ (λx n y=>sq (α:=Option Int) (vA x n) y (λρ R=>(pe Ψ (.xt j) E).e ρ λu _ h=>YD u.er λo=>R o h) λl v=>sq (α:=Option Int) (vA x n) v (λρ (R:Option Int->kA->Prop)=>R Js ρ) λu h=>XG (vA x n).vw l u λz k=>K z k h)=_;simp only[oY];rfl
theorem Io:Gh (.lst (ds.map T.d)) Ju Ψ b E ρ K=rB Ψ b E (lockA ρ) λu _ _=>XU u λo=>dN (.lst (ds.map T.d)) Ju o Js λz k=>K z k ρ:=rfl
theorem bp:Cc (.lst (ds.map T.d)) Ju Ψ b E ρ K=rB Ψ b E (lockA ρ) λu _ _=>XU u λo=>dN (.lst (ds.map T.d)) Ju Js o λz k=>K z k ρ:=rfl
end
section
variable{Ψ:PEv}{Z:PEnds}{sc:Sl}{ns:LS}{v m:Int}{nd:List (Str×Int)}{o5 o6 o7 o8:Option Sl}{q:PT}
theorem Om(h:0<ns.9)(hl:nd.9<=100)(k:∀c:Nat,pF Ψ q Z (RU sc ns v m (nd.drop c++nd.take c) o5 o6 o7 (bD (.int (c:Int))))) :
  pF Ψ (.seq (.set 8 (.bin .Mod (.bin .FloorDiv (.xt 3) (.int 4)) (.bi .len %[.xt 1|1]))) (.seq (.own 4 (.bin .Add (.slc (.xt 4) (.xt 8) .nop) (.slc (.xt 4) .nop (.xt 8)))) q)) Z (RU sc ns v m nd o5 o6 o7 o8):=by
 have x:=Qn (m / 4) (show(ns.9:Int)≠0 by omega);obtain⟨c,hc⟩:∃c:Nat,m / 4 % (ns.9:Int)=(c:Int):=#[(m / 4 % (ns.9:Int)).toNat,()]
 delta RU at k ⊢;simp![↓u9,↓Io,↓k5,↓bp,↓Ji,QF,hc,M3,DQ];refine#[(),by rw[WE,Wh,QF];omega,?_];rw[<- List.map_take,<- QDE,<- Qb];exact k c
theorem Am(h0:Ψ.sp "_law_fold"=OF)(x:Ψ.sp "_law_mixed"=tB){h:LJ}(k:∀v m,0<=m->pF Ψ q Z (RU (.kw (.lst ((h.map Jy).map T.d))) ns v m [] o5 o6 o7 o8)) :
  pF Ψ (.seq (.set 2 (.call "_law_fold" %[.xt 0|1])) (.seq (.set 3 (.call "_law_mixed" %[.xt 2,.int 3|1])) (.seq (.own 4 (.lst .ny)) q))) Z [Jr (.kw (.lst ((h.map Jy).map T.d))),bD (.list (ns.map Jx)),Js,Js,Js,o5,o6,o7,o8]:=by
 delta RU at k;simp![↓lA (md:=[.kz]) h0 rfl rfl,↓lA (md:=[]) x rfl rfl];refine QED JP λv=>?_;simp![↓lA (md:=[]) x rfl rfl];refine QED zD #[#[by decide,by decide],λm hm=>?_];simp![↓zA];exact#[(),k v m hm]
theorem Nm(B:Ψ.sp "_law_mixed"=tB)(hm:0<=m)(W:ns.9<=10)(k:∀nd o5 o6 o7,nd.map (λp=>p.1)=ns->(∀p∈nd,1<=p.2/\p.2<=5)->pF Ψ q Z (RU sc ns v m nd o5 o6 o7 o8)) :
  pF Ψ (.seq (.for_ (.tp [5,6]) .enum %[.xt 1|1] DD) q) Z (RU sc ns v m [] o5 o6 o7 o8):=by
 have j:∀p∈(ns.map Jx).zipIdx,p.2<10/\∃x,p.1=Jx x:=λp u=>by let#[y,i]:=p;let#[f,o]:=eR u;rw[QF]at f;let#[x,_,e]:=QV.mp o;exact#[Qt f W,x,e.symm]
 delta RU;simp![↓zA];refine cB (λ(p:D×Nat)=>T.d (.tuple [.int (p.2:Int),p.1])) (λl w=>∃nd o5 o6 o7,(∀p∈l,p.2<10/\∃x,p.1=Jx x)/\(nd.map λp=>p.1).map Jx++l.map (λp=>p.1)=ns.map Jx/\(∀p∈nd,1<=p.2/\p.2<=5)/\w=RU sc ns v m nd o5 o6 o7 o8) ?_ ?_ _ _ #[[],_,_,_,j,by rw[we,we,Qy,List.zipIdx_map_fst],λ_ z=>(nomatch z),rfl];rintro w ⟨nd,X,s,r,_,e,b,rfl⟩;rw[we,wH]at e;exact k nd _ _ _ (List.map_inj_right (λx y h=>by injection h) |>.mp e) b;rintro⟨y,i⟩ l w N A ⟨nd,X,s,r,g,e,b,rfl⟩;let#[K,x,a]:=g _ QD;have a:y=.str x:=a;subst a;have Y:nd.9<=100:=by have:=Fz wR e;rw[QM,QF,QF,QF,QF]at this;omega
 refine kC.mk rfl ?_;refine Sm (x:=x) (i:=i) B hm K Y λn o7 hb=>A _ #[nd++[(x,n)],_,_,_,λp u=>g p (QC _ u),?_,λp u=>?_,rfl];rw[<- e,Qb,Qb,qg];rfl;rcases QW.mp u with z|z
 ·exact b p z
 rw[QI.mp z];exact hb
theorem Mm{Q:T->LT->Prop}(k:∀h:List (Str×Int),h.Perm nd->Q (.lst ((h.map yI).map T.d)) []) :
  pF Ψ (.seq (.ife (.cmp .Eq (.bin .Mod (.bin .FloorDiv (.xt 3) (.int 64)) (.int 2)) (.int 1)) %[.expr (.mt .reverse (.xt 4) .ny)|2] .nil) NE) (eZ Q) (RU sc ns v m nd o5 o6 o7 o8):=by
 delta RU NE;simp![↓zA];split;simp![↓jl,↓Ze];rw[<- List.map_reverse];exact k _ (List.reverse_perm nd);exact k _ (Wn _)
end
theorem UZ{Ψ:PEv}(h0:Ψ.sp "_law_fold"=OF)(u:Ψ.sp "_law_mixed"=tB):EO Ψ ZI NJ FM xK:=by
 rintro _ Q _ ⟨f,z,rfl,⟨a,k⟩,q⟩;refine JA [Jr (.kw (.lst ((f.map Jy).map T.d))),bD (.list (z.map Jx)),Js,Js,Js,Js,Js,Js,Js] ?_;delta ZI;refine Am h0 u λv m hm=>Nm u hm k λnd l j i e b=>?_;have hl:nd.9=z.length:=by rw[<- e,QF]
 refine Om a () λc=>Mm λh p=>q h ?_;have w:(nd.drop c++nd.take c).Perm nd:=List.perm_append_comm.trans (by rw[QCQ]);have y:=p.trans w;exact#[by rw[<- e];exact y.map _,λx g=>b x (y.mem_iff.mp g)]
theorem N9{s:Str}(h:LZ s):qb s=true:=by unfold qb;rw[Array.all_eq_true_iff_forall_mem];intro c hc;have:=h.2 c (W8.mpr hc);exact dT ()
theorem J8(a:D)(b:List D):(T.tup [.d a,.lst (b.map T.d)]).er=.tuple [a,.list b]:=by show PyData.tuple [a,.list (ersT (b.map T.d))]=_;rw[KA]
theorem lU:∀{l:LS}{p:Str},risingS p l=Jt->(p::l).Pairwise λa b=>a.cps.toList<=b.cps.toList
 |[],p,_=>List.pairwise_singleton _ _|x::r,p,h=>by let#[z,w]:=yA h;have v:=lU w;rw[Q4,ltCps_eq,decide_eq_false_iff_not]at z;have z:=List.not_lt.mp z;refine QBU.mpr #[λy u=>?_,v];rcases QK.mp u with rfl|u;exact z;exact List.le_trans z ((QBU.mp v).1 y u)
theorem nY{l:LS}(h:gu l=Jt):l.Pairwise λa b=>a.cps.toList<=b.cps.toList:=by
 cases l with|nil=>exact .nil|cons x r=>exact lU h
theorem Xc{a b:Str}(h:a.cps.toList=b.cps.toList):a=b:=by let#[#[a]]:=a;let#[#[b]]:=b;cases h;rfl
theorem dP{a b:LS}(ha:gu a=Jt)(hb:gu b=Jt)(h:a.Perm b):a=b:=h.eq_of_pairwise (λx y _ _ u z=>Xc (List.le_antisymm u z)) (nY ha) (nY hb)
theorem EU{k:Nat}:∀{l:List D},(∀x∈l,x.canLay0=Jt/\x.depth<=k)->wv l=Jt/\Ww l<=k
 |[],_=>by simp[wv,Ww]|x::l,h=>by let#[v,a]:=h x QD;let#[z,w]:=EU (l:=l) λy u=>h y (QC _ u);simp only[wv,Ww,v,z,Bool.and_self,true_and];omega
theorem DZ{k:Nat}{l:List D}(hk:k<60)(h:∀x∈l,x.canLay0=Jt/\x.depth<=k):UD (.list l):=by let#[y,z]:=EU h;refine#[?_,?_];simp only[QAC];exact y;simp only[QBP];omega
theorem f7{l:LS}(h:∀s∈l,qb s=Jt):UD (.list (l.map Jx)):=DZ (k:=1) (by decide) λx y=>by let#[s,hs,rfl]:=QV.mp y;simp only[QAC,QBP];exact#[h s hs,()]
section
variable{es:gB}{st:LS}{g:Str}
section
variable{c f:LS}{n:Str}{u:List (LS)}{i m:Nat}
inductive Ex(es:gB)(g:Str):LS->Str->LS->Prop
 |fin {c:LS}{n:Str}:(n,g)∈es->Ex es g c n (c++[n])
 |go {c f:LS}{n o:Str}:(n,o)∈es->o≠g->o∉c++[n]->Ex es g (c++[n]) o f->Ex es g c n f
theorem pJ{l:LS}{x:Str}(h:l.Nodup)(y:x∉l):(l++[x]).Nodup :=
 qH.mpr #[h,Qa.mpr #[λz=>(nomatch z),Qo],λa v b hb e=>y (by rw[<- QI.mp hb,<- e];exact v)]
theorem Vf(h:Chn es st g c n):g∉c:=by
 induction h with
 |st _ _=>exact λz=>(nomatch z)
 |go _ k _ x=>exact λz=>(QW.mp z).elim x λz=>k (QI.mp z).symm
theorem bf(h:Ex es g c n f):n≠g->(c++[n]).Nodup->Chn es st g c n->Chn es st g f g/\f.Nodup:=by
 induction h with|fin e=>exact λk nd h=>#[.go h k e,nd]|go e k m _ y=>exact λx nd h=>y k (pJ nd m) (.go h x e)
theorem Xf(h:Chn es st g c n):n≠g->(c++[n]).Nodup->∀f,Ex es g c n f->∃s∈st,s≠g/\Ex es g [] s f:=by
 induction h with|st a b=>exact λ_ _ f x=>#[_,a,b,x]|@go c n m h k e v=>intro y nd f x;refine v k (qH.mp nd).1 f (.go e y (λz=>?_) x);exact(qH.mp nd).2.2 m z m QD rfl
theorem E3(h:Chn es st g f g)(nd:f.Nodup):∃s∈st,s≠g/\Ex es g [] s f:=by
 cases h with|st _ k=>exact h7 rfl k|@go c n _ h k e=>exact Xf h k nd _ (.fin e)
theorem L8(h:Chn es st g c n):∀m∈c,∃d,Chn es st g d m/\∃l,c=d++m::l:=by
 induction h with
 |st _ _=>exact λm z=>(nomatch z)
 |@go c n k h _ _ x=>intro m hm;rcases QW.mp hm with z|z;let#[d,y,l,e]:=x m z;exact#[d,y,l++[n],by rw[e,qg];rfl];rw[QI.mp z];exact#[c,h,[],rfl]
theorem cT(h:Chn es st g c n):∃d,Chn es st g d n/\(d++[n]).Nodup/\∀x∈d,x∈c:=by
 induction h with
 |st a b=>exact#[[],.st a b,Qa.mpr #[λz=>(nomatch z),Qo],λ_ z=>z]
 |@go c n m h k e p =>
  let#[d,j,nd,w]:=p;by_cases z:m∈d++[n];let#[v,r,l,o]:=L8 (Chn.go j k e) m z;refine#[v,r,?_,λx y=>?_];rw[o]at nd;have:(v++[m]).Sublist (v++m::l):=QDc.append (QDc.refl _) (QDc.cons₂ _ (List.nil_sublist _));exact nd.sublist this;have:x∈d++[n]:=by rw[o];exact Qg _ y
  rcases QW.mp this with q|q;exact Qg _ (w x q);exact QS _ q;refine#[d++[n],.go j k e,pJ nd z,λx y=>?_];rcases QW.mp y with q|q;exact Qg _ (w x q);exact QS _ q
theorem ZQ(h:Chn es st g c g):∃d,Chn es st g d g/\d.Nodup/\∀x∈d,x∈c:=by let#[d,a,b,e]:=cT h;exact#[d,a,(qH.mp b).1,e]
structure Rws(es:gB)(st:LS)(g:Str)(u:List (LS)):Prop where
 of:∀z∈u,∃f,Chn es st g f g/\z.Perm f
 to:∀f,Chn es st g f g->f.Nodup->∃z∈u,z.Perm f
def ZX(u:List (LS))(n:Nat):Prop:=(∃l,(∀r∈l,r∈u)/\IB l/\l.9=n)/\∀l,(∀r∈l,r∈u)->IB l->l.9<=n
theorem NQ(h:Chn es st g f g):f≠[]:=by
 cases h with|st _ k=>exact h7 rfl k|go _ _ _=>exact λz=>by simp at z
theorem VY{u:List (LS)}(w:Rws es st g u):∀{cs:List (LS)},IB cs->(∀c∈cs,Chn es st g c g)->∃l,(∀r∈l,r∈u)/\IB l/\l.9=cs.9/\∀r∈l,∃c∈cs,∀x∈r,x∈c
 |[],_,_=>#[[],λ_ z=>(nomatch z),trivial,rfl,λ_ z=>(nomatch z)]
 |c::cs,a,h=>by
  let#[l,Z,Y,X,o]:=VY w a.2 λd K=>h d (QC _ K);let#[d,B,A,p]:=ZQ (h c QD);let#[z,s,j]:=w.to d B A;refine#[z::l,λr y=>?_,#[λr y x v W=>?_,Y],Fz (·+1) X,λr y=>?_];rcases QK.mp y with rfl|q
  ·exact s
  exact Z r q;let#[e,b,k]:=o r y;exact a.1 e b x (p x (j.mem_iff.mp v)) (k x W);rcases QK.mp y with rfl|q
  ·exact#[c,QD,λx v=>p x (j.mem_iff.mp v)]
  let#[e,b,k]:=o r q;exact#[e,QC _ b,k]
theorem iP{u:List (LS)}(w:Rws es st g u):∀{l:List (LS)},IB l->(∀r∈l,r∈u)->∃cs,IB cs/\(∀c∈cs,Chn es st g c g)/\cs.9=l.9/\∀c∈cs,∃r∈l,∀x∈c,x∈r
 |[],_,_=>#[[],trivial,λ_ z=>(nomatch z),rfl,λ_ z=>(nomatch z)]
 |r::l,a,h=>by
  let#[cs,s,p,o,b]:=iP w a.2 λd Y=>h d (QC _ Y);let#[f,Z,j]:=w.of r (h r QD);refine#[f::cs,#[λc hc x y X=>?_,s],λc hc=>?_,Fz (·+1) o,λc hc=>?_];let#[e,v,k]:=b c hc;exact a.1 e v x (j.mem_iff.mpr y) (k x X);rcases QK.mp hc with rfl|q
  ·exact Z
  exact p c q;rcases QK.mp hc with rfl|q
  ·exact#[r,QD,λx y=>j.mem_iff.mpr y]
  let#[e,v,k]:=b c q;exact#[e,QC _ v,k]
theorem R0{n:Nat}(w:Rws es st g u)(m:ZX u n)(k:Int):k<=(n:Int)↔∃cs,IB cs/\(∀c∈cs,Chn es st g c g)/\k<=(cs.9:Int):=by constructor;intro h;let#[#[l,a,b,e],_]:=m;let#[cs,y,x,z,_]:=iP w b a;exact#[cs,y,x,by rw[z,e];exact h];rintro⟨cs,a,b,l⟩;let#[v,y,x,z,_]:=VY w a b;have:=m.2 v y x;omega
theorem BM:∀{a b:List (LS)}{r:LS},IB (a++r::b)->IB (a++b)/\∀d∈a++b,∀x∈d,x∉r
 |[],_,_,h=>#[h.2,λd y x v e=>h.1 d y x e v]|c::a,b,r,h=>by
  let#[k,w]:=BM (a:=a) h.2;refine#[#[λd y=>h.1 d ?_,k],λd y x v=>?_];rcases QW.mp y with z|z
  ·exact Qg _ z
  exact QS _ (QC _ z);rcases QK.mp y with rfl|z
  ·exact h.1 r (QS _ QD) x v
  exact w d z x v
def rf(r o:LS):Bool:=!(o.any λx=>decide (x∈r))
theorem yT{r o:LS}:rf r o=Jt↔∀x∈o,x∉r:=by unfold rf;rw[Q4,QBd];simp
def Rk(u:List (LS))(i m:Nat):Prop:=(∃l,(∀r∈l,r∈u)/\IB l/\l.9=m)/\∀l,(∀r∈l,r∈u)->IB l->l.9<=m∨∀r∈l,r∈u.drop i
theorem zn(u:List (LS)):Rk u 0 0:=#[#[[],λ_ z=>(nomatch z),trivial,rfl],λ_ h _=>.inr h]
theorem Xe(h:Rk u i m)(x:u.9<=i):ZX u m:=by
 refine#[h.1,λl a b=>?_];rcases h.2 l a b with z|z;exact z;rw[WA x]at z;cases l with|nil=>exact Q5 _|cons r l=>exact nomatch z r QD
theorem P7{n:Nat}{r:LS}(h:Rk u i m)(X:u[i]?=Jr r)(A:r≠[])(k:ZX ((u.drop (i+1)).filter (rf r)) n):Rk u (i+1) (max m (1+n)):=by
 have Y:u.drop i=r::u.drop (i+1):=by let#[lt,e]:=Qd.mp X;rw[WO lt,e]
 refine#[?_,λl a b=>?_];rcases Nat.le_total (1+n) m with c|c
 ·rw[Nat.max_eq_left c]
  exact h.1
 rw[Nat.max_eq_right c];let#[#[l,o,Z,B],_]:=k;refine#[r::l,λx v=>?_,#[λd y x v K=>?_,Z],by rw[QL];omega];rcases QK.mp v with rfl|z
 ·exact Qq X
 exact QAA (QZ.mp (o x z)).1;exact yT.mp (QZ.mp (o d y)).2 x K v;rcases h.2 l a b with z|z
 ·exact .inl (Qf z (Nat.le_max_left _ _))
 by_cases c:r∈l
 ·let#[p,q,rfl]:=List.append_of_mem c
  let#[W,s]:=BM b;have:=k.2 (p++q) (λd y=>QZ.mpr #[?_,yT.mpr (s d y)]) W;refine .inl (Qf ?_ (Nat.le_max_right _ _));rw[QM]at this ⊢;rw[QL];omega;have j:d∈p++r::q:=by rcases QW.mp y with w|w;exact Qg _ w;exact QS _ (QC _ w)
  have:=z d j;rw[Y]at this;rcases QK.mp this with e|w;subst e;cases d with|nil=>exact h7 rfl A|cons x d=>exact h7 QD (s _ y x QD)
  exact w
 refine .inr λd y=>?_;have:=z d y;rw[Y]at this;exact(QK.mp this).resolve_left λe=>c (e▸y)
noncomputable def SM:LS->List (LS)
 |[]=>[[]]|a::l=>SM l++(SM l).map (a::·)
theorem uP:∀l:LS,(SM l).9=2 ^ l.9
 |[]=>rfl|a::l=>by show(SM l++(SM l).map (a::·)).9=2 ^ (l.9+1);rw[QM,QF,uP l];omega
theorem HR(p:Str->Bool):∀l:LS,l.filter p∈SM l
 |[]=>QD|a::l=>by show _∈SM l++(SM l).map (a::·);rw[Wl];split;exact QS _ (w8 (HR p l));exact Qg _ (HR p l)
theorem GN{α:Type}[DecidableEq α]:∀{ks ns:List α},ks.Nodup->(∀s∈ks,s∈ns)->ks.9<=ns.9
 |[],_,_,_=>Q5 _|s::r,ns,h,hs=>by let#[v,z]:=Qa.mp h;have hm:=hs s QD;have:=GN (ks:=r) (ns:=ns.erase s) z λx y=>(W9 (λe:x=s=>v (e▸y))).mpr (hs x (QC _ y));rw[WW hm]at this;have:=wP hm;rw[QL];omega
theorem x3{ms:LS}(nd:u.Nodup)(hs:∀z∈u,gu z=Jt/\z.Nodup/\∀x∈z,x∈ms):u.9<=2 ^ ms.length:=by
 rw[<- uP ms];have:=GN (ks:=u.map λz=>ms.filter λx=>decide (x∈z)) (ns:=SM ms) (QAi.mpr (nd.imp_of_mem λ{a b} w hb v e=>v ?_)) λs h=>by let#[z,_,rfl]:=QV.mp h;exact HR _ ms
 let#[q,p,o]:=hs a w;let#[l,j,k]:=hs b hb;refine dP q l ((W7 p j).mpr λx=>#[λh=>?_,λh=>?_]);have:x∈ms.filter λy=>decide (y∈b):=by rw[<- e];exact QZ.mpr #[o x h,dT h]
 exact Fx (QZ.mp this).2;have:x∈ms.filter λy=>decide (y∈a):=by rw[e];exact QZ.mpr #[k x h,dT h]
 exact Fx (QZ.mp this).2
 ·rwa [QF]at this
end
end
theorem YV{c:LS}{n:Str}:pE ((c++[n]).map Jx) (-1)=Jr (.str n):=by
 have e:AO ((c++[n]).map Jx).9 (-1)=Jr c.length:=by unfold AO;rw[hI (by decide),QF,QM,Qw,hQ ()];congr 1;omega
 unfold pE;rw[e];show((c++[n]).map Jx)[c.9]?=_;rw[Qb,Q0 (by rw[QF];exact QX _),QF,QBQ];rfl
theorem ug(l:gB)(p:Str×Str):((l.map pr).any λy=>qE y (pr p))=decide (p∈l):=by rw[qd,QAx,Fy];constructor;rintro⟨y,x,e⟩;let#[q,z,rfl]:=QV.mp x;rw[IS,Fy]at e;exact e▸z;exact λh=>#[pr p,w8 h,by rw[IS];exact dT rfl]
theorem ve{l:gB}(h:∀p∈l,qb p.1=Jt/\qb p.2=Jt):UD (.list (l.map pr)):=DZ (k:=2) (by decide) λx y=>by let#[p,z,rfl]:=QV.mp y;let#[v,u]:=h p z;simp[pr,QAC,wv,QBP,Ww,v,u]
theorem Nj{a b:Str}{es:gB}{L:Bool->Prop}(z:UD (pr (a,b)))(x:UD (.list (es.map pr))):OC .In (.d (.tuple [.str a,.str b])) (.d (.list (es.map pr))) L=L (decide ((a,b)∈es)):=by show(((FA (pr (a,b))=Jt/\(es.map pr).all FA=Jt)∨(UD (pr (a,b))/\UD (.list (es.map pr))))/\L ((es.map pr).any λy=>qE y (pr (a,b))))=_;rw[ug];exact h8 #[λh=>h.2,λh=>#[.inr #[z,x],h]]
theorem Si{ss:LS}{n:Bool}{Q:T->Bool->Prop}(h:ss.9<64)(q:∀x:LS,x.Perm ss->gu x=Jt->Q (.lst ((x.map Jx).map T.d)) Jt):CL .sorted [(.d (.list (ss.map Jx)),n)] Q:=by unfold CL GB;rw[fA];exact .inl #[_,ss,rfl,oA _,h,q]
structure GrO(es:gB)(g:Str)(ns c:LS)(n:Str)(k:Nat):Prop where
 el:es.9<64
 ei:∀p∈es,p.1∈ns/\p.2∈ns
 ok:∀s∈ns,LZ s
 gi:g∈ns
 nd:(c++[n]).Nodup
 ng:g∉c++[n]
 ci:∀x∈c++[n],x∈ns
 sz:ns.9<=(c++[n]).9+1+k
 s5:ns.9<=5
 k3:k<=3
def Nl(es:gB)(g:Str)(c:LS)(n:Str)(fs:List (LS)):Prop:=(∀r∈fs,gu r=Jt/\∃f,Ex es g c n f/\r.Perm f)/\∀f,Ex es g c n f->∃r∈fs,r.Perm f
def bG:Nat->Nat
 |0=>1|k+1=>1+(k+1) * bG k
theorem K4:∀j,j<=3->bG j<=16:=by decide
noncomputable def zB(k:Nat):PSp where
 md:=[]
 run:=λu Q _=>∃(x:gB) (g:Str) (c:LS) (n:Str) (y:LS),u=[.d (.list (x.map pr)),.d (.str g),.d (.list ((c++[n]).map Jx))]/\GrO x g y c n k/\∀fs,Nl x g c n fs->fs.9<=bG k->Q (.lst ((fs.map tpS).map T.d)) []
 mono:=λh _ z=>by let#[x,g,c,n,y,e,l,q]:=z;exact#[x,g,c,n,y,e,l,λfs a b=>h _ _ (q fs a b)]
noncomputable def N2(es:gB)(g:Str)(ch:LS)(fs:List (LS))(o4:Option Sl):kA:=[bD (.list (es.map pr)),bD (.str g),bD (.list (ch.map Jx)),oW (.lst ((fs.map tpS).map T.d)),o4]
section
variable{Ψ:PEv}{Z:PEnds}{es:gB}{g n:Str}{ns c:LS}{fs:List (LS)}{k:Nat}
def Mo(Ψ:PEv)(k:Nat):Prop:=k=0∨∃j,k=j+1/\Ψ.sp "_law_grown"=zB j
theorem GrO.len(w:GrO es g ns c n k){l:LS}(nd:l.Nodup)(h:∀x∈l,x∈ns/\x≠g/\x∉c++[n]):l.9<=k:=by
 have:=nC (ks:=l++g::(c++[n])) (ns:=ns) (qH.mpr #[nd,Qa.mpr #[w.ng,w.nd],λa y b hb e=>?_]) λx u=>?_;have v:=w.sz;rw[QM,QL]at this;omega;subst e;rcases QK.mp hb with z|z;exact(h a y).2.1 z;exact(h a y).2.2 z;rcases QW.mp u with z|z
 ·exact(h x z).1
 rcases QK.mp z with z|z
 ·rw[z];exact w.gi
 exact w.ci x z
theorem Vn(hk:Mo Ψ k)(w:GrO es g ns c n k){o:Str}(i:o∈ns)(X:(n,o)∈es)(hl:fs.9<=1000)
  (y:(o≠g->o∈c++[n])->Z.nx (N2 es g (c++[n]) fs (bD (.str o))))
  (p:o≠g->o∉c++[n]->∀j u,k=j+1->Nl es g (c++[n]) o u->u.9<=bG j->Z.nx (N2 es g (c++[n]) (fs++u) (bD (.str o)))) :
  pF Ψ HC Z (N2 es g (c++[n]) fs (bD (.str o))):=by
 by_cases a:o=g;have y:=y λz=>h7 a z;unfold N2 at y ⊢;delta HC;simp![cC,CB,FA,true_or];rw[dT a];simp![↓zA];exact y;by_cases b:o∈c++[n]
 ·have y:=y λ_=>b
  unfold N2 at y ⊢;delta HC;simp![cC,CB,FA,true_or];rw[dF a,dT b];simp![↓zA];exact y
 have e:=w.len (l:=[o]) (Qa.mpr #[λz=>(nomatch z),Qo]) λx v=>by rw[QI.mp v];exact#[i,a,b]
 rcases hk with rfl|⟨j,rfl,h⟩
 exact h7 e (Nat.not_succ_le_zero 0);have f:GrO es g ns (c++[n]) o j:=#[w.el,w.ei,w.ok,w.gi,pJ w.nd b,λz=>(QW.mp z).elim w.ng λz=>a (QI.mp z).symm,λx v=>(QW.mp v).elim (w.ci x) λz=>by rw[QI.mp z];exact i,by have:=w.sz;rw[QM (as:=c++[n]),Qw];omega,w.s5,by have:=w.k3;omega]
 have r:=nC w.nd w.ci;have q:=w.s5;delta N2;delta HC;simp![cC,CB,FA,true_or,↓lA (md:=[]) h rfl rfl,↓L4];rw[dF a,dF b];simp![↓lA (md:=[]) h rfl rfl,↓L4];refine#[(),by rw[QF];omega,es,g,c++[n],o,ns,by rw[Qb (l₁:=c++[n])];rfl,f,λu e m=>#[rfl,?_]];have s:=Qf m (K4 j f.k3);simp![↓zA];refine#[by rw[QF,QF];omega,?_];have:=p a b j u rfl e m;unfold N2 at this;rw[Qb (l₁:=fs)]at this;exact this
noncomputable def kX(g:Str)(ch:LS)(o:Str):Bool:=!decide (o=g)&&!decide (o∈ch)
theorem HK{ch:LS}{o:Str}:kX g ch o=Jt↔o≠g/\o∉ch:=by unfold kX;rw[Qe,Q4,Q4,decide_eq_false_iff_not,decide_eq_false_iff_not]
theorem Vj(hk:Mo Ψ k)(w:GrO es g ns c n k){o4:Option Sl}{Q:T->LT->Prop}(hl:fs.9<=1)(h0:∀r∈fs,gu r=Jt/\∃f,Ex es g c n f/\r.Perm f)(h1:(n,g)∈es->∃r∈fs,r.Perm (c++[n]))
  (q:∀fs,Nl es g c n fs->fs.9<=bG k->Q (.lst ((fs.map tpS).map T.d)) []):pF Ψ RE (eZ Q) (N2 es g (c++[n]) fs o4):=by
 have el:=w.el;delta N2;delta RE;simp![↓zA];rw[<- LA pr es];refine iA (λ(p:Str×Str)=>T.d (pr p)) (λp=>T.d (.str p.2)) (λp=>decide (p.1=n)) es _ _ (λx B R C=>?_) (by rw[Qr];omega) ?_;simp![↓JJ,↓RX,YV];by_cases h:x.1=n;rw[dT h]at C ⊢;exact C;rw[dF h]at C ⊢;exact C;rw[Qy,show(es.filter λp=>decide (p.1=n)).map (λp=>T.d (.str p.2))=((((es.filter λp=>decide (p.1=n)).map λp=>p.2).map Jx).map T.d) by rw[Qh,Qh];rfl];refine fg (by rw[QF];exact Wp (WK _ _) el) λi nd m _=>?_;have m:∀o,o∈i↔(n,o)∈es:=λo=>by rw[m,QV];constructor;rintro⟨p,hp,rfl⟩;let#[a,b]:=QZ.mp hp;have:=Fx b;rw[<- this];exact a;exact λh=>#[(n,o),QZ.mpr #[h,dT rfl],rfl]
 have bl:k≠0∨i.filter (kX g (c++[n]))=[]:=by
  rcases Nat.eq_zero_or_pos k with e|e;refine .inr (qw.mp ?_);have:=w.len (nd.filter (kX g (c++[n]))) λx B=>by let#[a,b]:=QZ.mp B;exact#[(w.ei _ ((m x).mp a)).2,HK.mp b]
  omega;exact .inl ()
 have bk:=w.len (nd.filter (kX g (c++[n]))) λx B=>by let#[a,b]:=QZ.mp B;exact#[(w.ei _ ((m x).mp a)).2,HK.mp b]
 have b16:=K4 k w.k3;have k3:=w.k3;simp![↓zA];rw[<- LA Jx i];refine cB (λ(s:Str)=>T.d (.str s)) (λl G=>∃fs o4,(∀o∈l,o∈i)/\fs.9+(l.filter (kX g (c++[n]))).9 * bG (k - 1)<=1+(i.filter (kX g (c++[n]))).9 * bG (k - 1)/\(∀r∈fs,gu r=Jt/\∃f,Ex es g c n f/\r.Perm f)/\(∀f,Ex es g c n f->(∃r∈fs,r.Perm f)∨∃o∈l,(n,o)∈es/\o≠g/\o∉c++[n]/\Ex es g (c++[n]) o f)/\G=N2 es g (c++[n]) fs o4) ?_ ?_ _ _ #[fs,_,λ_ z=>z,(),h0,λf Y=>?_,rfl];rintro G ⟨u,p4,_,v,F,E,rfl⟩;delta N2;simp![↓zA];refine q u #[F,λf Y=>(E f Y).resolve_right λ#[_,z,_]=>(nomatch z)] ?_;rw[List.filter_nil,Qr,Nat.zero_mul]at v;cases k with
 |zero =>
  have:(i.filter (kX g (c++[n]))).9=0:=()
  rw[this,Nat.zero_mul]at v;exact v
 |succ k=>have:=Nat.mul_le_mul_right (bG k) bk;show u.9<=1+(k+1) * bG k;have v:u.9+0<=1+(i.filter (kX g (c++[n]))).9 * bG k:=v;omega
 rintro o l G N S ⟨u,p4,P,v,F,E,rfl⟩;have oz:=P o QD;have M:=(m o).mp oz;have l0:u.9<=1000:=by have:=Nat.mul_le_mul bk (K4 (k - 1) ());omega
 refine Vn hk w (w.ei _ M).2 M l0 (λz=>S _ #[u,_,λo O=>P o (QC _ O),?_,F,λf Y=>?_,rfl]) λa b j H ej g1 g2=>S _ #[u++H,_,λo O=>P o (QC _ O),?_,λr hr=>?_,λf Y=>?_,rfl];rw[List.filter_cons_of_neg (λh=>(HK.mp h).2 (z (HK.mp h).1))]at v;exact v;rcases E f Y with x|⟨y,X,I,A,K,W⟩
 ·exact .inl x
 rcases QK.mp X with rfl|X
 ·exact h7 (z A) K
 exact .inr #[y,X,I,A,K,W];rw[List.filter_cons_of_pos (HK.mpr #[a,b]),QL,QDV]at v;subst ej;rw[QM];have v:u.9+((l.filter (kX g (c++[n]))).9 * bG j+bG j)<=1+(i.filter (kX g (c++[n]))).9 * bG j:=v;show u.9+H.9+(l.filter (kX g (c++[n]))).9 * bG j<=1+(i.filter (kX g (c++[n]))).9 * bG j;omega;rcases QW.mp hr with x|x
 ·exact F r x
 let#[s1,f,f1,f2]:=g1.1 r x;exact#[s1,f,.go M a b f1,f2];rcases E f Y with⟨r,L,J⟩| ⟨y,X,I,A,K,W⟩
 ·exact .inl #[r,Qg _ L,J]
 rcases QK.mp X with rfl|X
 ·let#[r,L,J]:=g1.2 f W
  exact .inl #[r,QS _ L,J]
 exact .inr #[y,X,I,A,K,W];cases Y with|fin e=>exact .inl (h1 e)|go e a b x=>exact .inr #[_,(m _).mpr e,e,a,b,x]
theorem PP(hk:Mo Ψ k)(ds Q E)(h:(zB k).run ds Q E):ds.9=dD.length/\pF Ψ uG (FC (zB k) dD.length Q) (OA BI (zB k).md ds):=by
 let#[es,g,c,n,ns,rfl,w,q]:=h;have j:=nC w.nd w.ci;have i:=w.s5;have ok:∀s∈ns,qb s=true:=λs hs=>N9 (w.ok s hs);have f:UD (pr (n,g)):=yE (ok n (w.ci n (QS _ QD))) (ok g w.gi);have b:UD (.list (es.map pr)):=ve λp v=>#[ok _ (w.ei p v).1,ok _ (w.ei p v).2]
 refine JA [bD (.list (es.map pr)),bD (.str g),bD (.list ((c++[n]).map Jx)),Js,Js] ?_;delta uG;simp![YV,↓Nj f b];refine#[(),(),?_];by_cases e:(n,g)∈es;rw[dT e];simp![↓zA];refine Si () λy u a=>?_;simp![↓zA];refine#[(),?_];exact Vj (fs:=[y]) hk w (QX _) (λr x=>by rw[QI.mp x];exact#[a,_,.fin e,u]) (λ_=>#[y,QD,u]) q;rw[dF e];simp![↓zA];exact Vj (fs:=[]) hk w (Q5 _) (λr x=>(nomatch x)) (λz=>h7 z e) q
end
section
variable{Ψ:PEv}{E:XE}{ρ:kA}{a h:PX}{z:T->kA->Prop}{L:Bool->kA->Prop}
theorem rg:kJ Ψ E z (.sset a) ρ=rB Ψ (.sset a) E ρ λx n y=>fC x n (z x y):=rfl
theorem Jk{t:Str}{x:T}{R:Option T->Prop}:sG Ψ E [] [t] (.nm 0) (.not a) h ρ x R=rN Ψ (.not a) E (Jr (.kw x)::lockA ρ) λk u=>if k=Jt then rB Ψ h E u λy n _=>fC y n (R (Jr y)) else R none:=rfl
theorem Go{f:Bi}:rN Ψ (.bi f a) E ρ L=rB Ψ (.bi f a) E ρ λt _ x=>Kc t λb=>L b x:=rfl
theorem Oo{d:D}{xs:List (T×Bool)}{C:LT->Prop}:mB [] ((.lst [.d d],Jt)::xs) C=mB [] xs λts=>C (.d (.list [d])::ts):=Po (ds:=[d])
theorem ur{r:PT}{Z:PEnds}{i:Nat}:SJ Ψ E r Z i (.lst []) Jt ρ=pB Ψ E r Z (ρ.set i (bD (.list []))):=zp (ds:=[])
theorem Ch{x:D}{n:Bool}{α:Type}{b:kA->(α->kA->Prop)->Prop}{K:α->kA->Prop}:sq (vA (.d x) n) ρ b K=b ρ K:=by rw[fA];rfl
theorem Ld{i:Int}{Q:Option Int->Prop}:YD (T.d (.int i)).er Q=Q (Jr i):=rfl
end
theorem XV{x:List (LS)}{n:Bool}{Q:T->Bool->Prop}(h:x.9<306)(u:∀r∈x,r≠[])(q:∀y:List (LS),y.Nodup->(∀z,z∈y↔z∈x)->y.9<64/\Q (.lst ((y.map tpS).map T.d)) Jt):MJ (vA (.d (.list (x.map tpS))) n).vw Q:=by rw[fA];exact .inr #[_,x,rfl,oA _,#[h,u],q]
structure AlO(es:gB)(st:LS)(g:Str)(ns:LS):Prop where
 el:es.9<64
 ei:∀p∈es,p.1∈ns/\p.2∈ns
 ok:∀s∈ns,LZ s
 gi:g∈ns
 si:∀s∈st,s∈ns
 sl:st.9<=11
 s5:ns.9<=5
def kr(ns:LS)(g:Str)(h:List (LS)):Prop:=h.Nodup/\h.9<64/\∀z∈h,(z≠[]/\z.9<=9)/\∀x∈z,x∈ns.filter λy=>!decide (y=g)
noncomputable def vI:PSp where
 run:=λz Q _=>∃(x:gB) (st:LS) (g:Str) (y:LS),z=[.d (.list (x.map pr)),.d (.list (st.map Jx)),.d (.str g)]/\AlO x st g y/\∀h,Rws x st g h->kr y g h->Q (.lst ((h.map tpS).map T.d)) []
noncomputable def La(es:gB)(st:LS)(g:Str)(fs:List (LS))(o4:Option Sl):kA:=[bD (.list (es.map pr)),bD (.list (st.map Jx)),bD (.str g),bD (.list (fs.map tpS)),o4]
section
variable{Ψ:PEv}{Z:PEnds}{es:gB}{g:Str}{ns st:LS}{fs:List (LS)}{k:Nat}
theorem gT(w:∀p∈es,p.1∈ns/\p.2∈ns)(u:∀s∈st,s∈ns){c:LS}{n:Str}(h:Chn es st g c n):n∈ns/\∀x∈c,x∈ns:=by
 induction h with
 |st a _=>exact#[u _ a,λ_ z=>(nomatch z)]
 |go _ _ e y=>exact#[(w _ e).2,λx v=>(QW.mp v).elim (y.2 x) λz=>by rw[QI.mp z];exact y.1]
theorem Vo(h:Ψ.sp "_law_grown"=zB 3)(w:AlO es st g ns){s:Str}(hs:s∈st)(hl:fs.9<=1000)(u:s=g->Z.nx (La es st g fs (bD (.str s))))
  (e:s≠g->∀y,Nl es g [] s y->y.9<=16->Z.nx (La es st g (fs++y) (bD (.str s)))) :
  pF Ψ cG Z (La es st g fs (bD (.str s))):=by
 by_cases a:s=g;have u:=u a;unfold La at u ⊢;delta cG;simp![↓zA];rw[dT a];simp![↓zA];exact u;have b:GrO es g ns [] s 3:=#[w.el,w.ei,w.ok,w.gi,Qa.mpr #[λz=>(nomatch z),Qo],λz=>a (QI.mp z).symm,λx f=>by rw[QI.mp f];exact w.si s hs,w.s5,w.s5,QX _]
 delta La;delta cG;simp![↓lA (md:=[]) h rfl rfl,↓L4];rw[dF a];simp![↓lA (md:=[]) h rfl rfl,↓L4,↓Oo];refine#[(),es,g,[],s,ns,rfl,b,λy i v=>#[rfl,?_]];have v:y.9<=16:=v;simp![↓L4];refine#[by rw[QF,QF];omega,?_];have:=e a y i v;unfold La at this;rw[Qb]at this;exact this
theorem ce(h:Ψ.sp "_law_grown"=zB 3)(ds Q E)(h0:vI.run ds Q E):Ep Ψ YO vI DV BP ds Q:=by
 let#[es,st,g,ns,rfl,w,q]:=h0;have i:jz=16777216:=qU;have sl:=w.sl;have s5:=w.s5;refine JA [bD (.list (es.map pr)),bD (.list (st.map Jx)),bD (.str g),Js,Js] ?_;delta YO;simp![↓ur];refine#[(),?_];rw[<- LA Jx st];refine cB (λ(s:Str)=>T.d (.str s)) (λl G=>∃fs o4,(∀s∈l,s∈st)/\fs.9+l.9 * 16<=st.9 * 16/\(∀r∈fs,gu r=Jt/\∃s∈st,s≠g/\∃f,Ex es g [] s f/\r.Perm f)/\(∀s∈st,s≠g->s∈l∨∀f,Ex es g [] s f->∃r∈fs,r.Perm f)/\G=La es st g fs o4) ?_ ?_ _ _ #[[],_,λ_ z=>z,by rw[Qr];omega,λ_ z=>(nomatch z),λs hs _=>.inl hs,rfl];rintro G ⟨fs,p4,_,O,F,C,rfl⟩;delta La;simp![↓rg];have B:∀r∈fs,gu r=Jt/\∃f,Chn es st g f g/\f.Nodup/\r.Perm f:=λr Y=>by let#[a,s,J,A,f,f1,f2]:=F r Y;let#[v,W]:=bf f1 A (Qa.mpr #[λz=>(nomatch z),Qo]) (.st J A);exact#[a,f,v,W,f2]
 refine XV (by rw[Qr]at O;omega) (λr Y z=>?_) λR nd m=>?_;let#[_,f,v,_,u]:=B r Y;rw[z]at u;exact NQ v u.symm.eq_nil;have p:R.9<64:=by
  have:=x3 (ms:=ns) nd λz i=>by let#[a,f,v,W,u]:=B z ((m z).mp i);exact#[a,u.nodup_iff.mpr W,λx X=>(gT w.ei w.si v).2 x (u.mem_iff.mp X)]
  have:2 ^ ns.9<=2 ^ 5:=Nat.pow_le_pow_right (by decide) s5;omega
 refine#[p,?_];simp![↓zA];refine q R #[λz i=>?_,λf h1 h2=>?_] #[nd,p,λz i=>?_];let#[_,f,v,_,u]:=B z ((m z).mp i);exact#[f,v,u];let#[s,J,A,x]:=E3 h1 h2;let#[r,n,j]:=((C s J A).resolve_left λz=>(nomatch z)) f x;exact#[r,(m r).mpr n,j];let#[_,f,v,W,u]:=B z ((m z).mp i);refine#[#[λe=>?_,?_],λx X=>QZ.mpr #[(gT w.ei w.si v).2 x (u.mem_iff.mp X),?_]];rw[e]at u;exact NQ v u.symm.eq_nil;have:=nC W (gT w.ei w.si v).2;have:=u.length_eq;omega;rw[Q4,decide_eq_false_iff_not];intro e;rw[e]at X;exact Vf v (u.mem_iff.mp X);rintro s l G N S ⟨fs,p4,P,O,F,C,rfl⟩;rw[QL]at O;have hs:=P s QD;refine Vo h w hs () (λz=>S _ #[fs,_,λo L=>P o (QC _ L),(),F,λt I K=>?_,rfl]) λz gs H g2=>S _ #[fs++gs,_,λo L=>P o (QC _ L),by rw[QM];omega,λr Y=>?_,λt I K=>?_,rfl];exact(C t I K).imp_left λy=>(QK.mp y).resolve_left λe=>K (e.trans z);rcases QW.mp Y with y|y
 ·exact F r y
 let#[a,f,b]:=H.1 r y;exact#[a,s,hs,z,f,b];rcases C t I K with y|y
 ·rcases QK.mp y with rfl|y
  ·exact .inr λf M=>by let#[r,n,j]:=H.2 f M;exact#[r,QS _ n,j]
  exact .inl y
 exact .inr λf M=>by let#[r,n,j]:=y f M;exact#[r,Qg _ n,j]
end
noncomputable def bB(k:Nat):PSp where
 md:=[]
 run:=λv Q _=>∃(y:List (LS)) (u:LS),v=[.d (.list (y.map tpS))]/\(y.9<64/\u.9<=k/\∀z∈y,(z≠[]/\z.9<=9)/\∀x∈z,x∈u)/\∀n:Nat,ZX y n->Q (.d (.int (n:Int))) []
 mono:=λh _ z=>by let#[y,u,e,l,q]:=z;exact#[y,u,e,l,λn a=>h _ _ (q n a)]
noncomputable def kj(h:List (LS))(m:Nat)(x o3 o4:Option Sl):kA:=[bD (.list (h.map tpS)),bD (.int (m:Int)),x,o3,o4]
def Np(Ψ:PEv)(k:Nat):Prop:=k=0∨∃j,k=j+1/\Ψ.sp "_law_most"=bB j
theorem Kf{α:Type}(l:List α)(i:Nat):nD l (Jr ((i:Int)+1)) Js=l.drop (i+1):=by
 have e:((i:Int)+1)=((i+1:Nat):Int):=()
 rw[e];exact DQ l (i+1)
section
variable{Ψ:PEv}{Z:PEnds}{y:List (LS)}{ms:LS}{k m:Nat}
theorem yn(hk:Np Ψ k)(I:y.9<64)(G:ms.9<=k)(g:∀z∈y,(z≠[]/\z.9<=9)/\∀x∈z,x∈ms){i:Nat}{r:LS}(A:y[i]?=Jr r){o4:Option Sl}
  (q:∀n o4,ZX ((y.drop (i+1)).filter (rf r)) n->Z.nx (kj y (max m (1+n)) (bD (.int (i:Int))) (bD (tpS r)) o4)) :
  pF Ψ RG Z (kj y m (bD (.int (i:Int))) (bD (tpS r)) o4):=by
 have l:jz=16777216:=qU;let#[#[K,_],rm]:=g r (Qq A);have W:∃x,x∈r:=by
  cases r with|nil=>exact h7 rfl K|cons x r=>exact#[x,QD]
 let#[w,u]:=W;have E:=wP (rm w u);rcases hk with rfl|⟨j,rfl,h⟩
 omega;have F:(y.drop (i+1)).9<=y.length:=by rw[Wh];omega
 delta kj;delta RG;simp![↓x9 (b:=.bin .Add (.xt 2) (.int 1)) rfl,↓Ch,Ld];rw[Kf,<- QDE,<- LA tpS];refine iA (λo=>T.d (tpS o)) (λo=>T.d (tpS o)) (rf r) (y.drop (i+1)) _ _ (λo B R v=>?_) (by rw[Qr];omega) ?_;delta tpS;simp![↓Jk,↓Go];rw[<- LA Jx o];refine iC (λs=>T.d (.str s)) (λs=>T.d (.bool (decide (s∈r)))) o _ _ (λs hs R2 f=>?_) ?_ ?_;simp![QU,we,cC,CB,FA,true_or];exact f;have:=(g o (QAA B)).1.2;rw[Qr];omega;rw[Qy,show o.map (λs=>T.d (.bool (decide (s∈r))))=((o.map λs=>PyData.bool (decide (s∈r))).map T.d) by rw[Qh];rfl,Ii];refine#[o.map λs=>decide (s∈r),by rw[Qh];rfl,?_];have e:(o.map λs=>decide (s∈r)).any id=o.any λx=>decide (x∈r):=by rw[List.any_map];rfl
 rw[e];show if rf r o=Jt then _ else _
 split;rename_i c;rw[hQ c]at v;exact v;rename_i c;rw[hI c]at v;exact v;rw[Qy,LA tpS];simp![↓lA (md:=[]) h rfl rfl];refine#[(y.drop (i+1)).filter (rf r),ms.filter λx=>!decide (x∈r),rfl,#[Wp (WK _ _) (),?_,λz l=>?_],λn C=>#[rfl,?_]];have:(ms.filter λx=>!decide (x∈r)).9<ms.length:=Wz.mpr #[w,rm w u,by rw[dT u];decide];omega;let#[Y,X]:=QZ.mp l;let#[a,b]:=g z (QAA Y);exact#[a,λx p=>QZ.mpr #[b x p,by rw[dF (yT.mp X x p)];rfl]];simp![↓zA];have e:(if(1:Int)+(n:Int) > (m:Int) then(1:Int)+(n:Int) else(m:Int))=((max m (1+n):Nat):Int):=by split<;>omega
 rw[e];exact q n _ C
theorem GU(hk:Np Ψ k)(ds Q E)(h:(bB k).run ds Q E):ds.9=ED.length/\pF Ψ OH (FC (bB k) ED.length Q) (OA rL (bB k).md ds):=by
 let#[y,ms,rfl,#[K,W,b],q]:=h;refine JA [bD (.list (y.map tpS)),Js,Js,Js,Js] ?_;delta OH;simp![↓zA];refine cB (λ(p:D×Nat)=>T.d (.tuple [.int (p.2:Int),p.1])) (λl v=>∃i m s o o4,l=(y.map tpS).zipIdx.drop i/\Rk y i m/\v=kj y m s o o4) ?_ ?_ _ _ #[0,0,_,_,_,rfl,zn y,rfl];rintro v ⟨i,m,g,f,a,e,w,rfl⟩;have e:=Fz wR e;rw[Wh,QBT,QF,Qr]at e;delta kj;simp![↓zA];exact q m (Xe w ());rintro⟨x,j⟩ l v N Y ⟨i,m,g,f,a,e,w,rfl⟩;have u:((y.map tpS).zipIdx.drop i)[0]?=Jr (x,j):=by rw[<- e];rfl
 rw[QBR,Nat.add_zero,QCd,Qi,Wt]at u;cases z:y[i]? with
 |none=>rw[z]at u;cases u|some r =>
  rw[z]at u;cases u;refine kC.mk rfl ?_;have A:l=(y.map tpS).zipIdx.drop (j+1):=by have:=Fz List.tail e;rw[List.tail_drop]at this;exact this
  exact yn (m:=m) (i:=j) (r:=r) (o4:=a) hk K W b z λn o4 X=>Y _ #[j+1,_,_,_,_,A,P7 w z (b r (Qq z)).1.1 X,rfl]
end
section
variable{Ψ:PEv}{k:Nat}{es:gB}{H sr:LS}{x:Str}
theorem dI(h:Ψ.sp "_law_grown"=zB k)(ds Q E)(z:(zB (k+1)).run ds Q E):ds.9=dD.length/\pF Ψ uG (FC (zB (k+1)) dD.length Q) (OA BI (zB (k+1)).md ds):=PP (.inr #[k,rfl,h]) ds Q E z
theorem JH(h:Ψ.sp "_law_most"=bB k)(ds Q E)(z:(bB (k+1)).run ds Q E):ds.9=ED.length/\pF Ψ OH (FC (bB (k+1)) ED.length Q) (OA rL (bB (k+1)).md ds):=GU (.inr #[k,rfl,h]) ds Q E z
theorem aU(ns:LS):∀ms:LS,(ms.flatMap λa=>ns.map λb=>(a,b)).9=ms.9 * ns.9
 |[]=>by simp|a::ms=>by rw[QAl,QM,aU ns ms,QF,QL,QDV,Nat.add_comm]
def cn(l:LS):Str×Str:=(l.headD #[#[]],l.tail.headD #[#[]])
def Vg(p:Str×Str):LS:=[p.1,p.2]
theorem Uk{n:Bool}{Q:T->Bool->Prop}(h:es.9<306)(q:∀u:gB,u.Nodup->(∀z,z∈u↔z∈es)->u.9<64/\Q (.lst ((u.map pr).map T.d)) Jt):MJ (vA (.d (.list (es.map pr))) n).vw Q:=by
 have e:es.map pr=(es.map Vg).map tpS:=by rw[Qh];rfl
 rw[e];refine XV (by rw[QF];exact h) (λr g=>?_) λu nd m=>?_;let#[p,_,rfl]:=QV.mp g;exact λz=>(nomatch z)
 have f:(u.map cn).map Vg=u:=by rw[Qh];refine(qV λy w=>?_).trans (QAK _);let#[p,_,rfl]:=QV.mp ((m y).mp w);rfl
 have j:(u.map cn).map pr=u.map tpS:=by
  have:∀l:gB,l.map pr=(l.map Vg).map tpS:=λl=>by rw[Qh];rfl
  rw[this,f]
 have:=q (u.map cn) (by rw[<- f]at nd;exact QA1 Vg (λa b h e=>h (Fz Vg e)) nd) λz=>by constructor;intro v;let#[y,w,rfl]:=QV.mp v;let#[p,i,rfl]:=QV.mp ((m y).mp w);exact i;exact λv=>QV.mpr #[Vg z,(m _).mpr (w8 v),rfl]
 rw[QF,j]at this;exact this
noncomputable def jf(es:gB)(H:LS)(x:Str):gB:=es.filter λp=>decide (p.1∈H)&&(decide (p.2∈H)||decide (p.2=x))
theorem GS{p:Str×Str}:p∈jf es H x↔p∈es/\p.1∈H/\(p.2∈H∨p.2=x):=by unfold jf;rw[QZ,Qe,wj,Fy,Fy,Fy]
theorem hX{c:LS}{n:Str}(h:Chn (uO es H) sr x c n):n∈H∨n=x->Chn (jf es H x) sr x c n:=by
 induction h with|st a b=>exact λ_=>.st a b|go _ k e u=>let#[v,y]:=DE.mp e;exact λz=>.go (u (.inl y)) k (GS.mpr #[v,y,z])
theorem dM{es':gB}{f:List (LS)}{n:Nat}{k:Int}(hs:∀p,p∈es'↔p∈es)(w:Rws (jf es' H x) sr x f)(m:ZX f n):k<=(n:Int)↔xF es sr x H k:=by rw[R0 w m];constructor;rintro⟨v,a,b,l⟩;refine#[v,a,λc hc=>Chn.sub (λe y=>?_) (λ_ h=>h) (b c hc),l];let#[u,z,_]:=GS.mp y;exact DE.mpr #[(hs e).mp u,z];rintro⟨v,a,b,l⟩;refine#[v,a,λc hc=>hX (Chn.sub (λe y=>?_) (λ_ h=>h) (b c hc)) (.inr rfl),l];let#[u,z]:=DE.mp y;exact DE.mpr #[(hs e).mpr u,z]
structure HeO(es:gB)(sr:LS)(nd:List (Str×Int))(ns:LS):Prop where
 el:es.9<=126
 ei:∀p∈es,p.1∈ns/\p.2∈ns
 ok:∀s∈ns,LZ s
 si:∀s∈sr,s∈ns
 sn:sr.Nodup
 s5:ns.9<=5
 np:(nd.map λp=>p.1).Perm ns
 nn:ns.Nodup
noncomputable def vN:PSp where
 run:=λy Q _=>∃(es:gB) (sr:LS) (nd:List (Str×Int)) (h:LS),y=[.d (.list (es.map pr)),.d (.list (sr.map Jx)),.d (.list (nd.map yI))]/\HeO es sr nd h/\∀hs:LS,hs.Nodup->gu hs=Jt->(∀x,x∈hs↔Held es sr nd x)->Q (.lst ((hs.map Jx).map T.d)) []
noncomputable def yX(es:gB)(sr:LS)(nd:List (Str×Int))(H:LS)(o4 o5 o6 o7:Option Sl):kA:=[bD (.list (es.map pr)),bD (.list (sr.map Jx)),bD (.list (nd.map yI)),oW (.lst ((H.map Jx).map T.d)),o4,o5,o6,o7]
structure HI(es:gB)(sr:LS)(nd:List (Str×Int))(H:LS):Prop where
 un:H.Nodup
 held:∀x∈H,Held es sr nd x
 see:∀s∈sr,s∈H
def xl(es:gB)(sr:LS)(nd:List (Str×Int))(H:LS):Prop:=∀x n,(x,n)∈nd->x∉H->¬ xF es sr x H n
end
section
variable{Ψ:PEv}{Z:PEnds}{es es':gB}{sr ns H:LS}{nd:List (Str×Int)}
theorem HI.in(w:HeO es sr nd ns)(h:HI es sr nd H):∀x∈H,x∈ns:=λx y=>by let#[n,e]:=zO (h.held x y);exact w.np.mem_iff.mp (QV.mpr #[_,e,rfl])
theorem Kn(X:Ψ.sp "_law_most"=bB 4)(s:Ψ.sp "_law_all"=vI)(w:HeO es sr nd ns)(v:es'.9<64)(hs:∀p,p∈es'↔p∈es)(i:HI es sr nd H){x:Str}{n:Int}(r:(x,n)∈nd){o4 o7:Option Sl}
  (u:∀o7,(x∈H∨¬ xF es sr x H n)->Z.nx (yX es' sr nd H o4 (bD (.str x)) (bD (.int n)) o7))
  (o:∀o7,x∉H->xF es sr x H n->Z.nx (yX es' sr nd (H++[x]) o4 (bD (.str x)) (bD (.int n)) o7)) :
  pF Ψ OE Z (yX es' sr nd H o4 (bD (.str x)) (bD (.int n)) o7):=by
 have l:=w.s5;have hl:=nC i.un (i.in w);have k:x∈ns:=w.np.mem_iff.mp (QV.mpr #[_,r,rfl]);by_cases a:x∈H;have u:=u o7 (.inl a);unfold yX at u ⊢;delta OE;simp![cC,CB,FA,true_or];rw[dT a];simp![↓zA];exact u;delta yX;delta OE;simp![cC,CB,FA,true_or];rw[dF a];simp![↓zA];rw[<- LA pr es'];refine iA (λ(p:Str×Str)=>T.d (pr p)) (λp=>T.d (pr p)) (λp=>decide (p.1∈H)&&(decide (p.2∈H)||decide (p.2=x))) es' _ _ (λp g R h=>?_) (by rw[Qr];omega) ?_;simp![↓G4,↓Fo,↓JJ,↓RX,cC,CB,FA,true_or];by_cases d:p.1∈H;rw[dT d]at h ⊢;simp only[QA5,if_true]at h ⊢;by_cases e:p.2∈H;rw[dT e]at h ⊢;exact h;rw[dF e]at h ⊢;by_cases f:p.2=x;rw[dT f]at h ⊢;exact h;rw[dF f]at h ⊢;exact h;rw[dF d]at h ⊢;exact h;rw[Qy,LA pr];simp![↓lA (md:=[]) X rfl rfl,↓lA (md:=[]) s rfl rfl];have q:(jf es' H x).9<64:=Wp (WK _ _) v;refine#[jf es' H x,sr,x,ns,rfl,#[q,λp g=>w.ei p ((hs p).mp (GS.mp g).1),w.ok,k,w.si,Qf (nC w.sn w.si) (),l],λj rw b=>#[rfl,?_]];simp![↓zA];refine#[j,ns.filter λy=>!decide (y=x),rfl,#[b.2.1,?_,b.2.2],λm hm=>#[rfl,?_]];have:(ns.filter λy=>!decide (y=x)).9<ns.length:=Wz.mpr #[x,k,by rw[dT rfl];decide];omega;simp![↓Pj];by_cases c:n<=(m:Int);rw[dT c];simp![↓zA];refine#[by rw[QF,QF];omega,?_];have:=o (bD (.list ((jf es' H x).map pr))) a ((dM hs rw hm).mp c);unfold yX at this;rw[Qb,Qb]at this;exact this;rw[dF c];simp![↓zA];exact u _ (.inr λz=>c ((dM hs rw hm).mpr z))
theorem HI.add(h:HI es sr nd H){x:Str}{n:Int}(v:(x,n)∈nd)(w:x∉H)(m:xF es sr x H n):HI es sr nd (H++[x]) :=
 #[pJ h.un w,λy u=>(QW.mp u).elim (h.held y) λz=>by rw[QI.mp z];exact .tell H v h.held m,λs hs=>Qg _ (h.see s hs)]
theorem Zn(E:Ψ.sp "_law_most"=bB 4)(C:Ψ.sp "_law_all"=vI)(w:HeO es sr nd ns)(j:es'.9<64)(hs:∀p,p∈es'↔p∈es)(A:HI es sr nd H){o4 o5 o6 o7:Option Sl}
  (q:∀v o5 o6 o7,HI es sr nd v->(H.9<v.9/\¬ xl es sr nd H)∨(v=H/\xl es sr nd H)->Z.nx (yX es' sr nd v o4 o5 o6 o7)) :
  pF Ψ SG Z (yX es' sr nd H o4 o5 o6 o7):=by
 delta yX;delta SG;simp![↓zA];rw[<- LA yI nd];refine cB (λ(p:Str×Int)=>T.d (yI p)) (λl i=>∃v o5 o6 o7,(∀p∈l,p∈nd)/\HI es sr nd v/\((H.9<v.9/\¬ xl es sr nd H)∨(v=H/\∀x n,(x,n)∈nd->(x,n)∈l∨x∈H∨¬ xF es sr x H n))/\i=yX es' sr nd v o4 o5 o6 o7) ?_ ?_ _ _ #[H,_,_,_,λ_ z=>z,A,.inr #[rfl,λx n h=>.inl h],rfl];rintro i ⟨v,W,Y,X,_,f,d,rfl⟩;delta yX;simp![↓zA];exact q v _ _ _ f (d.imp_right λz=>#[z.1,λx n g B=>((z.2 x n g).resolve_left λy=>(nomatch y)).resolve_left B]);rintro⟨x,n⟩ l i N s ⟨v,W,Y,X,r,f,d,rfl⟩;have g:=r _ QD;refine kC.mk rfl ?_;refine Kn (x:=x) (n:=n) E C w j hs f g (λo7 z=>s _ #[v,_,_,_,λp o=>r p (QC _ o),f,?_,rfl]) λo7 z m=>s _ #[v++[x],_,_,_,λp o=>r p (QC _ o),f.add g z m,.inl ?_,rfl];refine d.imp_right λy=>#[y.1,λu k K=>?_]
 rcases y.2 u k K with t|t;rcases QK.mp t with e|t
 ·cases e
  rw[y.1]at z;exact .inr z
 exact .inl t;exact .inr t;rcases d with⟨a,b⟩| ⟨rfl,b⟩
 ·exact#[by rw[QM];omega,b]
 exact#[by rw[QM,Qw];omega,λc=>c x n g z m]
theorem U0{ss:LS}{n:Bool}{Q:T->Bool->Prop}(h:ss.9<64)(q:∀x:LS,x.Perm ss->gu x=Jt->Q (.lst ((x.map Jx).map T.d)) Jt):CL .sorted [(.lst ((ss.map Jx).map T.d),n)] Q:=by unfold CL GB;rw[oC];exact .inl #[_,ss,rfl,oA _,h,q]
end
theorem g7{Ψ:PEv}(h1:Ψ.sp "_law_most"=bB 4)(h2:Ψ.sp "_law_all"=vI):EO Ψ cL vN bR jM:=by
 rintro _ Q _ ⟨f,h,nd,ns,rfl,w,q⟩;have Z:=w.s5;have el:=w.el;have ln:nd.9=ns.length:=by rw[<- w.np.length_eq,QF]
 refine JA [bD (.list (f.map pr)),bD (.list (h.map Jx)),bD (.list (nd.map yI)),Js,Js,Js,Js,Js] ?_;delta cL;simp![↓zA];refine Uk () λk m o=>?_;have v:k.9<64:=by have:=GN (ns:=ns.flatMap λa=>ns.map λb=>(a,b)) m λp g=>QA0.mpr #[p.1,(w.ei p ((o p).mp g)).1,QV.mpr #[p.2,(w.ei p ((o p).mp g)).2,rfl]];rw[aU]at this;have:=Nat.mul_le_mul Z Z;omega
 refine#[v,?_];simp![QF];refine#[(),(),?_];have r:∀x n,(x,n)∈nd->x∈ns:=λx n u=>w.np.mem_iff.mp (QV.mpr #[_,u,rfl]);have s:HI f h nd h:=#[w.sn,λx u=>by let#[p,g,e]:=QV.mp (w.np.mem_iff.mpr (w.si x u));have e:p.1=x:=e;exact .see (n:=p.2) (by rw[<- e];exact g) u,λ_ z=>z]
 refine cB (λ(i:Nat)=>T.d (.int (i:Int))) (λl j=>∃H M B A K,HI f h nd H/\(xl f h nd H∨nd.9<=H.9+l.9)/\j=yX k h nd H M B A K) ?_ ?_ _ _ #[h,_,_,_,_,s,.inr ?_,rfl];rintro j ⟨H,L,J,I,G,i,d,rfl⟩;have hl:=nC i.un (i.in w);delta yX;simp![↓zA];refine U0 () λE W F=>?_;simp![↓zA];have X:xl f h nd H:=by rcases d with d|d;exact d;intro x n u S;have:=nC (ks:=x::H) (ns:=ns) (Qa.mpr #[S,i.un]) λy P=>(QK.mp P).elim (λe=>by rw[e];exact r x n u) (i.in w y);rw[Qr]at d;rw[QL]at this;omega
 exact q E (W.nodup_iff.mpr i.un) F λx=>W.mem_iff.trans (JQ i.held (λx n _ hs=>i.see x hs) X x);rintro t l j N R ⟨H,L,J,I,G,i,d,rfl⟩;rw[QL]at d;exact Zn h1 h2 w v o i λH' B A K O c=>R _ #[H',_,_,_,_,O,by
  rcases c with⟨C,Y⟩| ⟨C,Y⟩
  exact .inr (by have:=d.resolve_left Y;omega);exact .inl (by rw[C];exact Y),rfl]
 rw[qM];omega
theorem z9{ss:LS}{n:Bool}{Q:T->Bool->Prop}(h:ss.9<64)(q:∀x:LS,x.Nodup->(∀s,s∈x↔s∈ss)->gu x=Jt->Q (.lst ((x.map Jx).map T.d)) Jt):MJ (vA (.d (.list (ss.map Jx))) n).vw Q:=by rw[fA];exact .inl #[_,ss,rfl,oA _,h,q]
theorem Tl{a:D}{b:List D}{m:Bool}{R:T->Prop}:xC (.tup [.d a,.lst (b.map T.d)]) Jt (.d (.int 0)) m R=R (.d a):=by
 have e:xC (.tup [.d a,.lst (b.map T.d)]) Jt (.d (.int 0)) m R=xC (.d (.tuple [a,.list b])) Ju (.d (.int 0)) m R:=by unfold xC;show(GK (T.d (T.tup [.d a,.lst (b.map T.d)]).er).vw _ R∨dO (T.d (T.tup [.d a,.lst (b.map T.d)]).er).vw _ R)=_;rw[J8];rfl
 rw[e,OX,X4,OB]
theorem Rj{a:LS}{L:Bool->Prop}(h:∀s∈a,qb s=Jt):OC .Eq (.lst ((a.map Jx).map T.d)) (.d (.list (a.map Jx))) L=L true:=by show(uT .Eq (.list (ersT ((a.map Jx).map T.d))) (.list (a.map Jx)) L)=_;rw[KA];show(UD (.list (a.map Jx))/\UD (.list (a.map Jx))/\L (qE (.list (a.map Jx)) (.list (a.map Jx))))=_;have o:=f7 h;rw[PySem.SeqAt.eqv_refl _ o.1];exact h8 #[λh=>h.2.2,λh=>#[o,o,h]]
theorem be{Ψ:PEv}(C:Ψ.sp "_law_web"=LR)(I:Ψ.sp "_law_needs"=NJ)(G:Ψ.sp "ground_by"=pY)(E:Ψ.sp "_law_held"=vN):EO Ψ Z4 FP Gb AY:=by
 rintro _ Q _ ⟨K,hl,hb,rfl,q⟩;refine JA [Jr (.kw (.lst ((K.map Jy).map T.d))),Js,Js,Js,Js,Js,Js,Js] ?_;delta Z4;simp![↓lA (md:=[.kz]) C rfl rfl];refine#[_,rfl,λv J st g w m=>#[rfl,_,rfl,?_]];let#[Y,i,f,k,M,X,p]:=w;simp![↓zA];refine z9 () λj l sm _=>?_;have y:∀s∈j,s∈v:=λs hs=>X s ((sm s).mp hs);have N:=nC l y;have h:∀s∈v,qb s=true:=λs hs=>N9 (i s hs);simp![↓lA (md:=[.kz]) I rfl rfl];refine#[_,_,rfl,#[wP p,()],λnd ok=>#[rfl,?_]];have O:nd.9=v.length:=by rw[<- ok.1.length_eq,QF]
 simp![↓lA (md:=[]) G rfl rfl];refine#[_,_,_,rfl,#[f,(),#[λs hs=>h s (y s hs),λe o=>#[h _ (k e o).1,h _ (k e o).2]],(),ok.1.nodup_iff.mpr m],λz F L u B _=>#[rfl,?_]];simp![↓Tl];rw[<- LA zJ z];refine iC (λr=>T.d (zJ r)) (λr=>T.d (.str r.1)) z [] _ (λx P R A=>?_) (by show 0+z.9<=_;have:=u.len;rw[u.rlen];omega) ?_;delta zJ;simp![X4];exact A;rw[Qy,show z.map (λr=>T.d (.str r.1))=(((z.map λr=>r.1).map Jx).map T.d) by rw[Qh,Qh];rfl,<- u.e];refine U0 (by have:=u.len;omega) λfs W Z=>?_;simp![↓lA (md:=[]) E rfl rfl];refine#[J,j,nd,v,rfl,#[f,k,i,y,l,Y,ok.1,m],λhs b a hm=>#[rfl,?_]];have e:fs=hs:=dP Z a (W.trans ((W7 u.ndp b).mpr λx=>(B x).trans (hm x).symm));subst e;simp![↓zA];rw[Rj λs hs=>?_];exact q;let#[n,b]:=zO ((hm s).mp hs);exact h s (ok.1.mem_iff.mp (QV.mpr #[_,b,rfl]))
end L2.L3.K20
namespace L2.L3
open PySem PySem.Spec PyProof.Rows
section
variable{K:QE}{x:Str}
noncomputable def Dl(as:List jv)(h:j0):QE:=as.filterMap λa=>(h.get? a).map λo=>(a,o)
theorem RS{h:j0}:∀(as:List jv),(Dl as h).In h
 |[],a,o,e=>nomatch e
 |b::as,a,o,e=>by
  unfold Dl at e;rw[wQ]at e;cases c:h.get? b with
  |none=>rw[c]at e;exact RS as a o e|some y =>
   rw[c]at e;have e:Wv a ((b,y)::Dl as h)=Jr o:=e;rw[wA]at e;cases d:a==b with|true=>rw[d]at e;cases e;rw[beq_iff_eq.mp d];exact c|false=>rw[d]at e;exact RS as a o e
noncomputable abbrev Ol:=(Str×Str×Arguments×FuncBody×kl)×(jv×List (Str×jv)×Jw×jv)×Bool
noncomputable def On(h:Kw)(b:Bool):Ol:=((h.name,h.qualname,h.params,h.body,h.scope),(h.globals,h.closure,h.defaults,h.builtins),b)
def SS(K:QE)(x:Str):Option Ol:=match WJ K ju x with
 |some (Jr (.ref f))=>(match K.lookup f with
  |some #[_,_,.func fd,_]=>Jr (On fd (QBW K fd.code x&&Wm K (.ref f)))|_=>Js)
 |_=>Js
def E2(x:Str)(st:kf):Option Ol:=Jr (On (wr x x (IC st) (bC st) (GA st) .none .none .none .none Js .none .none) Jt)
theorem KY{st:kf}(h:SS K x=E2 x st):lR K x st:=by unfold SS at h;split at h;rename_i f hf;split at h;rename_i oc od fd osl hl;unfold E2 at h;injection h with h;let#[p,o,n,m,l,j,i,g,e,b,a,k,w,v,u]:=fd;unfold On at h;injection h with h1 h2;injection h2 with h2 h3;injection h1 with b1 h1;injection h1 with b2 h1;injection h1 with b3 h1;injection h1 with b4 b5;injection h2 with c1 h2;injection h2 with c2 h2;injection h2 with c3 c4;let#[y,z]:=QA4.mp h3;simp only at b1 b2 b3 b4 b5 c1 c2 c3 c4 y;subst b1 b2 b3 b4 b5 c1 c2 c3 c4;exact#[f,_,hf,uf hl y z];cases h;cases h
def PM(K:QE)(x:Str):Option (List (Option V)):=match WJ K ju x with
 |some (Jr (.ref f))=>(match K.lookup f with
  |some #[.type t,_,.seq its _,_]=>if t="tuple" then Jr (its.toList.map cJ) else Js|_=>Js)
 |_=>Js
def OM(K:QE)(x:Str):Option V:=match WJ K ju x with
 |some (Jr u)=>cJ u|_=>Js
noncomputable def rS(K:QE)(x:Str):Bool:=match WJ K ju x with
 |some Js=>Jt|_=>Ju
theorem v6(h:rS K x=Jt):WJ K ju x=Jr none:=by unfold rS at h;split at h;assumption;cases h
theorem ZY{i:Int}(h:OM K x=Jr (.int i)):lL K x (.int i):=by unfold OM at h;split at h;rename_i u hu;exact#[u,_,hu,h,λ_=>.int i];cases h
theorem IV{xs:LS}(h:PM K x=Jr (xs.map λy=>Jr (.str y)))(hz:xs.9<=jz):lL K x (.tuple (xs.map Jx)):=by unfold PM at h;split at h;rename_i f hf;split at h;rename_i t od its n osl hl;split at h;rename_i et;subst et;injection h with h;exact yY (its:=its.toList) hf (by simpa using hl) h hz;cases h;cases h;cases h
theorem walk_seen{l:PySem.W.OpenLaw}{k:Nat}{q:jt}{loose:LS}{XP:(Str->Option Jw)->j0->Prop}{YP:jw->j0->Prop}{d:DefRec}{Fs:QE->Prop}
  (S:l.most=Jr 63) (B:d.params.defaults=[]) (Q:Room k Yr) (hY:∀(w:jw) (h:j0),YP w h->∃K:QE,K.In h/\Fs K)
  (F:∀(w:jw) (j:Str->Option Jw) (X:jv) (h:j0) (K:QE),K.In h->Fs K->h.Ns ju j->j d.name=Jr (.ref X) ->
   ∃C:Kw,(∀(s:jx) (u:Jw),Yz s C #[[u],[]] [(x,u)]) /\
    ∀y:j0,K.In y->y.Ns ju j->FnOk l.prog w K j y MX k X C [x] (lift K FP)) :
  PySem.W.WalkO q loose XP YP l.row.toRowW d [] (λf vs=>PySem.call f vs):=by
 intro w J I j mb G Y X o pm cd doc dV kV ho hd hcd L A hg args E as m p P Z hlo;obtain rfl:dV=.none:=PySem.W.Dflts.none L B;obtain rfl:kV=.none:=PySem.W.Dflts.noKw L;let#[a,vs,O,rfl,rfl,n,i,v]:=Att.script_of S m Z;let#[K,M,fs]:=hY w _ Y;let#[C,hb,hF]:=F w j X _ K M fs G.T.g A;refine PySem.W.enter_call (QAL (B1 M G.T.g G.T.b G.T.builtins G.T.nolimit hg n i (Qf v (by decide)) Q hF hb (λH hO hS=>De _ H a O v (A8 p) hS) λH e N=>λz=>z) λr N R=>?_);let#[rfl,h2,h3,h4]:=R;exact#[.inl #[.bool Jt,.bool Jt,[],rfl,λ_=>rfl,.bool Jt,Att.post_true l _,λ_=>#[List.Pairwise.nil,λ_ hm=>(nomatch hm)]],h2,h3,h4]
end
end L2.L3
namespace L2.L3.K20
open PySem PySem.Spec PyProof.Rows L2 L2.L3
def Bo:Nat->(LW->Prop)->Prop
 |0,p=>p []|n+1,p=>∀u,Bo n λh=>p (u::h)
theorem Al:∀{n:Nat}{p:LW->Prop},Bo n p->∀us:LW,us.9=n->p us
 |0,_,h,us,e=>by rw[qw.mp e];exact h|_+1,_,_,[],e=>nomatch e
 |_+1,_,h,u::us,e=>Al (h u) us (Nat.succ.inj e)
def Hq(x q:Str)(st:kf)(u:LS):Prop:=∀(kV h v:Jw) (k:Option jv) (y w:Jw),Bo u.9 λz=>xx (wr x q (IC st) (bC st) (GA st) .none kV h v k y w) #[z,[]]=hT (u.zip z)
noncomputable def fT:List (Str×Nat):=([("_law_fold",20),("_law_mixed",18),("_law_names",19),("_law_web",21),("_law_needs",25),("add_way",6),("add_name",5),("rooms_of",4),("points_reached",7),("lay_chain",8),("name_behind",10),("chain_from",9),("full_names",11),("apart_chains",3),("told_through",15),("ground_alone",14),("ground_by",13),("_law_most",24),("_law_grown",22),("_law_all",23),("_law_held",26),("law",27)]:List (String×Nat)).map λp=>(Ql p.1,p.2)
def tT:List (Str×LS):=[("BEGIN",["","begin"])]
def sT:List (Str×Int):=[("WIDE",2)]
noncomputable def nT:LS:=(["any","enumerate","len","list","max","range","set","sorted","tuple"]:List String).map Ql
noncomputable def qv:Program:={ qj with main:={ qj.main with body:=[1,2,3,4,5,6,7,8,9,10,11,13,14,15,17,18,19,20,21,22,23,24,25,26,27].map xH } }
noncomputable abbrev M4:=List (Option Ol)×List (Option (List (Option V)))×List (Option V)×List Bool
def seen(K:QE):M4:=(fT.map λp=>SS K p.1,tT.map λp=>PM K p.1,sT.map λp=>OM K p.1,nT.map (rS K))
def due:M4:=(fT.map λp=>E2 p.1 (xH p.2),tT.map λp=>Jr (p.2.map λy=>Jr (.str y)),sT.map λp=>Jr (.int p.2),nT.map λ_=>Jt)
noncomputable def Kg:List (Str×D):=tT.map (λp=>(p.1,.tuple (p.2.map Jx)))++sT.map λp=>(p.1,.int p.2)
structure Cx(K:QE)(h:j0)(mg:Str->Option Jw):Prop where
 X:K.In h
 G:h.Ns ju mg
 V:∀p∈Kg,lL K p.1 p.2
 N:∀y∈nT,WJ K ju y=Jr Js
 D:∀p∈fT,lR K p.1 (xH p.2)
theorem uE{α:Type}{d:α}:∀{l:List α}{i:Nat},QD4 i l.9=Jt->l.getD i d∈l
 |[],_,h=>nomatch h
 |_::_,0,_=>.head _|_::_,_+1,h=>.tail _ (uE (Nat.blt_eq.mpr (wO (Nat.blt_eq.mp h))))
theorem E9{α:Type}{l:List (Str×α)}{p:Str×α}(nd:(l.map wl).Nodup)(h:p∈l):l.lookup p.1=Jr p.2:=by
 induction l with|nil=>cases h|cons a l y=>let#[x,s]:=a;rw[QU,Qa]at nd;rw[wA];rcases QK.mp h with rfl|h;rw[beq_self_eq_true];have hm:p.1∈l.map wl:=w8 h;have u:(p.1==x)=false:=beq_eq_false_iff_ne.mpr λz=>nd.1 (by rw[<- z];exact hm);rw[u];exact y nd.2 h
theorem Y1{α:Type}{a:α}{g:Str}:∀(l:LS) (r:List α) (i:Nat),g≠l.getD i ""->(l.zip (r.set i a)).lookup g=(l.zip r).lookup g
 |[],_,_,_=>rfl|_::_,[],_,_=>rfl|x::l,s::r,0,h=>by have h:g≠x:=h;show Wv g ((x,a)::l.zip r)=Wv g ((x,s)::l.zip r);rw[wA,wA,beq_eq_false_iff_ne.mpr h]|x::l,s::r,i+1,h=>by show Wv g ((x,s)::l.zip (r.set i a))=Wv g ((x,s)::l.zip r);rw[wA,wA,Y1 l r i h]
def X7:LS:=fT.map wl
def fx(i:Nat):Str×Nat:=fT.getD i ("",0)
def tbl(r:List PSp):PEv:=d9 (X7.zip r) Kg
theorem xP{r:List PSp}(i:Nat)(h:QD4 i Kg.length=true:=by rfl):(tbl r).va (Kg.getD i ("",.none)).1=Jr (Kg.getD i ("",.none)).2:=E9 (zE (by kernel_rfl)) (uE h)
theorem Fh{r:List PSp}(nd:fI ((X7.zip r).map wl)=Jt)(i:Nat)(h:QD4 i (X7.zip r).9=Jt):(tbl r).sp ((X7.zip r).getD i ("",oZ)).1=((X7.zip r).getD i ("",oZ)).2:=by show(Wv _ _).getD oZ=_;rw[E9 (zE nd) (uE h)];rfl
noncomputable def nB(n:Need)(fs:LS):Bool:=n.fn.all (λx=>fs.contains x)&&((n.va.all λx=>(Kg.map wl).contains x)&&n.no.all (λx=>nT.contains x))
section
variable{P:jt}{w:jw}{K:QE}{h base:j0}{mg:Str->Option Jw}{r r':List PSp}{R:PSp}{fs:LS}{k:Nat}{b:PT}{n:Need}{N u:LS}
theorem hv(C:Cx K h mg)(A:∀g∈fs,NC P w K mg base (tbl r) k g)(i:Nat)(JB:jC n b N u (xH (fx i).2)=Jt)
  (body:∀ts Q E,R.run ts Q E->ts.9=u.9/\pB (tbl r) (λ_=>False) b (FC R u.9 Q) (OA N R.md ts)) (l:(tbl r').sp (fx i).1=R) (hc:gI (DB 0 R.md u.9) b=true:=by kernel_rfl)
  (hb:Hq (fx i).1 (fx i).1 (xH (fx i).2) u:=by(repeat intro _);rfl)
  (x:nB n fs=true:=by kernel_rfl) (v:QD4 i fT.length=true:=by rfl):NC P w K mg base (tbl r') (k+1) (fx i).1:=by
 let#[p,x]:=yA x;let#[o,m]:=yA x;exact D2 C.X C.G (C.D _ (uE v)) JB hc (λa b c d e f=>Al (hb a b c d e f)) (λg j=>A g (TM p g j)) (FT C.X C.G C.V o) (λy z=>C.N y (TM m y z)) body l
theorem hc(A:∀g∈fs,NC P w K mg base (tbl r) k g){x:Str}(Z:NC P w K mg base (tbl r) (k+1) x):∀g∈x::fs,NC P w K mg base (tbl r) (k+1) g:=by intro g y;rcases QK.mp y with rfl|y;exact Z;exact(A g y).mono (wm _)
theorem hm(A:∀g∈fs,NC P w K mg base (tbl r) k g):∀g∈fs,NC P w K mg base (tbl r) (k+1) g:=λg x=>(A g x).mono (wm _)
theorem h0(C:Cx K h mg)(i:Nat)(JB:jC n b N u (xH (fx i).2)=Jt)(hb:Hq (fx i).1 (fx i).1 (xH (fx i).2) u:=by(repeat intro _);rfl)(x:QD4 i fT.length=true:=by rfl)(e:(tbl r).sp (fx i).1=oZ:=by kernel_rfl):NC P w K mg base (tbl r) (k+1) (fx i).1 :=
 zX C.X C.G (C.D _ (uE x)) JB (λa b c d e f=>Al (hb a b c d e f)) (by rw[e];exact λ_ _ _ z=>z.elim)
theorem hs(A:∀g∈fs,NC P w K mg base (tbl r) k g){i:Nat}(Z:NC P w K mg base (tbl (r.set i R)) (k+1) (fx i).1)(y:fs.contains (fx i).1=false:=by kernel_rfl)(e:(fx i).1=X7.getD i "":=by rfl):∀g∈(fx i).1::fs,NC P w K mg base (tbl (r.set i R)) (k+1) g:=by intro g x;rcases QK.mp x with rfl|x;exact Z;refine((A g x).mono (wm _)).to ?_;show(Wv _ _).getD oZ=(Wv _ _).getD oZ;rw[Y1];rintro rfl;rw[e,Qs.mpr x]at y;cases y
theorem hl(C:Cx K h mg)(A:∀g∈fs,NC P w K mg base (tbl r) k g){x q:Str}{st:kf}{f:jv}{v:Kw}(F:Fun K x q st f v)(JB:jC n b N u st=Jt)
  (body:∀ts Q E,R.run ts Q E->ts.9=u.9/\pB (tbl r) (λ_=>False) b (FC R u.9 Q) (OA N R.md ts)) (hc:gI (DB 0 R.md u.9) b=true:=by kernel_rfl) (z:nB n fs=true:=by kernel_rfl):FnOk P w K mg base MX (k+1) f v u (lift K R):=by
 let#[l,z]:=yA z;let#[j,i]:=yA z;exact A2 F JB hc (λg e=>A g (TM l g e)) (FT C.X C.G C.V j) (λy a=>QDD C.X C.G (C.N y (TM i y a))) body
theorem cx_of(X:K.In h)(G:h.Ns ju mg)(e:seen K=due)(j:(tT.all λp=>decide (p.2.9<=1000))=Jt):Cx K h mg:=by injection e with g e;injection e with f e;injection e with a v;have g:=QAn.mp g;have f:=QAn.mp f;have a:=QAn.mp a;have v:=QAn.mp v;refine#[X,G,λp x=>?_,λy i=>v6 (v y i),λp x=>KY (g p x)];rcases QW.mp x with x|x;let#[q,z,rfl]:=QV.mp x;have:=Fx (qN.mp j q z);exact IV (f q z) ();let#[q,z,rfl]:=QV.mp x;exact ZY (a q z)
end
def sR:List PSp:=[OF,tB,OJ,LR,NJ,RF,gH,cH,cF,kN,PF,dH,xN,fH,aE,fF,pY,bB 4,zB 3,vI,vN,FP]
theorem eA(i:Nat)(h:QD4 i (X7.zip sR).9=true:=by rfl):(tbl sR).sp ((X7.zip sR).getD i ("",oZ)).1=((X7.zip sR).getD i ("",oZ)).2:=Fh (by kernel_rfl) i h
theorem all{P:jt}{w:jw}{K:QE}{h:j0}{y:Str->Option Jw}{a:jv}(C:Cx K h y)(z:y "law"=Jr (.ref a)) :
  ∃v:Kw,(∀(s:jx) (u:Jw),Yz s v #[[u],[]] [("_law_script",u)])/\∀x:j0,K.In x->x.Ns ju y->FnOk P w K y x MX 31 a v ["_law_script"] (lift K FP):=by
 refine Fe C.X C.G (C.D (fx 21) (uE rfl)) rfl z (eA 21) (λ_ _ _ _ _ _ b hl=>by let#[u,rfl]:=QCD.mp hl;rfl) λx i e f v F _=>?_;have A:∀g∈([]:LS),NC P w K y x (tbl sR) 0 g:=nofun;have A:=hc A (hv C A 0 nX m7 (eA 0));have A:=hc A (hv C A 1 oT CZ (eA 1));have A:=hc A (hv C A 2 mT (BZ (eA 1)) (eA 2));have A:=hc A (hv C A 3 j4 (ke (eA 0) (eA 1) (eA 2)) (eA 3));have A:=hc A (hv C A 4 lT (UZ (eA 0) (eA 1)) (eA 4));have A:=hc A (hv C A 5 pT t7 (eA 5));have A:=hc A (hv C A 6 SQ (e7 (eA 5)) (eA 6));have A:=hc A (hv C A 7 RQ (sW (eA 6) (eA 5) (xP 0) (xP 1)) (eA 7));have A:=hc A (hv C A 8 LH (XZ (xP 0)) (eA 8));have A:=hc A (hv C A 9 pO (ue (xP 0)) (eA 9));have A:=hc A (hv C A 10 yL tW (eA 10));have A:=hc A (hv C A 11 UL (FZ (eA 10)) (eA 11));have A:=hc A (hv C A 12 VL l7 (eA 12));have A:=hc A (hv C A 13 bJ (GZ (eA 7) (eA 8) (eA 9) (eA 11) (eA 12) (xP 0)) (eA 13));have A:=hc A (hv C A 14 xJ (d7 (eA 13)) (eA 14));have A:=hc A (hv C A 15 uJ (HZ (eA 14)) (eA 15));have A:=hc A (hv C A 16 rO (Mi (eA 15) (eA 14)) (eA 16));have S:=hs A (h0 (r:=sR.set 17 oZ) C 17 xD);have A:=hm A;have Z:=hv (r':=sR.set 17 (bB 0)) C S 17 xD (GU (k:=0) (.inl rfl)) (by kernel_rfl);have S:=hs A Z;have A:=hm A;have Z:=hv (r':=sR.set 17 (bB 1)) C S 17 xD (JH (k:=0) (by kernel_rfl)) (by kernel_rfl);have S:=hs A Z;have A:=hm A;have Z:=hv (r':=sR.set 17 (bB 2)) C S 17 xD (JH (k:=1) (by kernel_rfl)) (by kernel_rfl);have S:=hs A Z;have A:=hm A;have Z:=hv (r':=sR.set 17 (bB 3)) C S 17 xD (JH (k:=2) (by kernel_rfl)) (by kernel_rfl);have S:=hs A Z;have A:=hm A;have Z:=hv (r':=sR) C S 17 xD (JH (k:=3) (by kernel_rfl)) (eA 17);have A:=hc A Z;have S:=hs A (h0 (r:=sR.set 18 oZ) C 18 pD);have A:=hm A;have Z:=hv (r':=sR.set 18 (zB 0)) C S 18 pD (PP (k:=0) (.inl rfl)) (by kernel_rfl);have S:=hs A Z;have A:=hm A;have Z:=hv (r':=sR.set 18 (zB 1)) C S 18 pD (dI (k:=0) (by kernel_rfl)) (by kernel_rfl);have S:=hs A Z;have A:=hm A;have Z:=hv (r':=sR.set 18 (zB 2)) C S 18 pD (dI (k:=1) (by kernel_rfl)) (by kernel_rfl);have S:=hs A Z;have A:=hm A;have Z:=hv (r':=sR) C S 18 pD (dI (k:=2) (by kernel_rfl)) (eA 18);have A:=hc A Z;have A:=hc A (hv C A 19 z4 (ce (eA 18)) (eA 19));have A:=hc A (hv C A 20 mX (g7 (eA 17) (eA 19)) (eA 20));exact hl C A F Cf (be (eA 3) (eA 4) (eA 16) (eA 20))
def hk:PySem.W.Hook:=#[M4,λs=>seen (Dl (Qm 400) s.1),λ_=>due,λ_ h=>∃K:QE,K.In h/\seen K=due,λ_ _ e=>#[_,RS _,e],λ_ _ _ #[K,X,e] k=>#[K,X.keeps k,e]]
end L2.L3.K20
open PySem PySem.W PyProof.Rows
set_option maxRecDepth 100000 in
set_option maxHeartbeats 0 in
theorem PySem.Challenge.cw_quoteweave_k20_small_holders_listed_holds : PySem.Challenge.rw_quoteweave_k20_small_holders_listed.Holds := by
 refine holds_law (by kernel_rfl) λy=>?_;refine holds_open (q:=L2.L3.K20.qv) (loose:=[]) (Xt:=λs=>xlAt L2.L3.K20.qv [] s&&recOk (RowW.records qk.row.toRowW) s) (XP:=XL L2.L3.K20.qv []) (Yf:=Hook.obs L2.L3.K20.hk) (Ya:=Hook.val L2.L3.K20.hk) (YP:=Hook.says L2.L3.K20.hk) (N:=1700) ?hl (Hook.of L2.L3.K20.hk) (Hook.keeps L2.L3.K20.hk) (λs e=>xl_of s (QA4.mp e).1) XL.keeps (by rfl) (by rfl) (by rfl) (λs e=>recFacts_of (QA4.mp e).2) (by rfl) (by first|assumption|decide +kernel) (by decide +kernel) ⟨rfl,rfl,rfl,rfl,rfl,by decide +kernel⟩ ?hw ?hc
 case hl=>intro w;kernel_rfl
 case hw=>w_witness2
 case hc=>exact L2.L3.walk_seen (l:=qk) (k:=31) (x:="_law_script") (Fs:=λK=>L2.L3.K20.seen K=L2.L3.K20.due) rfl rfl ⟨rfl,by decide,by decide⟩ (λw h Y=>Y) λw z u h K X e G m=>L2.L3.K20.all (L2.L3.K20.cx_of X G e (by kernel_rfl)) m
