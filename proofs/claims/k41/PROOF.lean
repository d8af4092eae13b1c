import PyProof.Rows.All
import Wide.All
import OpenK.AllK
import Wide.FinOn
import Lean
import PyProof.EqAt
import PyProof.EqKinds
import PyProof.TupleCall
import PySem.Challenge.RW_quoteweave_k41_wordings
noncomputable section
set_option Elab.async false
set_option linter.all false
set_option compiler.extract_closed false
set_option bootstrap.genMatcherCode false
set_option genInjectivity false
set_option genSizeOf false
set_option maxRecDepth 100000
set_option maxHeartbeats 4000000
open PySem.W renaming Frag->QA,kia_one->qN,fnOf->qk,nsIn->q0,keepIn->wW,mg_of->WD,codeIn->Wm,WData->QAA,codeHd_of_K->QAM,mg_none_of->QAX,methodObj->QAn,kitx_list->QAo,codeHdIn->QA8,cellsFrom_some->QBC,instObj->QBL,lookIn->QBj,kitOne->QBk,tabObj->QBn,kitx_tuple->QB6,kitx_dict->QCI,plainGet->QCb
open PySem.PyData renaming str->j0,int->j1
open PySem.Value renaming none->j2,ref->kx
open PySem renaming wpAny_bind->QC,wpAny_pure->QK,wpAny_newObj_type->Q2,sizeLine_eq->qB,wpAny_loadPart'->qJ,wpAny_call_entry->qO,mem_of_lookup->qR,wpAny_callSpecial?_slot->qU,wpAny_holding->qh,Spec->qt,wpAny_typeNameOfWhole_itemiter->wB,wpAny_mono->wC,wpAny_Call_Name_kw->wE,wpAny_typeNameOfWhole_keyiter->wG,wpAny_dictEntries->wI,wpAny_setField_rec->wV,wpAny_field->wY,wpAny_truthy_bool->we,wpAny_passesOwn->wf,wpAny_dictEpoch->w9,wpAny_isOneOf_itemiter->Wg,wpAny_notOrdered_dict->Wo,wpAny_isInstance->Wt,wpAny_attempt->W9,wpAny_execs_nil->QAC,codeAny_builtin->QAE,wpAny_seqItems->QAc,wpAny_setField->QAg,wpAny_fieldsOf->QAh,wpAny_pyIter_list->QAq,seqIndex_of->QA0,wpAny_Call_method0_late->QA1,plainId_quiet->QA2,wpAny_newList->QA3,wpAny_eqBool_int->QBA,wpAny_specialOf->QBK,wpAny_typeOf->QBN,wpAny_isOneOf_keyiter->QBR,builtinLookup_eq_fast->QBS,wpAny_Name->QBX,call_meets->QBY,wpAny_loadName_local->QBb,wpAny_newFunctionEnv->QBc,wpAny_pyIter_revIter->QBf,wpAny_newTuple->QBm,wpAny_loadName_free->QBo,wpAny_Tuple_spliced->QBp,evalArgs_none->QBq,wpAny_setItem_pairs->QBr,wpAny_Constant_int->QB4,wpAny_standAt->QB5,wpAny_handled->QB9,wpAny_pyIter_tuple->QCA,call_reversed_list->QCB,wpAny_assign_Name->QCG,slot_list_getitem->QCK,wpAny_rule->QCM,wpAny_pyIter_slot->QCN,wpAny_pyIter_enum->QCR,codeAny_mono->QCV,seqIndex_neg->QCW,wpAny_pyHash_str->QCZ,wpAny_execs_cons->QCa,wpAny_of_eq->QCk,wpAny_throw->QCl,wpAny_letGo->QCm,storedH_new->QCn,typeIs_str->QCu,Str->QCv
open List renaming length_map->QD,mem_cons_of_mem->QE,mem_cons_self->QF,length_append->QI,mem_singleton->QJ,mem_cons->QL,map_append->QM,size_toArray->QN,length_cons->QO,map_cons->QS,getElem?_map->QX,mem_append_right->QY,mem_map->QZ,map_map->Qb,mem_filter->Qc,getElem?_eq_getElem->Qf,getElem?_eq_some_iff->Qg,mem_append->Qh,nil_append->Qi,range->Qj,nodup_cons->Qk,mem_append_left->Qm,contains_iff_mem->Qq,isEmpty_iff->Qu,length_range->Qw,getElem?_append_right->Qx,append_nil->Qy,getElem?_eq_none->Q0,append_assoc->Q1,toArray->Q3,nodup_nil->Q7,all_eq_true->qA,length_filter_le->qG,filter_sublist->qH,length_take->qI,mem_range->qK,length_singleton->qL,getElem?_append_left->qP,length->qQ,getElem?_set_ne->qV,mem_of_getElem?->qW,getElem?_set_self->qX,lookup_cons->qa,all_cons->qi,ext_getElem?->qu,nodup_append->qy,length_replicate->wA,getElem?_set->wJ,filterMap_cons->wK,length_set->wL,length_reverse->wM,find?_cons->wN,getElem?_range->wO,map_congr_left->wP,map_nil->wT,length_dropLast->wb,length_nil->wc,reverse_cons->wk,getElem?_cons_succ->wq,getElem?_replicate->wt,any_eq_true->wx,lookup->w6,any_cons->WC,map_snd_zip->WK,getElem_mem->WL,not_mem_nil->WM,filter_cons->WN,mem_flatMap->WO,mem_filterMap->WV,set->Wb,map_inj_right->Wc,drop_eq_nil_of_le->Wh,map_inj_left->Wl,mem_iff_getElem?->Wr,length_drop->Wu,map_fst_zip->Wx,map_reverse->W0,getElem?_modify->W4,forIn_cons->QAB,not_lt->QAI,foldl_cons->QAK,getD_eq_getElem?_getD->QAQ,zip_cons_cons->QAW,length_zipIdx->QAY,replicate->QAd,drop_eq_getElem_cons->QAi,pairwise_iff_getElem->QAk,getLast?_eq_getElem?->QAm,pairwise_map->QAr,length_erase_of_mem->QAs,flatMap_cons->QAt,foldl_append->QAu,getElem?_cons_zero->QAy,cons_append->QA7,length_pos_of_mem->QBG,length_eq_one_iff->QBH,modify_succ_cons->QBI,modify_zero_cons->QBJ,of_mem_zip->QBM,any_map->QBU,mem_zipIdx->QBW,getElem?_zipIdx->QBg,mem_erase_of_ne->QBh,forIn_nil->QBl,mem_map_of_mem->QBu,mergeSort_perm->QBw,set_cons_zero->QBx,set_cons_succ->QBy,Perm->QCC,map_filterMap->QCF,any_eq_false->QCH,mapM_toArray->QCO,getElem?_inj->QCQ,nodup_range->QCg,mem_reverse->QCh,map_id->QCq,getD->QCw
open Bool renaming false_ne_true->QG,and_eq_true->Qa,false_eq_true->Qv,eq_iff_iff->Qz,not_eq_true'->qE,or_eq_true->wn,not_false->WF,true_and->WS,and_eq_true_iff->W6,not_true->W7,false_and->QAa,false_or->QAz,and_false->QBi,and_true->QBz,or_false->QB0,or_true->QCT,true_or->QCU
open PySem.Heap renaming get?_push_of_some->QH,get?_push_size->QR,lt_size->QW,SameBut->qe,get?_update_self->wU,size_push->WH,get?_update_other->We,ExtBut->QAD,get?_push_cases->QBe,size_update->QCf,IsList->QCj
open Nat renaming le_refl->QT,le_trans->QU,ne_of_lt->Qo,lt_of_lt_of_le->Qs,zero_le->Qt,lt_irrefl->qT,le_succ->qd,lt_of_succ_lt_succ->wQ,ne_of_gt->wy,le_of_eq->w4,min_le_right->WI,zero_add->WP,lt_of_le_of_lt->WT,lt_succ_of_lt->Wi,succ_le_succ->Wv,le_of_lt->QAT,lt_trans->QAV,le_add_right->QBB,lt_or_ge->QBO,sub_self->QBV,lt_succ_self->QCY,le_of_not_lt->QCd,not_lt_zero->QCp,blt->QCt
open PySem.Str renaming ofString->QV
open False renaming elim->Qd
open PySem.PyData renaming eqv->Ql,strOk->ql,canLayAll0->qz,depthAll->wm,canLay0->QAf,depth->QBP,noConfusion->QB8
open Option.some renaming inj->Qn,injEq->Qr
open Array renaming length_toList->Qp,perm_iff_toList_perm->Q4,getElem?_toList->wz,toList_inj->WJ,getD_eq_getD_getElem?->QAH,getElem?_eq_some_iff->QAS,getElem?_eq_getElem->QAj,getElem?_eq_none->QBE,getD->QBZ,forIn_toList->QB1
open Option renaming map_some->Q5,map_none->qj,getD_some->Ww,toList_none->QAZ,isNone_iff_eq_none->QAl,isSome_map->QAp,getD_none->QCc
open PySem.Paired renaming length->Q6
open PySem.Obj renaming mapSeq->Q8,data_mapFields->WX,isFreed_of_fields->QBQ,data_mapDictKeys->QBd,cls_mapFields->QCL
open PySem.Challenge renaming pw_quoteweave_k41_wordings->Q9,rw_quoteweave_k41_wordings->qM
open Ne renaming symm->qC
open PySem.Heap.SameBut renaming update->qD
open PySem.Builtin.Str renaming occurrences->qF
open PyProof.Rows renaming callWith_type1->qS,subscriptTail_builtinR->qr,slot_tuple_getitem->wg,listUpdate_at->WY,get?_update_seq->QAG,boot_reversed->QAR,slot_tuple_getitem->QAU,sortedAll_old->QA5,sortedAll_at->QBT,seqEpoch_at->QBs,lt_int->QBt,getItem_tuple->QB7,Subscript_->QCJ,listItems_at->QCX
open LawfulBEq renaming eq_of_beq->qY
open PySem.Builtin.SmallTypes renaming nextOf->qZ
open PySem.F renaming slot_dict_itemiterator_next->qb,slot_dict_keyiterator_next->qg,slot_tuple_iterator_next->qm,plainAttrs_list->wu,args_tuple_iterator_next_1->WR,entry_tuple_iterator_next->WW,args_dict_itemiterator_next_1->Wj,entry_dict_itemiterator_next->Wn,args_dict_keyiterator_next_1->Wq,entry_dict_keyiterator_next->Wz,slot_dict_getitem->QAe,plainAttrs_dict->QA6,slot_dict_items_iter->QBD,plain_list_iadd->QCS,slot_dict_iter->QCe
open Int renaming toNat_natCast->qf,lt_irrefl->ww,le_trans->Ws,emod_eq_of_lt->QAx,natCast_nonneg->QCD,lt_of_le_of_lt->QCE,le_refl->QCr,toNat->QCs
open Prod renaming fst->qp,snd->QBa,ext->QCi
open PySem.SeqAt renaming EqAt->qw
open Lean.Parser.Tactic renaming tacticSeq->wH
open PySem.Calls renaming spliced_cons->wR,spliced_nil->WB,callWith_builtin->Wf,Name_function_global->QAO
open PySem.Builtin.Slice renaming slicePlaces->wX,sliceAdjust->WG,sliceApplied->QAP
open PySem.Builtin.Dict_items renaming addrOf->wZ,ownsTuple->W8
open Classical renaming byContradiction->wa
open PySem.Builtin.Tuple renaming tupleExact->wj,tupleItemsOf->QAN,tupleHashOf->QAb
open List.Pairwise renaming imp_of_mem->wo,map->Wk
open PySem.W.WData renaming weightAll->wv,weight->W5
open PySem.Txt renaming slice->w8
open PySem.Builtin.List renaming listExtendWith->WA,listTooLong->WQ,listUpdate->QA4,listItems->QBF
open PySem.Around renaming under_plainId->WE,in1_units->QA9
open PySem.Builtin.Range renaming rangeSize->WU,small->QBv
open Iff renaming rfl->WZ
open List.cons renaming injEq->Wa
open PySem.Builtin.Dict renaming showsAll->Wp
open Array.Perm renaming refl->QAF
open PySem.Builtin.Int renaming intBits->QAJ
open Prod.mk renaming inj->QAL
open List.Perm renaming eq_of_pairwise->QAv
open PySem.StrLaws renaming sliceText->QAw
open PySem.SeqAt.EqAt renaming int_str->QB2,str_int->QB3
open PyProof.Rows.SortSt renaming mk'->QCP
open StateT renaming run_pure->QCo
theorem dF{p:Prop}[Decidable p](h:¬p):decide p=false:=_root_.decide_eq_false h
theorem dT{p:Prop}[Decidable p](h:p):decide p=true:=_root_.decide_eq_true h
abbrev TB:=List (PySem.Addr×PySem.Obj)
abbrev uC:=PySem.Value -> PySem.Shared -> Prop
abbrev gB:=PySem.Addr -> Prop
abbrev NC:=List (QCv×QCv)
open Option renaming some->jr,none->kv
open Bool renaming true->kf,false->kb
open PySem renaming Value->kn,sizeLine->kt,Shared->ku,wpAny->ko,Addr->k0,model->k4,mainGlobals->k5,Program->vx,Heap->vu,compareOp->xk,Paired->xb,World->x0,starEach->x2,Around->y1,PyData->zl,sysModules->gV,bootBuiltins->gl,FuncData->gm,cLine->gp,Stmt->gi,eval->g6,Operator->g7,Scope->hZ,foldedSetIterable->hB,assignEach->hE,rawInt->hQ,firstArgMember->h7,binaryOp->h8,entryOfKey->fy,sliceBounds->fk,backTo->fv,NameKind->fb,CmpOp->fm,codeAmong->f5,letOwnedTupleGo->DC,typeNameOfWhole->dy,recursionLimit->dt,call->d3,attributeBase->bb,swapsWith->b8,bindArgs->c0,DictEntry->Er,builtinsNs->ej,IsItemIter->eH,atKey->ef,assign->ew,ReadsAll->lj,spliced->lv,Keyword->lb,relabel->ll,valueAt->ln,behindInMarks->lp,pyIter->lr,IsPart->la,closureFor->li,IntMulOk->l0,BindsTo->l4,getItem->l5,callerA->l8,eqIsQuiet->mx,TriplesOk->me,pyNext->mm,typeLookup_type->mu,codeAny->mA,bindL->mi,bindC->nj,typeLookup->nc,PlainAttrs->nL,wpAny_notIn_of->nP,newExc->nt,newTuple->ni,dictSetDefault->n7,revObj->P0,assignInOrder->py,rangeSize_one->pd,intBits_le_64->pc,evalPart_none->pL,comprehension->pR,IsItemIterOut->pu,Comprehension->p0,Arguments->p5,PassesOwn->p6,cellsFrom->p7,Const->p8,holding->RD,UnaryOp->RB,storedH->Rt,IsRange->rk,HeapKind->rn,field->ri,raiseNew->ro
open Pure renaming pure->sn
open PyProof.Rows renaming seqObj->tj,StrsAre->tv,SortKind->th,AllBare->tt,envOfC->ti,subscriptTail->t3,IntsAre->u0,keyKind'->Ar,pairsOf->aj,tuples'->ax,sortedS->ak,entry_list_sort->ah,slicePart_none->ab,oneType'->ac,slot_list_sort->ai,IsTup->a8,sortedAll->a9,failedOf->ir
theorem ii.{u}{c:Prop}{d:Decidable c}(h:¬c){α:Sort u}{t e:α}:ite c t e=e:=_root_.if_neg h
theorem i0.{u}{c:Prop}{d:Decidable c}(h:c){α:Sort u}{t e:α}:ite c t e=t:=_root_.if_pos h
theorem i2{a b:Prop}(h:a)(k:¬a):b:=_root_.absurd h k
theorem i3{a b:Prop}(h:a<->b):a=b:=_root_.propext h
theorem ot{p:Prop}[Decidable p](h:decide p=true):p:=_root_.of_decide_eq_true h
theorem oa{p:Prop}[Decidable p](h:decide p=false):¬p:=_root_.of_decide_eq_false h
theorem o2{p:Prop}[Decidable p]:decide p=true<->p:=_root_.decide_eq_true_iff
theorem o9.{u,v}{α:Sort u}{β:Sort v}{a b:α}(f:α->β)(h:a=b):f a=f b:=_root_.congrArg f h
local macro_rules | `($x.$i:fieldIdx)=>if i.raw.isFieldIdx?==some 9 then `(($x).length) else Lean.Macro.throwUnsupported
set_option hygiene false in
local macro_rules
 | `(#[$xs,*])=>if xs.getElems.isEmpty then Lean.Macro.throwUnsupported else `(⟨$xs,*⟩)
 | `(())=>`(by omega)
open Lean Parser.Tactic in
def zzp:Nat->Syntax->MacroM (TSyntax `rcasesPat)
 | 0,_=>Macro.throwUnsupported
 | n+1,s=>match s with
  | `(#[$xs,*])=>do
   let a<-xs.getElems.mapM λx=>do let p<-zzp n x;`(rcasesPatLo| $p:rcasesPat)
   `(rcasesPat| ⟨$a,*⟩)
  | `(_)=>`(rcasesPat| _)
  | `($x:ident)=>`(rcasesPat| $x:ident)
  | _=>Macro.throwUnsupported
local macro_rules | `(tactic| let $p:term:=$e:term)=>do `(tactic| obtain $(<-zzp 9 p):rcasesPat:=$e)
set_option hygiene false in
local macro_rules | `(tactic| omega)=>do
 let f:=λ(s:String)=>(s.splitOn " ").toArray.map λx=>Lean.mkIdent x.toName
 let a<-(f "L2.szA L2.szB L2.szC L2.unA Nat.le_trans Nat.lt_of_le_of_lt").mapM λx=>`(wH| exact $x (by assumption) (by decide))
 let b<-(f "Nat.lt_of_lt_of_le Nat.lt_of_le_of_lt Nat.le_trans").mapM λx=>`(wH| exact $x (by assumption) (by assumption))
 let c<-(f "Nat.le_of_lt Nat.ne_of_lt Nat.ne_of_gt Nat.lt_succ_of_lt Nat.le_of_lt_succ L2.prA").mapM λx=>`(wH| exact $x (by assumption))
 let d<-(f "Nat.le_refl Nat.le_succ Nat.zero_le Nat.succ_pos").mapM λx=>`(wH| exact $x _)
 `(tactic| first|decide|assumption|exact L2.szL (by decide) $[| $a]* $[| $b]* $[| $c]* $[| $d]*|lia|omega (config:={})|(have:=PySem.sizeLine_eq;first|lia|omega (config:={})))
set_option hygiene false in
local macro_rules
 | `(%[ $xs,*|1 ])=>do
  let mut r<-`(PX.anil)
  for x in xs.getElems.reverse do r<-`(PX.acons $x $r)
  return r
 | `(%[ $xs,*|2 ])=>do
  let mut r<-`(PT.nil)
  for x in xs.getElems.reverse do r<-`(PT.seq $x $r)
  return r
def zza:="kA Ci Gi Na Fi Hi Mi Ui Ma Di La Li Xi kj Lv Ji mj xj Mv fj vb Zi sj ij Ki cj Yi Ha Nv bj VV ZV yb rj pj YV gj vj zb Eh Ga Eu Au Ih Jj cb CV DV Ni pv Ri Pa Ra Ti Ai sv Si Pi Oi Oa jA6 jBA jA7 jA9 jA8 Dv Cv jA3 jA5 jA4 jAb jAZ jAa jAw jAu jAv jAt tw jAh jBC jBB mZ Et ju jAr jAq jAp jAo jAn jAm jAl jAk jAj jAi Vv Kv Ei jAd jAc jAe Jv jj jAs Ez iO Pv L4 fi ui zi ki xi vi mk_2 yt Oh Nh Fh Dh Du Gu jAV Lu da Hh ca ga zO Gh jAJ jAX bh Ls Xs Hs jAG Gb Z5 jq Xw jAM jAN Tq jAI jAH lq dq cq oq lg si Uh OA reduceIte"
def zzb:="uH mE zF KS T.isD lockA dG lock kill UN Tg.ix cC tY dP AS isMut dX frzAt pX Zf RC.eq_1 RC.eq_2 pN.eq_1 pN.eq_2 pN.eq_3 pN.eq_4 i8 e8 t8 XH.eq_1 List.modify_succ_cons List.modify_zero_cons Option.map_some List.length_cons List.length_nil List.getElem?_cons_zero List.getElem?_cons_succ List.cons_append List.nil_append List.set_cons_zero List.set_cons_succ Nat.reduceAdd Nat.reduceSub Nat.zero_add Bool.and_true Bool.true_and Bool.not_true Bool.not_false Bool.or_true Bool.true_or Bool.or_false Bool.false_or Bool.and_false Bool.false_and if_true if_false Bool.false_eq_true true_and and_true false_implies ne_eq reduceCtorEq not_false_eq_true not_true_eq_false implies_true forall_const Int.reduceLT Int.reduceLE Int.reducePow Int.reduceNeg Nat.reducePow and_self eq_self Option.some.injEq Sl.own.injEq Sl.bor.injEq and_assoc decide_true decide_false"
set_option hygiene false in
local macro_rules | `(tactic| simp! [$ls,*])=>do
 let a<-(zza.splitOn " ").toArray.mapM λx=>`(Lean.Parser.Tactic.simpLemma| ↓ $(Lean.mkIdent x.toName):ident)
 let b<-(zzb.splitOn " ").toArray.mapM λx=>`(Lean.Parser.Tactic.simpLemma| $(Lean.mkIdent x.toName):ident)
 `(tactic| simp only [$ls,*,$a,*,$b,*])
set_option hygiene false in
local macro_rules | `(tactic| simp_arith! [$ls,*])=>do
 let a<-(zza.splitOn " ").toArray.mapM λx=>`(Lean.Parser.Tactic.simpLemma| ↓ $(Lean.mkIdent x.toName):ident)
 let b<-(zzb.splitOn " ").toArray.mapM λx=>`(Lean.Parser.Tactic.simpLemma| $(Lean.mkIdent x.toName):ident)
 `(tactic| simp -implicitDefEqProofs only [$ls,*,$a,*,$b,*])
abbrev LS:=List QCv
abbrev LN:=List Nat
abbrev LJ:=List Int
abbrev LW:=List PySem.Value
namespace L2.L3.Q
open PySem PySem.W PySem.Spec PyProof.Rows
noncomputable def fw(x:List k0)(h:vu):QA:=x.filterMap λa=>(h.get? a).map λo=>(a,o)
noncomputable abbrev aw:=(Str×Str×p5×FuncBody×hZ)×(k0×List (Str×k0)×kn×k0)×Bool
noncomputable def Np(h:gm)(b:Bool):aw:=((h.name,h.qualname,h.params,h.body,h.scope),(h.globals,h.closure,h.defaults,h.builtins),b)
def sX(K:QA)(x:Str):Option aw:=match q0 K k5 x with
 |some (jr (.ref f))=>(match K.lookup f with
  |some #[_,_,.func fd,_]=>jr (Np fd (Wm K fd.code x&&wW K (.ref f)))|_=>kv)
 |_=>kv
def CU(x:Str)(st:gi):Option aw:=match st with
 | .FunctionDef _ a b _ _ _ sc _ _ _=>jr (Np (qk x x a b sc .none .none .none .none kv .none .none) kf)|_=>kv
def Fq:kn->Option Str
 | .str z _=>jr z|_=>kv
noncomputable def Nj(K:QA)(x:Str):Option (List (Option Str)):=match q0 K k5 x with
 |some (jr (.ref f))=>(match K.lookup f with
  |some #[.type t,_,.seq its _,_]=>if t="tuple" then jr (its.toList.map Fq) else kv|_=>kv)
 |_=>kv
def oy:kn->Option Int
 | .int i _=>jr i|_=>kv
noncomputable def Gj(K:QA)(x:Str):Option Int:=match q0 K k5 x with
 |some (jr u)=>oy u|_=>kv
noncomputable def HW(K:QA)(x:Str):Bool:=match q0 K k5 x with
 |some kv=>kf|_=>kb
noncomputable def lG(K:QA)(T:k0):Bool:=(match q0 K k5 "going_order" with
 |some (jr (.ref f))=>(match K.lookup f with
  |some #[_,_,.func fd,_]=>(match fd.code with
   | .ref c=>QA8 K c T|_=>kb)
  |_=>kb)
 |_=>kb)&&((match q0 K k5 "__builtins__" with
 |some (jr (.ref b))=>(match K.lookup b with
  |some #[.type t,jr d,.plain,_]=>t == "module" && (d==ej&&(b != ej&&(b != k5&&b != T)))|_=>kb)
 |_=>kb)&&((K.lookup T).isNone&&k5 != T))
def top(i:Nat):Stmt:=Q9.main.body.getD i (.Pass #[0,0,0,0])
noncomputable def fT:List (Str×Nat):=([("_law_mixed",40),("_law_cell_at",39),("_law_letters",41),("_law_spelt",42),("_law_words",43),("_law_person",44),("_law_folded",48),("_law_quote",46),("_law_event",47),("_law_against",45),("_law_world",49),("going_order",16),("has_against",21),("rank_of",19),("floor_of",20),("is_taken",18),("seen_among",23),("wrong_among",22),("live_among",24),("edges_of",27),("seers_of",26),("add_way",6),("add_name",5),("rooms_of",4),("points_reached",7),("lay_chain",8),("name_behind",10),("chain_from",9),("full_names",11),("apart_chains",3),("told_through",14),("ground_alone",13),("needs_of",29),("holders_in",28),("held_among",25),("gone",17),("_law_last",51),("_law_pairs",52),("_law_due",53),("live_in",33),("tellers_in",36),("past_in",32),("wordings_in",37),("last_moment",31),("wordings_of",35),("_law_alike",50),("law",54)]:List (String×Nat)).map λp=>(QV p.1,p.2)
def tT:List (Str×LS):=[("BEGIN",["","begin"])]
def sT:List (Str×Int):=[("WIDE",2)]
noncomputable def nT:LS:=(["any","bool","enumerate","int","isinstance","len","list","min","range","reversed","sorted","str","tuple"]:List String).map QV
noncomputable def qv:Program:={ Q9 with main:={ Q9.main with body:=[1,2,3,4,5,6,7,8,9,10,11,13,14,16,17,18,19,20,21,22,23,24,25,26,27,28,29,31,32,33,35,36,37,39,40,41,42,43,44,45,46,47,48,49,50,51,52,53,54].map top } }
def tA:Addr:=84
noncomputable abbrev d0:=List (Option aw)×List (Option (List (Option Str)))×List (Option Int)×List Bool×Bool
def seen(K:Frag):d0:=(fT.map λp=>sX K p.1,tT.map λp=>Nj K p.1,sT.map λp=>Gj K p.1,nT.map (HW K),lG K tA)
def due:d0:=(fT.map λp=>CU p.1 (top p.2),tT.map λp=>jr (p.2.map jr),sT.map λp=>jr p.2,nT.map λ_=>kf,kf)
def fr(s:ku):Frag:=fw ((Qj 320).filter λa=>a != tA) s.1
def xt(s:ku):Bool:=xlAt qv [] s&&recOk (RowW.records qM.row.toRowW) s
def ob(s:ku):d0×Option Obj:=(seen (fr s),s.1.get? tA)
theorem lf:LeftO Q9 qv [] xt ob (λ_=>(due,jr (tabObj #[]))) 3076:=by intro w;kernel_rfl
theorem ws:qM.wellSaid=true:=by kernel_rfl
end L2.L3.Q
namespace L2
open PySem PySem.Spec PyProof.Rows
section
variable{n m:Nat}
theorem szL(h:n<=16777216):n<=sizeLine:=by rw[qB];exact h
theorem jBK(h:n<16777216):n<sizeLine:=by rw[qB];exact h
theorem jBL(h:n<=m)(k:m<=16777216):n<=sizeLine:=szL (QU h k)
theorem jBZ(h:n<=m)(k:m<16777216):n<sizeLine:=jBK (WT h k)
theorem jBY(h:n<=m)(k:m<=16777216):0+n<=sizeLine:=by rw[WP];exact jBL h k
theorem jBX{k c:Nat}(h:n+k<c)(l:m<=k):n+m<c:=WT (Nat.add_le_add_left l n) h
theorem jBa(h:m<n):n - 1<n:=by cases n with|zero=>exact(nomatch h)|succ n=>exact QCY n
end
open PySem.SeqAt
inductive NK where
 |s (x:Str)|t (xs:List NK)
noncomputable instance:DecidableEq NK:=λ_ _=>Classical.propDecidable _
mutual
def m5(h:vu):NK->kn->Prop
 | .s x,v=>∃t,v=.str x t|.t ks,v=>∃a y,v=.ref a/\h.IsTuple a y/\NKvs h ks y.toList
def NKvs(h:vu):List NK->LW->Prop
 |[],vs=>vs=[]|k::ks,vs=>∃v r,vs=v::r/\m5 h k v/\NKvs h ks r
end
mutual
def d8:NK->Nat
 | .s _=>0|.t h=>nkds h+1
def nkds:List NK->Nat
 |[]=>0|k::ks=>max (d8 k) (nkds ks)
end
mutual
def zy(w:x0):NK->Int
 | .s x=>hashStr w x|.t h=>reduceHash (QAb (nkhs w h))
def nkhs(w:x0):List NK->LJ
 |[]=>[]|k::ks=>zy w k::nkhs w ks
end
mutual
def Xp:NK->Nat
 | .s _=>1|.t h=>nkts h+1
def nkts:List NK->Nat
 |[]=>0|k::ks=>Xp k+nkts ks
end
theorem iY{h:vu}{a:k0}{xs x:Array kn}(p:h.IsTuple a xs)(q:h.IsTuple a x):xs=x:=by let#[o,e,_,n,d]:=p;let#[u,y,_,v,z]:=q;cases e.symm.trans y;cases d.symm.trans z;rfl
mutual
theorem f8{h:vu}:∀{k l:NK}{v:kn},m5 h k v->m5 h l v->k=l
 | .s x,.s y,v,#[t,e],#[u,e']=>by subst e;cases e';rfl|.s x,.t ls,v,#[t,e],#[_,_,e',_]=>by subst e;cases e'|.t ks,.s y,v,#[_,_,e,_],#[_,e']=>by subst e;cases e'|.t ks,.t ls,v,#[a,its,e,p,q],#[b,jts,e',p',q']=>by subst e;cases e';cases iY p p';rw[nks_inj q q']
theorem nks_inj{h:vu}:∀{ks ls:List NK}{vs:LW},NKvs h ks vs->NKvs h ls vs->ks=ls
 |[],[],_,_,_=>rfl|[],_::_,_,e,#[_,_,e',_]=>by cases(show _=[] from e).symm.trans e'|_::_,[],_,#[_,_,e',_],e=>by cases(show _=[] from e).symm.trans e'|k::ks,l::ls,_,#[v,r,e,p,q],#[v',r',e',p',q']=>by cases e.symm.trans e';rw[f8 p p',nks_inj q q']
end
mutual
theorem jU{h h':vu}(k:∀a its,h.IsTuple a its->h'.IsTuple a its):∀{x:NK}{v:kn},m5 h x v->m5 h' x v
 | .s x,v,e=>e|.t ks,v,#[a,its,e,p,q]=>#[a,its,e,k a its p,nks_keeps k q]
theorem nks_keeps{h h':vu}(k:∀a its,h.IsTuple a its->h'.IsTuple a its):∀{xs:List NK}{vs:LW},NKvs h xs vs->NKvs h' xs vs
 |[],_,e=>e|x::xs,_,#[v,r,e,p,q]=>#[v,r,e,jU k p,nks_keeps k q]
end
section
variable{prog:vx}{w:x0}{E:uC}
mutual
theorem lZ:∀(k:NK) (v:kn) (A:y1) (s:ku) (Q:Int->ku->Prop),m5 s.1 k v->A.units+d8 k<gp->Q (zy w k) { s with toks:=s.toks+Xp k }->ko (k4 prog w) A (pyHash v) Q E s
 | .s x,v,A,s,Q,#[t,e],_,q=>by subst e;exact QCZ q|.t ks,v,A,s,Q,#[a,its,e,#[o,ho,hc,n,hd],hi],h,q=>by subst e;have h:A.units+(nkds ks+1)<cLine:=h;refine PySem.W.pyHash_slot (T:="tuple") #[o,ho,hc] F.slot_tuple_hash F.entry_tuple_hash (F.args_tuple_hash_1 _) (beq_builtin_none _) (.inr ()) ?_;show ko _ _ (QAN (.ref a) >>= _) _ _ s;refine QC (wpAny_tupleItemsOf ho hd ?_);refine QC ?_;rw[<- QB1];refine nk_loop ks its.toList A.in1 s #[] _ hi (by rw[QA9];omega) λb hb=>?_;show ko _ _ (retInt (QAb b.toList)) _ _ _;rw[hb];exact QC (wpAny_mkInt (QK #[_,_,rfl,by rw[Nat.add_assoc];exact q]))
theorem nk_loop:∀(ks:List NK) (vs:LW) (A:y1) (s:ku) (b:Array Int) (Q:Array Int->ku->Prop),NKvs s.1 ks vs->A.units+nkds ks<gp ->
  (∀y,y.toList=b.toList++nkhs w ks->Q y { s with toks:=s.toks+nkts ks }) ->
  ko (k4 prog w) A (forIn vs b λx r=>do let h <- pyHash x;sn PUnit.unit;sn (ForInStep.yield (r.push h))) Q E s
 |[],vs,A,s,b,Q,e,_,q=>by subst e;exact QK (q b (Qy _).symm)|k::ks,vs,A,s,b,Q,#[v,r,e,p,p'],z,q=>by subst e;have z:A.units+max (d8 k) (nkds ks)<cLine:=z;rw[QAB];refine QC (QC (lZ k v A s _ p () ?_));refine QC (QK (QK ?_));refine nk_loop ks r A _ _ Q p' () λy hb=>?_;have e:s.toks+Xp k+nkts ks=s.toks+(Xp k+nkts ks):=Nat.add_assoc _ _ _;have:=q y (by rw[hb,Array.toList_push,Q1];rfl);show Q y { s with toks:=s.toks+Xp k+nkts ks };rw[e];exact this
end
end
theorem So{ks ls:List NK}{n m:Nat}(x:n=ks.9)(hm:m=ls.9):((Qj (min n m)).all (λj=>decide (ks[j]?=ls[j]?))&&n==m)=decide (NK.t ks=NK.t ls):=by subst x hm;rw[Qz,o2,Qa,qA,beq_iff_eq];constructor;rintro⟨y,u⟩;congr 1;refine qu λj=>?_;by_cases z:j<ks.9;exact ot (y j (qK.mpr ()));rw[Q0 (),Q0 ()];intro h;injection h with h;subst h;exact#[λ_ _=>dT rfl,rfl]
theorem iR{h:vu}:∀{ks:List NK}{vs:LW},NKvs h ks vs->vs.9=ks.9
 |[],_,e=>by cases(show _=[] from e);rfl|_::_,_,#[v,r,e,_,q]=>by rw[e,QO,QO,iR q]
mutual
theorem kh:∀(k l:NK) (v u:kn) (A:y1) (s:ku),m5 s.1 k v->m5 s.1 l u->A.units+d8 k<gp->EqAt A s v u (decide (k=l))
 | .s x,.s y,v,u,A,s,#[t,e],#[t',e'],_=>by
  subst e e';have:=EqAt.str_str (A:=A) (s:=s) x t y t';have z:(x==y)=decide (NK.s x=NK.s y):=by rw[Qz,o2,beq_iff_eq];exact#[λh=>h▸rfl,λh=>by injection h]
  rw[<- z];exact this
 | .s x,.t ls,v,u,A,s,#[t,e],#[b,jts,e',p,_],f=>by subst e e';rw[dF λh=>by cases h];exact EqAt.str_tuple x t p ()|.t ks,.s y,v,u,A,s,#[a,its,e,p,_],#[t,e'],f=>by subst e e';rw[dF λh=>by cases h];exact EqAt.tuple_str y t p ()|.t ks,.t ls,v,u,A,s,#[a,its,e,p,q],#[b,jts,e',p',q'],f=>by subst e e';by_cases w:a=b;subst w;cases iY p p';rw[nks_inj q q',dT rfl];exact EqAt.same _;have f:A.units+(nkds ks+1)<cLine:=f;refine EqAt.of_refs w ?_;have i:=iR q;have g:=iR q';rw[Qp]at i g;rw[<- So i g];refine RcAt.tuples p p' () λj n m=>?_;have:=nks_eq ks ls its.toList jts.toList A.in1 s q q' (by rw[QA9];omega) j (by rw[Qp];exact n) (by rw[Qp];exact m);simpa using this
theorem nks_eq:∀(ks ls:List NK) (vs us:LW) (A:y1) (s:ku),NKvs s.1 ks vs->NKvs s.1 ls us->A.units+nkds ks<gp->∀j (y:j<vs.9) (x:j<us.9),EqAt A s vs[j] us[j] (decide (ks[j]?=ls[j]?))
 |[],_,vs,us,A,s,e,_,_,j,y,_=>by cases(show vs=[] from e);cases y|_::_,[],vs,us,A,s,_,e,_,j,_,x=>by cases(show us=[] from e);cases x|k::ks,l::ls,_,_,A,s,#[v,r,e,p,q],#[v',r',e',p',q'],u,j,y,x=>by
  subst e e';have u:A.units+max (d8 k) (nkds ks)<cLine:=u;cases j with|zero=>have:=kh k l v v' A s p p' ();have z:decide (k=l)=decide ((k::ks)[0]?=(l::ls)[0]?):=decide_eq_decide.mpr #[λh=>by rw[h];rfl,λh=>Qn h];rw[<- z];exact this|succ j=>exact nks_eq ks ls r r' A s q q' () j (wQ y) (wQ x)
end
section
variable{prog:vx}{w:x0}{A:y1}{E:uC}{s:ku}
mutual
theorem IT:∀(k:NK) (v:kn) (n:Nat) (Q:Bool->ku->Prop),m5 s.1 k v->d8 k<=n->Q kf s->ko (k4 prog w) A (mx n v) Q E s
 | .s x,v,n,Q,#[t,e],_,q=>by subst e;rw[eqIsQuiet_byValue _ rfl];exact QK q|.t ks,v,n,Q,#[a,its,e,#[o,ho,hc,m,hd],hi],g,q=>by
  subst e;have g:nkds ks+1<=n:=g;obtain⟨n,rfl⟩:∃m,n=m+1:=#[n - 1,()]
  have i:s.TypeIs (.ref a) "tuple":=#[o,ho,hc]
  unfold mx;refine QC (QBK i F.slot_tuple_eq.lookup ?_);show ko _ _ (isInstance (.ref a) (.type "tuple") >>= _) _ _ s;refine QC (Wt i isSubtype_tuple_tuple ?_);simp only[W7,Qv,if_false];refine QC (QAc ho hd ?_);refine QC ?_;show ko _ _ (forIn its _ _) _ _ s;rw[<- QB1];refine wpAny_forIn_list _ (λh r z=>r.1=kv/\z=s/\∀v∈h,∀Q:Bool->ku->Prop,Q kf s->ko (k4 prog w) A (mx n v) Q E s) _ ?_ ?_ _ _ #[rfl,rfl,nks_quiet ks its.toList n hi ()];rintro v h r z ⟨f,rfl,y⟩;refine QC (y v QF _ ?_);simp only[W7,Qv,if_false];exact QK #[rfl,rfl,λu b=>y u (QE _ b)];rintro⟨j,l⟩ z ⟨f,rfl,_⟩;cases(show j=kv from f);exact QK q
theorem nks_quiet:∀(ks:List NK) (vs:LW) (n:Nat),NKvs s.1 ks vs->nkds ks<=n->∀v∈vs,∀Q:Bool->ku->Prop,Q kf s->ko (k4 prog w) A (mx n v) Q E s
 |[],vs,n,e,_,v,hv,Q,q=>by cases(show vs=[] from e);cases hv|k::ks,vs,n,#[x,r,e,p,p'],h,v,hv,Q,q=>by subst e;have h:max (d8 k) (nkds ks)<=n:=h;rcases QL.mp hv with rfl|hv;exact IT k v n Q p () q;exact nks_quiet ks r n p' () v hv Q q
end
end
section
variable{H:Hp}{a b:k0}{o:HO}
def bF(prog:vx)(w:x0):rn prog w NK where
 is:=λh k a=>m5 h k (.ref a)/\d8 k<=6
 hash:=zy w
 draws:=Xp
 room:=λA=>A.units+8<gp
 inj:=λy u=>f8 y.1 u.1
 keeps:=λ{h l k a d o m p} x i j hs=>#[jU (λb f #[ob,e,c,n,v]=>#[ob,(hs.2 b λz=>by subst z;cases e.symm.trans i;cases j.symm.trans v).trans e,c,n,v]) x.1,x.2]
 pyHash:=λg hk h=>lZ _ _ _ _ _ hk.1 (by have:=hk.2;omega) h
 eqBool:=λg y u h=>kh _ _ _ _ _ _ y.1 u.1 (by have:=y.2;omega) _ _ _ _ h
 quiet:=λhk h=>IT _ _ _ _ hk.1 (by have:=hk.2;omega) h
noncomputable abbrev Key:=Sum Int Str
noncomputable def GP:Key->kn->Bool
 | .inl k,v=>Value.isInt k v|.inr x,v=>Value.isStrOf x v
noncomputable def ny(w:x0):Key->Int
 | .inl k=>hashInt k|.inr x=>hashStr w x
theorem EA:∀{k:Key}{v:kn},GP k v=kf->(∃i t,k=Sum.inl i/\v=Value.int i t)∨(∃x t,k=Sum.inr x/\v=Value.str x t)
 | .inl i,v,h=>by let#[t,e]:=Value.isInt_shape (k:=i) (v:=v) h;exact .inl #[i,t,rfl,e]|.inr x,v,h=>by let#[t,e]:=Value.isStrOf_shape (x:=x) (v:=v) h;exact .inr #[x,t,rfl,e]
theorem E3(i:Int)(t:Tok):GP (.inl i) (.int i t)=true:=by simp[GP,Value.isInt]
theorem A3(x:Str)(t:Tok):GP (.inr x) (.str x t)=true:=by simp[GP,Value.isStrOf]
theorem cn(a b:Int):decide ((Sum.inl a:Key)=Sum.inl b)=(a==b):=by by_cases e:a=b;subst e;simp;have h:¬ (Sum.inl a:Key)=Sum.inl b:=λq=>e (Sum.inl.inj q);rw[dF h];exact(beq_eq_false_iff_ne.mpr e).symm
theorem vn(a b:Str):decide ((Sum.inr a:Key)=Sum.inr b)=decide (a=b):=by by_cases e:a=b;subst e;simp;have h:¬ (Sum.inr a:Key)=Sum.inr b:=λq=>e (Sum.inr.inj q);rw[dF h,dF e]
theorem bn(a:Int)(b:Str):decide ((Sum.inl a:Key)=Sum.inr b)=false:=dF (λq=>nomatch q)
theorem xn(a:Str)(b:Int):decide ((Sum.inr a:Key)=Sum.inl b)=false:=dF (λq=>nomatch q)
def TD(prog:vx)(w:x0):PySem.KeyKind prog w Key where
 is:=GP
 hash:=ny w
 inj:=λv a b f hb=>by
  rcases EA f with⟨i,t,rfl,rfl⟩| ⟨x,t,rfl,rfl⟩
  rcases EA hb with⟨j,u,rfl,e⟩| ⟨y,u,rfl,e⟩
  ·injection e with e1 _;rw[e1]
  exact nomatch e;rcases EA hb with⟨j,u,rfl,e⟩| ⟨y,u,rfl,e⟩
  ·exact nomatch e
  injection e with e1 _;rw[e1]
 byValue:=λk v h=>by rcases EA h with⟨i,t,rfl,rfl⟩| ⟨x,t,rfl,rfl⟩<;>rfl
 pyHash:=λhv h=>by
  rcases EA hv with⟨i,t,rfl,rfl⟩| ⟨x,t,rfl,rfl⟩
  exact wpAny_pyHash_int h;exact QCZ h
 eqBool:=λz hv h=>by
  rcases EA z with⟨i,t,rfl,rfl⟩| ⟨x,t,rfl,rfl⟩
  rcases EA hv with⟨j,u,rfl,rfl⟩| ⟨y,u,rfl,rfl⟩
  ·rw[cn]at h;exact QBA h
  rw[bn]at h;exact QB2 i t y u _ _ _ _ h;rcases EA hv with⟨j,u,rfl,rfl⟩| ⟨y,u,rfl,rfl⟩
  ·rw[xn]at h;exact QB3 x t j u _ _ _ _ h
  rw[vn]at h;exact wpAny_eqBool_str h
 «strs»:=λk x t v h=>by
  rcases EA h with⟨i,u,rfl,e⟩| ⟨y,u,rfl,e⟩
  exact nomatch e;injection e with e1 _;subst e1;cases v<;>rfl
theorem uU(prog:vx)(w:x0)(i:Int)(t:Tok):(TD prog w).is (.inl i) (.int i t)=true:=E3 i t
theorem xU(prog:vx)(w:x0)(x:Str)(t:Tok):(TD prog w).is (.inr x) (.str x t)=true:=A3 x t
set_option genInjectivity true in
inductive V where
 |non|bl (b:Bool)|int (i:Int)|str (x:Str)|byt (b:Array UInt8)|flt (b:UInt64)|ref (a:k0)|ty (n:String)
 deriving DecidableEq
abbrev LV:=List V
def aA:V->kn->Prop
 | .non,u=>u=j2|.bl b,u=>u=Value.bool b|.int i,u=>∃t,u=Value.int i t|.str x,u=>∃t,u=Value.str x t|.byt b,u=>∃t,u=Value.bytes b t|.flt b,u=>∃t,u=Value.float b t|.ref a,u=>u=kx a|.ty n,u=>u=Value.type n
noncomputable abbrev lA:LV->LW->Prop:=xb aA
theorem lA.length{xs:LV}{us:LW}(r:lA xs us):xs.9=us.length:=Q6 r
theorem lA.get:∀{xs:LV}{us:LW}{i:Nat}{x:V},lA xs us->xs[i]?=jr x->∃u,us[i]?=jr u/\aA x u
 |_,_,_,_,.nil,e=>by simp at e|_,_,0,_,.cons r _,e=>by simp at e;subst e;exact#[_,rfl,r]|_,_,i+1,x,.cons _ t,e=>by let#[u,y,h]:=lA.get (i:=i) (x:=x) t (by simpa using e);exact#[u,by simpa using y,h]
theorem lA.set{x:V}{u:kn}(r:aA x u):∀{xs:LV}{us:LW}(i:Nat),lA xs us->lA (xs.set i x) (us.set i u)
 |_,_,_,.nil=>.nil|_,_,0,.cons _ t=>.cons r t|_,_,i+1,.cons q t=>.cons q (lA.set r i t)
theorem lA.append:∀{xs h:LV}{us ws:LW},lA xs us->lA h ws->lA (xs++h) (us++ws)
 |_,_,_,_,.nil,s=>s|_,_,_,_,.cons r t,s=>.cons r (lA.append t s)
theorem lA.take:∀{xs:LV}{us:LW}(n:Nat),lA xs us->lA (xs.take n) (us.take n)
 |_,_,0,_=>.nil|_,_,_+1,.nil=>.nil|_,_,n+1,.cons r t=>.cons r (lA.take n t)
theorem lA.drop:∀{xs:LV}{us:LW}(n:Nat),lA xs us->lA (xs.drop n) (us.drop n)
 |_,_,0,r=>r|_,_,_+1,.nil=>.nil|_,_,n+1,.cons _ t=>lA.drop n t
def eV:Option V->Option kn->Prop
 |some v,jr u=>aA v u|none,kv=>True|_,_=>False
def KV{κ:Type}:List (κ×V)->List (κ×kn)->Prop:=xb λ(p:κ×V) (q:κ×kn)=>p.1=q.1/\aA p.2 q.2
def kV:Key->V
 | .inl i=>.int i|.inr x=>.str x
inductive HO where
 |lst (xs:LV)
 |tup (xs:LV)
 |dK (kvs:List (Key×V))|dT (ep:Nat) (kvs:List (NK×k0×V))
 |set (S:Int->Bool) (n:Nat)
 |ins (C dx:k0) (fs:List (Str×V))
 |own (x:k0)
 |xd (fs:List (Str×V))
 |met (f x:k0)
 |rng (lo hi:Int)
 |frz (o:Obj) (u:HO)
 |tbl (q:Str)
 |ext (φ:vu->Prop)
noncomputable abbrev Hp:=k0->Option HO
noncomputable def FA(H:Hp)(a:k0)(o:HO):Hp:=λb=>if b=a then jr o else H b
theorem YA:FA H a o a=jr o:=by unfold FA;rw[i0 rfl]
theorem uA(h:b≠a):FA H a o b=H b:=by unfold FA;rw[ii h]
theorem Ab{u:HO}:FA (FA H a o) a u=FA H a u:=by funext b;unfold FA;split<;>rfl
theorem iA(h:H a=jr o)(h':H b=kv):a≠b:=by intro e;subst e;rw[h]at h';cases h'
end
section
variable(P:vx)(w:x0)
def DA(H:Hp)(h:vu)(a:k0):HO->Prop
 | .lst k=>k.9<=kt/\∃(z:LW) (n:Nat),lA k z/\h.get? a=jr { cls:=.type "list",data:=.seq z.toArray n }|.tup k=>k.9<=kt/\∃z:LW,lA k z/\a8 h a z.toArray|.dK y=>y.9<=kt/\(a==gV)=kb/\∃m,KV y m/\h.DictOf (TD P w) a m|.dT W y=>y.9<=kt/\(a==gV)=kb/\∃k:List (NK×k0×kn),
   xb (λ(p:NK×k0×V) (q:NK×k0×kn)=>p.1=q.1/\p.2.1=q.2.1/\aA p.2.2 q.2.2) y k /\
   ∃o X,h.get? a=jr o/\o.ExactDict/\o.data=.dict X W/\X.toList=k.map (fy (bF P w))/\(k.map (·.1)).Nodup
 | .set S n=>h.SetOf (intKind P w) a S n|.ins C e fs=>H e=jr (.own a)/\fs.9<=1000/\e≠a/\h.get? a=jr (QBL C e) /\
   ∃b,h.Ns1 e b/\(∀f,eV (fs.lookup f) (b f))/\PySem.Within b (fs.map (·.1))
 | .own _=>∃o,h.get? a=jr o|.xd fs=>∃b,h.Ns1 a b/\∀f,eV (fs.lookup f) (b f)|.rng Y Z=>∃t u v,h.get? a=jr { cls:=.type "range",data:=.fields (Q3 [.int Y t,.int Z u,.int 1 v]) }|.frz o u=>h.get? a=jr o/\DA H h a u|.tbl q=>∃i,h.get? a=jr { cls:=.none,data:=.fields i }/\me i.toList/\∀j l,f5 j i.toList=jr l->∃c,l=.ref c/\H c=jr (.own a)/\h.CodeRec l q|.met f x=>h.get? a=jr (QAn (.ref f) (.ref x))|.ext g=>g h/\(∃o,h.get? a=jr o)/\∀s r:vu,g s->(∀o,s.get? a=jr o->r.get? a=jr o)->g r
def mM(H:Hp)(h:vu):Prop:=∀a o,H a=jr o->DA P w H h a o
end
section
variable{P:vx}{w:x0}{H i:Hp}{h h':vu}{a:k0}{o:HO}
theorem DA.lt(x:DA P w H h a o):a<h.1.size:=by
 cases o with|lst v=>let#[_,_,_,_,e]:=x;exact QW e|tup v=>let#[_,_,_,p]:=x;exact p.lt|dK z=>let#[_,_,_,_,o,_,_,e,_]:=x;exact QW e|dT j z=>let#[_,_,_,_,o,_,e,_]:=x;exact QW e|set S n=>let#[o,_,_,_,e,_]:=x;exact QW e|ins C l fs=>let#[_,_,_,e,_]:=x;exact QW e|own y=>let#[_,e]:=x;exact QW e|xd fs=>let#[_,#[_,_,_,e,_],_]:=x;exact QW e|rng b g=>let#[_,_,_,e]:=x;exact QW e|frz ob u=>let#[e,_]:=x;exact QW e|tbl q=>let#[_,e,_]:=x;exact QW e|met f y=>exact QW (show h.get? a=jr _ from x)|ext k=>let#[_,#[_,e],_]:=x;exact QW e
theorem Paired.mapP{α z:Type}{F G:α->z->Prop}:∀{y:List α}{x:List z},xb F y x->(∀a b,F a b->G a b)->xb G y x
 |_,_,.nil,_=>.nil|_,_,.cons r t,f=>.cons (f _ _ r) (Paired.mapP t f)
theorem DA.stay(x:DA P w H h a o)(k:∀b u,(b=a∨H b=jr (.own a))->h.get? b=jr u->h'.get? b=jr u)
  (K:∀b,H b=jr (.own a)->i b=jr (.own a)) (O:∀b xs,H b=jr (.tup xs)->i b=jr (.tup xs)):DA P w i h' a o:=by
 induction o with|lst xs=>let#[z,m,n,r,e]:=x;exact#[z,m,n,r,k _ _ (.inl rfl) e]|tup xs=>let#[z,m,r,ob,e,c]:=x;exact#[z,m,r,ob,k _ _ (.inl rfl) e,c]|dK W=>let#[z,y,s,r,ob,j,l,e,c]:=x;exact#[z,y,s,r,ob,j,l,k _ _ (.inl rfl) e,c]|dT l W=>let#[z,y,xs,r,ob,j,e,c]:=x;exact#[z,y,xs,r,ob,j,k _ _ (.inl rfl) e,c]|set S n=>let#[ob,j,l,t,e,c]:=x;exact#[ob,j,l,t,k _ _ (.inl rfl) e,c]|ins C R fs=>let#[d,z,F,e,Z,#[Y,j,l,J,c],r]:=x;exact#[K _ d,z,F,k _ _ (.inl rfl) e,Z,#[Y,j,l,k _ _ (.inr d) J,c],r]|own y=>let#[ob,e]:=x;exact#[ob,k _ _ (.inl rfl) e]|xd fs=>let#[Z,#[Y,j,l,e,c],r]:=x;exact#[Z,#[Y,j,l,k _ _ (.inl rfl) e,c],r]|rng N Q=>let#[t,u,v,e]:=x;exact#[t,u,v,k _ _ (.inl rfl) e]|frz ob u G=>let#[e,q]:=x;exact#[k _ _ (.inl rfl) e,G q]|tbl q=>let#[E,e,t,f]:=x;refine#[E,k _ _ (.inl rfl) e,t,λX L g=>?_];let#[c,rfl,o,c1,ob,s,B,A,I,r]:=f X L g;cases A;exact#[c,rfl,K _ o,c,ob,s,B,rfl,k _ _ (.inr o) I,r]|met f y=>have e:h.get? a=jr (QAn (.ref f) (.ref y)):=x;show h'.get? a=jr (QAn (.ref f) (.ref y));exact k a _ (.inl rfl) e|ext M=>let#[p,#[o,e],st]:=x;exact#[st _ _ p λo q=>k _ _ (.inl rfl) q,#[o,k _ _ (.inl rfl) e],st]
theorem mM.lt(x:mM P w H h)(e:H a=jr o):a<h.1.size:=(x a o e).lt
theorem mM.fresh(x:mM P w H h)(e:h.1.size<=a):H a=none:=by
 cases q:H a with|none=>rfl|some u=>exact i2 (Qs (x.lt q) e) (qT _)
theorem mM.kept(x:mM P w H h)(k:∀b u,h.get? b=jr u->h'.get? b=jr u):mM P w H h':=λa o e =>
 (x a o e).stay (λb u _ q=>k b u q) (λ_ q=>q) λ_ _ q=>q
theorem mM.laid(x:mM P w H h)(k:∀b u,h.get? b=jr u->h'.get? b=jr u)(z:h.1.size<=a)(new:DA P w (FA H a o) h' a o):mM P w (FA H a o) h':=λb u e=>by have y:=x.fresh z;by_cases hb:b=a;subst hb;rw[YA]at e;cases e;exact new;rw[uA hb]at e;exact(x b u e).stay (λc v _ q=>k c v q) (λc q=>by rw[uA (iA q y)];exact q) λc f q=>by rw[uA (iA q y)];exact q
end
def Rd(H:Hp)(a:k0)(u:HO):Prop:=H a=jr u∨∃o,H a=jr (.frz o u)
theorem Rd.ok{P:vx}{w:x0}{H:Hp}{h:vu}{a:k0}{u:HO}(r:Rd H a u)(x:mM P w H h):DA P w H h a u:=by
 rcases r with r|⟨o,r⟩
 exact x a u r;let#[_,q]:=x a _ r;exact q
def Op:Option HO->Prop
 |some (.lst _)=>True|some (.dK _)=>True|some (.dT _ _)=>True|some (.set _ _)=>True|some (.ins _ _ _)=>True|some (.ext _)=>True|_=>False
section
variable{P:vx}{w:x0}{H:Hp}{h h':vu}{x e:k0}{a:HO}
theorem mM.write(ok:mM P w H h)(l:Op (H x))(o:e=x∨H e=jr (.own x))(k:∀b u,b≠e->h.get? b=jr u->h'.get? b=jr u)(m:∃u,h'.get? e=jr u)
  (new:DA P w (FA H x a) h' x a):mM P w (FA H x a) h':=λb u q=>by
 have g:∀c y,H c=jr (.own y)->c≠x:=λc y r z=>by subst z;rw[r]at l;exact l
 have i:∀c j,H c=jr (.tup j)->c≠x:=λc j r z=>by subst z;rw[r]at l;exact l
 by_cases hb:b=x;subst hb;rw[YA]at q;cases q;exact new;rw[uA hb]at q;by_cases f:b=e;have n:H b=jr (.own x):=by rcases o with z|z;exact i2 (f.trans z) hb;rw[f];exact z
 rw[q]at n;cases n;let#[v,hv]:=m;exact#[v,by rw[f];exact hv];refine(ok b u q).stay (λc v hc r=>k c v ?_ r) (λc r=>by rw[uA (g c b r)];exact r) λc j r=>by rw[uA (i c j r)];exact r
 rcases hc with rfl|hc;exact f;rintro rfl;rcases o with z|z;exact g c b hc z;rw[hc]at z;cases z;exact hb rfl
end
structure Un(fs ex:List k0)(H H':Hp)(h h':vu):Prop where
 keep:∀b o,h.get? b=jr o->H b=kv->b∉fs->b∉ex->h'.get? b=jr o
 slot:∀b o,h.get? b=jr o->H b=kv->b∈fs->b∉ex->∃sl,h'.get? b=jr { o with slots:=sl }
 free:∀b o,h.get? b=jr o->H b=kv->b∉ex->H' b=kv
 there:∀b o,h.get? b=jr o->b∉ex->∃o',h'.get? b=jr o'
 tups:∀b xs,H b=jr (.tup xs)->H' b=jr (.tup xs)
 frzs:∀b o u,H b=jr (.frz o u)->H' b=jr (.frz o u)
 tbls:∀b q,H b=jr (.tbl q)->H' b=jr (.tbl q)
section
variable{y w ex c:List k0}{H d g:Hp}{h v f h':vu}{a x e:k0}{o:HO}
theorem Un.any(u:Un y ex H d h v){b:k0}{ob:Obj}(q:h.get? b=jr ob)(n:H b=kv)(z:b∉ex):∃k,v.get? b=jr { ob with slots:=k }:=by by_cases hb:b∈y;exact u.slot b ob q n hb z;exact#[ob.slots,u.keep b ob q n hb z]
theorem Un.kept(k:∀b u,h.get? b=jr u->h'.get? b=jr u):Un y ex H H h h' :=
 #[λb ob q _ _ _=>k b ob q,λb ob q _ _ _=>#[ob.slots,k b ob q],λ_ _ _ n _=>n,λb ob q _=>#[ob,k b ob q],λ_ _ q=>q,λ_ _ _ q=>q,λ_ _ q=>q]
theorem Un.refl:Un y ex H H h h:=Un.kept λ_ _ q=>q
theorem Un.laid(k:∀b u,h.get? b=jr u->h'.get? b=jr u)(j:h.1.size<=a)(z:H a=kv):Un y ex H (FA H a o) h h' where
 keep:=λb u q _ _ _=>k b u q
 slot:=λb u q _ _ _=>#[u.slots,k b u q]
 free:=λb u q n _=>by rw[uA (Qo (Qs (QW q) j))];exact n
 there:=λb u q _=>#[u,k b u q]
 tups:=λb i q=>by rw[uA (iA q z)];exact q
 frzs:=λb u i q=>by rw[uA (iA q z)];exact q
 tbls:=λb l q=>by rw[uA (iA q z)];exact q
theorem Un.write(j:Op (H x))(s:e=x∨H e=jr (.own x))(k:∀b u,b≠e->h.get? b=jr u->h'.get? b=jr u)(l:∃u,h'.get? e=jr u):Un y ex H (FA H x o) h h':=by
 have m:∀b,H b=kv->b≠x:=λb n z=>by subst z;rw[n]at j;exact j
 have hb:∀b,H b=kv->b≠e:=λb n z=>by subst z;rcases s with r|r;exact m b n r;rw[n]at r;cases r
 have hm:∀b u,H b=jr u->¬ Op (jr u)->b≠x:=λb u q nm z=>by subst z;rw[q]at j;exact nm j
 refine#[λb u q n _ _=>k b u (hb b n) q,λb u q n _ _=>#[u.slots,k b u (hb b n) q],λb u q n _=>by rw[uA (m b n)];exact n,λb u q _=>?_,
  λb p q=>by rw[uA (hm b _ q λz=>z)];exact q,λb u p q=>by rw[uA (hm b _ q λz=>z)];exact q,λb X q=>by rw[uA (hm b _ q λz=>z)];exact q]
 by_cases i:b=e;subst i;exact l;exact#[u,k b u i q]
end
section
variable{h:vu}{b:k0}{o:Obj}
noncomputable def Tv(h:vu)(H:Hp):List Addr:=(Qj h.1.size).filter λa=>(H a).isSome
def yS(h:vu)(H:Hp):Heap:=PySem.W.hideAll h (Tv h H)
theorem m4(h:vu)(H:Hp):(yS h H).1.size=h.1.size:=PySem.W.hideAll_size _ _
theorem p9{H:Hp}(e:h.get? b=jr o)(n:H b=kv):(yS h H).get? b=jr o :=
 PySem.W.hideAll_get _ e λhm=>by have q:(H b).isSome=true:=(Qc.mp hm).2;rw[n]at q;simp at q
theorem ve{H:Hp}(e:(yS h H).get? b=jr o):h.get? b=jr o/\H b=none:=by
 have y:h.get? b=jr o:=PySem.W.of_hideAll (Tv h H) e;refine#[y,?_];cases q:H b with|none=>rfl|some x=>have hm:b∈Tv h H:=Qc.mpr #[qK.mpr (QW y),by simp[q]];have z:(yS h H).get? b=none:=PySem.W.hideAll_none (Tv h H) hm;rw[z]at e;cases e
structure Mod(K:QA)(mg:Str->Option kn)(base:vu):Prop where
 kin:K.In base
 glob:base.Ns k5 mg
 blt:∃mb,base.Ns ej mb/\∀x:Str,x≠"__name__"->mb x=gl x
 nolimit:base.NoLimit
structure Cx where
 prog:vx
 w:x0
 K:QA
 mg:Str->Option kn
 base:vu
 A:y1
 N:LS
 s₀:ku
 H₀:Hp
 env:Env
 outer:List Env
 stack:List Env
 ex:List k0
 fn:Str->Bool
 calm:Bool
 pn:TB
 xe:kn->ku->Prop
def CZ(l:List Env):List Addr:=l.filterMap (·.frame)
noncomputable abbrev Cx.fs(X:Cx):List Addr:=CZ X.outer
def uv(sc:hZ)(x:Str):Prop:=sc.names.lookup x=jr .local∨sc.names.lookup x=jr .cell∨sc.names.lookup x=jr .free
def Pp(sc:hZ)(x:Str):Prop:=sc.names.lookup x=jr .local∨sc.names.lookup x=jr .cell
def Tz(env:Env)(h:vu)(m:Str->Option kn)(x:Str)(u:kn):Prop :=
 (env.kindOf x=jr .local/\m x=jr u)∨((env.kindOf x=jr .cell∨env.kindOf x=jr .free)/\∃c,env.cells.lookup x=jr c/\h.IsCell c (jr u))
def uQ(mg:Str->Option kn)(x:vu)(P:k0)(q:Str):Prop :=
 ∃f o y c,mg "going_order"=jr (.ref f)/\x.get? f=jr o/\o.data=.func y/\y.code=.ref c/\PySem.W.CodeHd x c P/\q=y.qualname++".<locals>.<lambda>"
structure Cx.Ok(X:Cx):Prop where
 mod:Mod X.K X.mg X.base
 kind:X.env.scope.kind=.function
 glob:X.env.globals=k5
 blt:X.env.builtins=ej
 above:X.s₀.1.1.size<=X.env.locals
 inj:∀x y c,X.env.cells.lookup x=jr c->X.env.cells.lookup y=jr c->x=y
 has:∀x,(X.env.kindOf x=jr .cell∨X.env.kindOf x=jr .free)->∃c,X.env.cells.lookup x=jr c
 cab:∀x c,X.fn x=kf->X.env.cells.lookup x=jr c->X.s₀.1.1.size<=c
 hd:X.calm=kf->X.A.handled=kv
 frames:X.A.frames=jr X.stack
 stk:X.stack=X.outer∨(X.stack=X.env::X.outer/\X.env.frame=jr X.env.locals)
 exf:∀b∈X.ex,b≠X.env.locals/\∀x c,X.env.cells.lookup x=jr c->c≠b
 bs:∀b o,X.base.get? b=jr o->X.s₀.1.get? b=jr o/\X.H₀ b=kv
 bsz:X.base.1.size<=X.s₀.1.1.size
 noex:∀b o,X.base.get? b=jr o->b∉X.ex
 exfs:∀b∈X.ex,b∉X.fs
 funs:X.s₀.1.FunFrames X.base X.outer
 frf:∀b∈X.fs,X.H₀ b=kv
 tb:∀P q,uQ X.mg X.base P q->X.H₀ P=jr (.tbl q)
structure Inv(X:Cx)(pins:TB)(σ:List (Option V))(H:Hp)(s:ku):Prop where
 ok:X.Ok
 os:s.os=X.s₀.os
 bare:tt s.gens
 base:Un X.fs X.ex X.H₀ H X.s₀.1 s.1
 loc:∃m,s.1.Ns X.env.locals m/\∀(i:Nat) (x:Str) (v:V),X.N[i]?=jr x->σ[i]?=jr (jr v)->uv X.env.scope x->∃u,aA v u/\Tz X.env s.1 m x u
 cell:∀x c,X.env.cells.lookup x=jr c->∃v,s.1.IsCell c v
 free:H X.env.locals=kv
 freeC:∀x c,X.env.cells.lookup x=jr c->H c=kv
 pin:∀p∈X.pn++pins,s.1.get? p.1=jr p.2/\H p.1=kv/\p.1≠X.env.locals/\p.1∉X.fs/\∀v,p.2.data≠.cell v
 hok:mM X.prog X.w H s.1
 len:σ.9=X.N.9
end
section
variable{X:Cx}{f:TB}{σ:List (Option V)}{H g:Hp}{s:ku}{h':vu}
section
variable{a:k0}{g':Array GenState}{ch:List k0}{i:Nat}{x:Str}{M:Model}{A:y1}{E:uC}{u:kn}{Q:Unit->ku->Prop}
theorem Cx.Ok.nofr(ok:X.Ok){b:k0}{o:Obj}(e:X.base.get? b=jr o):b∉X.fs:=λhb=>by have:=(ok.funs.mem hb).1;rw[e]at this;cases this
theorem Inv.bs(I:Inv X f σ H s):∀b o,X.base.get? b=jr o->s.1.get? b=jr o/\H b=none:=λb o e =>
 #[I.base.keep b o (I.ok.bs b o e).1 (I.ok.bs b o e).2 (I.ok.nofr e) (I.ok.noex b o e),I.base.free b o (I.ok.bs b o e).1 (I.ok.bs b o e).2 (I.ok.noex b o e)]
theorem Inv.bk(I:Inv X f σ H s):∀b o,X.base.get? b=jr o->s.1.get? b=jr o:=λb o e=>(I.bs b o e).1
theorem Inv.tb(I:Inv X f σ H s):∀P q,uQ X.mg X.base P q->H P=jr (.tbl q):=λP q h=>I.base.tbls P q (I.ok.tb P q h)
theorem Inv.mod(I:Inv X f σ H s):Mod X.K X.mg X.base:=I.ok.mod
theorem Inv.kIn(I:Inv X f σ H s):X.K.In s.heap:=I.ok.mod.kin.keeps I.bk
theorem Inv.nolimit(I:Inv X f σ H s):s.1.NoLimit:=I.ok.mod.nolimit.keeps I.bk
theorem Inv.lt(I:Inv X f σ H s):X.env.locals<s.1.1.size:=let#[_,h,_]:=I.loc;h.lt
theorem Inv.sz(I:Inv X f σ H s):X.s₀.1.1.size<=s.1.1.size:=QU I.ok.above (QAT I.lt)
theorem Inv.nofs(I:Inv X f σ H s)(h:s.1.1.size<=a):a∉X.fs:=λhb=>by let#[_,o,y,_]:=I.ok.funs.mem hb;exact i2 (Qs (QW y) (QU I.sz h)) (qT _)
theorem Inv.cne(I:Inv X f σ H s):∀x c,X.env.cells.lookup x=jr c->c≠X.env.locals:=λx c e z=>by let#[v,o,w,k]:=I.cell x c e;let#[m,#[b,j,l,h,y,_],_]:=I.loc;rw[z,h]at w;cases w;rw[y]at k;cases k
theorem Inv.funs(I:Inv X f σ H s):s.1.FunFrames X.base X.outer:=by
 have all:∀(l:List Env),(∀b∈CZ l,b∈X.fs)->X.s₀.1.FunFrames X.base l->s.1.FunFrames X.base l:=by
  intro l;induction l with|nil=>intro _ _;trivial|cons n r v=>intro hs hl;let#[hk,#[L,o,h,j,k,m],w]:=hl;have y:L∈X.fs:=hs L (by unfold CZ;rw[wK,h];exact QF);let#[p,e]:=I.base.slot L o k (I.ok.frf L y) y λz=>I.ok.exfs L z y;exact#[hk,#[L,_,h,j,e,m],v (λb hb=>hs b (by unfold CZ;rw[wK,h];exact QE _ hb)) w]
 exact all X.outer (λ_ hb=>hb) I.ok.funs
theorem Inv.stack(I:Inv X f σ H s):s.1.FunFrames X.base X.stack:=by
 rcases I.ok.stk with e|⟨e,y⟩
 rw[e];exact I.funs;rw[e];let#[m,h,_]:=I.loc;refine .cons (by rw[I.ok.kind];decide) y h ?_ I.funs;exact Heap.get?_none_of_le (QU I.ok.bsz I.ok.above)
theorem Inv.stkSub(I:Inv X f σ H s):∀b∈CZ X.stack,b∈X.env.locals::X.fs:=λb hb=>by
 rcases I.ok.stk with e|⟨e,h⟩
 rw[e]at hb;exact QE _ hb;rw[e]at hb;unfold CZ at hb;rw[wK,h]at hb;exact hb
theorem Inv.stkFree(I:Inv X f σ H s):∀b∈CZ X.stack,H b=none:=λb hb=>by rcases QL.mp (I.stkSub b hb) with e|hb;rw[e];exact I.free;let#[_,o,h,_]:=I.ok.funs.mem hb;exact I.base.free b o h (I.ok.frf b hb) λz=>I.ok.exfs b z hb
theorem Inv.step{t':Nat}{d':Drawn}(I:Inv X f σ H s)
  (j:∀b∈ch,(b∈X.ex∨X.s₀.1.1.size<=b)/\b≠X.env.locals/\(∀x c,X.env.cells.lookup x=jr c->c≠b)/\∀p∈X.pn++f,p.1≠b)
  (keep:∀b o,b≠X.env.locals->b∉X.fs->b∉ch->s.1.get? b=jr o->H b=kv->h'.get? b=jr o)
  (W:∀b o,b≠X.env.locals->b∈X.fs->b∉ch->s.1.get? b=jr o->H b=kv->∃R,h'.get? b=jr { o with slots:=R }) (free:∀b o,b∉ch->s.1.get? b=jr o->H b=kv->g b=kv)
  (K:∀b o,b∉ch->s.1.get? b=jr o->∃J,h'.get? b=jr J)
  (F:∀b xs,H b=jr (.tup xs)->g b=jr (.tup xs)) (N:∀b o u,H b=jr (.frz o u)->g b=jr (.frz o u)) (G:∀b O,H b=jr (.tbl O)->g b=jr (.tbl O))
  (ns:∀m,s.1.Ns X.env.locals m->h'.Ns X.env.locals m) (S:mM X.prog X.w g h') (hg:tt g') :
  Inv X f σ g { s with heap:=h',gens:=g',drawn:=d',toks:=t' }:=by
 have L:∀b o,X.s₀.1.get? b=jr o->b≠X.env.locals:=λb o e=>Qo (Qs (QW e) I.ok.above);have Z:∀b o,X.s₀.1.get? b=jr o->b∉X.ex->b∉ch:=λb o e h hb=>by rcases(j b hb).1 with z|z;exact h z;exact i2 (Qs (QW e) z) (qT _)
 have Y:∀x c,X.env.cells.lookup x=jr c->∀v,s.1.IsCell c v->h'.IsCell c v:=λx c e v #[o,C,hd]=>by have y:c∉ch:=λz=>(j c z).2.2.1 x c e rfl;by_cases hc:c∈X.fs;let#[R,q]:=W c o (I.cne x c e) hc y C (I.freeC x c e);exact#[_,q,hd];exact#[o,keep c o (I.cne x c e) hc y C (I.freeC x c e),hd]
 refine#[I.ok,I.os,hg,#[λb o e n hb h=>?_,λb o e n hb h=>?_,λb o e n h=>?_,λb o e h=>?_,λb xs e=>F b xs (I.base.tups b xs e),λb o xs e=>N b o xs (I.base.frzs b o xs e),λb O e=>?_],?_,λx c e=>?_,?_,λx c e=>?_,λp hp=>?_,S,I.len];exact keep b o (L b o e) hb (Z b o e h) (I.base.keep b o e n hb h) (I.base.free b o e n h);let#[R,B]:=I.base.slot b o e n hb h;let#[P,e2]:=W b _ (L b o e) hb (Z b o e h) B (I.base.free b o e n h);exact#[P,e2];let#[J,B]:=I.base.there b o e h;exact free b J (Z b o e h) B (I.base.free b o e n h);let#[J,B]:=I.base.there b o e h;exact K b J (Z b o e h) B;exact G b _ (I.base.tbls b O e);let#[m,hn,hl]:=I.loc;refine#[m,ns m hn,λi x v B e2 e3=>?_];let#[u,r,l]:=hl i x v B e2 e3;refine#[u,r,?_];rcases l with l|⟨k,c,e,z⟩
 exact .inl l;exact .inr #[k,c,e,Y x c e _ z];let#[v,z]:=I.cell x c e;exact#[v,Y x c e v z];let#[m,#[o,_,_,C,_],_]:=I.loc;exact free _ o (λz=>(j _ z).2.1 rfl) C I.free;let#[v,o,C,hd]:=I.cell x c e;exact free c o (λz=>(j c z).2.2.1 x c e rfl) C (I.freeC x c e);let#[e,n,ne,nf,d]:=I.pin p hp;have y:p.1∉ch:=λz=>(j p.1 z).2.2.2 p hp rfl;exact#[keep p.1 p.2 ne nf y e n,free p.1 p.2 y e n,ne,nf,d]
theorem Inv.un{t':Nat}(I:Inv X f σ H s)(u:Un X.fs [] H g s.1 h')(y:mM X.prog X.w g h'):Inv X f σ g { s with heap:=h',toks:=t' }:=by let#[m,#[o,W,K,j,r],_]:=id I.loc;let#[q,p]:=u.any j I.free (by simp);exact I.step (g':=s.gens) (d':=s.drawn) (ch:=[]) (λ_ z=>nomatch z) (λb o _ hb _ e n=>u.keep b o e n hb (by simp)) (λb o _ hb _ e n=>u.slot b o e n hb (by simp)) (λb o _ e n=>u.free b o e n (by simp)) (λb o _ e=>u.there b o e (by simp)) u.tups u.frzs u.tbls (λZ hm=>by let#[Y,v,k,h,l]:=hm;rw[j]at h;cases h;exact#[_,v,k,p,l]) y I.bare
theorem Inv.call{t':Nat}{d':Drawn}(I:Inv X f σ H s)(u:Un (CZ X.stack) ch H g s.1 h')(v:mM X.prog X.w g h')(Z:tt g')
  (y:∀b∈ch,(b∈X.ex∨X.s₀.1.1.size<=b)/\b≠X.env.locals/\(∀x c,X.env.cells.lookup x=jr c->c≠b)/\∀p∈X.pn++f,p.1≠b) :
  Inv X f σ g { s with heap:=h',gens:=g',drawn:=d',toks:=t' }:=by
 let#[m,#[o,C,F,q,r],_]:=id I.loc;let#[W,k]:=u.any q I.free λz=>(y _ z).2.1 rfl;exact I.step (ch:=ch) y (λb o k hb hc e n=>u.keep b o e n (λz=>(QL.mp (I.stkSub b z)).elim k hb) hc) (λb o _ _ hc e n=>u.any e n hc) (λb o hc e n=>u.free b o e n hc) (λb o hc e=>u.there b o e hc) u.tups u.frzs u.tbls (λB hm=>by let#[K,j,l,h,Y]:=hm;rw[q]at h;cases h;exact#[_,j,l,k,Y]) v Z
theorem Inv.turned{t':Nat}{it:k0}(I:Inv X f σ H s)(k:∀b o,b≠it->s.1.get? b=jr o->h'.get? b=jr o)(j:H it=kv)(y:it≠X.env.locals)
  (Z:it∈X.ex∨X.s₀.1.1.size<=it) (Y:∀x c,X.env.cells.lookup x=jr c->c≠it) (l:∀p∈X.pn++f,p.1≠it):Inv X f σ H { s with heap:=h',toks:=t' }:=by
 have h:∀b u,H b=jr u->b≠it:=λb u e z=>by rw[z,j]at e;cases e
 refine I.step (g':=s.gens) (d':=s.drawn) (ch:=[it]) (λb hb=>?_) (λb o _ _ hc e _=>k b o (λz=>hc (by simp[z])) e) (λb o _ _ hc e _=>#[o.slots,k b o (λz=>hc (by simp[z])) e]) (λ_ _ _ _ n=>n)
  (λb o hc e=>#[o,k b o (λz=>hc (by simp[z])) e]) (λ_ _ e=>e) (λ_ _ _ e=>e) (λ_ _ e=>e) (λm hm=>?_) (λb u e=>?_) I.bare
 have e:b=it:=by simpa using hb
 subst e;exact#[Z,y,Y,l];let#[o,W,K,w,r]:=hm;exact#[o,W,K,k _ o (qC y) w,r];refine(I.hok b u e).stay (λc v hc q=>k c v ?_ q) (λ_ q=>q) λ_ _ q=>q;rcases hc with z|z;rw[z];exact h b u e;exact h c _ z
theorem Inv.tok(I:Inv X f σ H s)(t:Nat):Inv X f σ H { s with toks:=t }:=I.un (h':=s.1) (t':=t) Un.refl I.hok
theorem Inv.kept{t':Nat}(I:Inv X f σ H s)(k:∀b u,s.1.get? b=jr u->h'.get? b=jr u):Inv X f σ H { s with heap:=h',toks:=t' }:=I.un (Un.kept k) (I.hok.kept k)
theorem Inv.laid{o:HO}{t':Nat}(I:Inv X f σ H s)(k:∀b u,s.1.get? b=jr u->h'.get? b=jr u)(h:s.1.1.size<=a)(new:DA X.prog X.w (FA H a o) h' a o) :
  Inv X f σ (FA H a o) { s with heap:=h',toks:=t' }:=I.un (Un.laid k h (I.hok.fresh h)) (I.hok.laid k h new)
theorem Inv.write{x e:k0}{o:HO}{t':Nat}(I:Inv X f σ H s)(y:Op (H x))(z:e=x∨H e=jr (.own x))(k:∀b u,b≠e->s.1.get? b=jr u->h'.get? b=jr u)(h:∃u,h'.get? e=jr u)
  (new:DA X.prog X.w (FA H x o) h' x o):Inv X f σ (FA H x o) { s with heap:=h',toks:=t' }:=I.un (Un.write y z k h) (I.hok.write y z k h new)
theorem Inv.pins_of{y:TB}(I:Inv X f σ H s)(h:∀p∈y,s.1.get? p.1=jr p.2/\H p.1=kv/\p.1≠X.env.locals/\p.1∉X.fs/\∀v,p.2.data≠.cell v):Inv X y σ H s :=
 #[I.ok,I.os,I.bare,I.base,I.loc,I.cell,I.free,I.freeC,λp w=>(Qh.mp w).elim (λz=>I.pin p (Qm _ z)) (h p),I.hok,I.len]
theorem RT{N:LS}(h:N.Nodup){j:Nat}(a:N[i]?=jr x)(b:N[j]?=jr x):i=j:=by let#[w,z]:=Qg.mp a;let#[v,y]:=Qg.mp b;exact(List.getElem_inj h).mp (z.trans y.symm)
theorem lP{v:V}(I:Inv X f σ H s)(hN:X.N.Nodup)(L:X.N[i]?=jr x)(Z:Pp X.env.scope x)(r:aA v u)
  (h:∀s',Inv X f (σ.set i (jr v)) H s'->(∃a,qe a s.1 s'.1/\(a=X.env.locals∨X.env.cells.lookup x=jr a))->Q Unit.unit s') (hf:X.fn x=kf∨X.env.scope.names.lookup x=jr .local):ko M A (storeName X.env x u) Q E s:=by
 let#[m,hn,hl]:=id I.loc;have O:(X.env.scope.kind==.class||(X.env.scope.kind==.module&&X.env.locals != X.env.globals))=false:=by rw[I.ok.kind];rfl
 have B:i<σ.length:=by rw[I.len];exact(Qg.mp L).1
 have cne:=I.cne;have l:∀{a:k0}{h':vu},(∃o,s.1.get? a=jr o/\H a=kv)->qe a s.1 h'->mM X.prog X.w H h':=λ{a h'} ha hs b ob e=>by let#[_,_,W]:=ha;refine(I.hok b ob e).stay (λc S hc q=>(hs.2 c ?_).trans q) (λ_ q=>q) λ_ _ q=>q;rintro rfl;rcases hc with rfl|hc;rw[W]at e;cases e;rw[W]at hc;cases hc
 rcases Z with hk|hk;refine wpAny_storeName_local hk hn (λh' hn' hs=>?_) O;let#[oL,_,_,hoL,_]:=id hn;refine h _ #[I.ok,I.os,I.bare,#[λb o e n hb Z=>?_,λb o e n hb Z=>?_,I.base.free,λb o e Z=>?_,I.base.tups,I.base.frzs,I.base.tbls],#[_,hn',λj y v' Y K e3=>?_],λy c e=>?_,I.free,I.freeC,λp hp=>?_,l #[oL,hoL,I.free] hs,by simpa using I.len] #[_,hs,.inl rfl];exact(hs.2 b (Qo (Qs (QW e) I.ok.above))).trans (I.base.keep b o e n hb Z);let#[sl,Y]:=I.base.slot b o e n hb Z;exact#[sl,(hs.2 b (Qo (Qs (QW e) I.ok.above))).trans Y];let#[o',Y]:=I.base.there b o e Z;exact#[o',(hs.2 b (Qo (Qs (QW e) I.ok.above))).trans Y];by_cases C:j=i
 ·subst C
  rw[L]at Y;cases Y;rw[qX B]at K;cases K;exact#[u,r,.inl #[hk,by simp]]
 rw[qV (qC C)]at K;let#[u',r',q]:=hl j y v' Y K e3;refine#[u',r',?_];rcases q with⟨k,e⟩| ⟨k,c,e,z⟩
 refine .inl #[k,?_];have:y≠x:=λe=>C (RT hN Y (e▸L));simp[this,e];exact .inr #[k,c,e,z.sameBut hs (cne y c e)];let#[S,z]:=I.cell y c e;exact#[S,z.sameBut hs (cne y c e)];let#[e,n,ne,nf,d]:=I.pin p hp;exact#[(hs.2 p.1 ne).trans e,n,ne,nf,d];have F:X.fn x=true:=by rcases hf with z|z;exact z;rw[z]at hk;cases hk
 let#[c,hc]:=I.ok.has x (.inl hk);let#[S,z]:=I.cell x c hc;refine wpAny_storeName_cell I.ok.kind hk hc z (λh' R hs=>?_);let#[oc,J,G]:=id z;refine h { s with heap:=h' } #[I.ok,I.os,I.bare,#[λb o e n hb Z=>?_,λb o e n hb Z=>?_,I.base.free,λb o e Z=>?_,I.base.tups,I.base.frzs,I.base.tbls],#[m,hn.sameBut hs (qC (cne x c hc)),λj y v' Y K e3=>?_],λy c' e=>?_,I.free,I.freeC,λp hp=>?_,l #[oc,J,I.freeC x c hc] hs,by simpa using I.len] #[c,hs,.inr hc];exact(hs.2 b (Qo (Qs (QW e) (I.ok.cab x c F hc)))).trans (I.base.keep b o e n hb Z);let#[sl,Y]:=I.base.slot b o e n hb Z;exact#[sl,(hs.2 b (Qo (Qs (QW e) (I.ok.cab x c F hc)))).trans Y];let#[o',Y]:=I.base.there b o e Z;exact#[o',(hs.2 b (Qo (Qs (QW e) (I.ok.cab x c F hc)))).trans Y];by_cases C:j=i
 ·subst C
  rw[L]at Y;cases Y;rw[qX B]at K;cases K;exact#[u,r,.inr #[.inl hk,c,hc,R]]
 rw[qV (qC C)]at K;let#[u',r',q]:=hl j y v' Y K e3;refine#[u',r',?_];rcases q with q|⟨k,c',e,z'⟩
 exact .inl q;refine .inr #[k,c',e,z'.sameBut hs ?_];rintro rfl;exact C (RT hN Y (I.ok.inj _ _ _ e hc▸L));by_cases P:c'=c
 ·subst P;exact#[_,R]
 let#[w2,z2]:=I.cell y c' e;exact#[w2,z2.sameBut hs P];let#[e,n,ne,nf,d]:=I.pin p hp;refine#[(hs.2 p.1 ?_).trans e,n,ne,nf,d];intro q;rw[q,J]at e;have q':oc=p.2:=Qn e;exact d S (by rw[<- q'];exact G)
theorem vT{v:V}(I:Inv X f σ H s)(k:X.N.Nodup)(z:X.N[i]?=jr x)(y:Pp X.env.scope x)(r:aA v u)
  (h:∀s',Inv X f (σ.set i (jr v)) H s'->Q Unit.unit s') (w:X.fn x=kf∨X.env.scope.names.lookup x=jr .local):ko M A (storeName X.env x u) Q E s :=
 lP I k z y r (λs' b _=>h s' b) w
theorem Inv.call'{s':ku}(I:Inv X f σ H s)(v:s'.os=s.os)(u:Un (CZ X.stack) ch H g s.1 s'.1)(h:mM X.prog X.w g s'.1)(k:tt s'.gens)
  (y:∀b∈ch,(b∈X.ex∨X.s₀.1.1.size<=b)/\b≠X.env.locals/\(∀x c,X.env.cells.lookup x=jr c->c≠b)/\∀p∈X.pn++f,p.1≠b):Inv X f σ g s':=by
 let#[h',g',d',t',z]:=s';have e:z=s.os:=v;subst e;exact I.call (g':=g') (t':=t') (d':=d') u h k y
end
end
noncomputable abbrev XK:=kn->Option k0->Hp->Prop
noncomputable abbrev St:=List (Option V)
noncomputable abbrev VK:=V->Hp->Prop
noncomputable abbrev TE:=St->Hp->VK->Prop
noncomputable abbrev TT:=St->Hp->(Bool->Hp->Prop)->Prop
noncomputable abbrev TA:=St->Hp->(LV->Hp->Prop)->Prop
structure Ends where
 nx:St->Hp->Prop
 rt:VK
 bk:St->Hp->Prop:=λ_ _=>False
 ct:St->Hp->Prop:=λ_ _=>False
noncomputable abbrev TS:=Ends->St->Hp->Prop
def EP(X:Cx)(h:TB)(σ:St)(Q:VK)(u:kn)(s':ku):Prop:=∃v x,Inv X h σ x s'/\aA v u/\Q v x
def TP(X:Cx)(h:TB)(σ:St)(Q:Bool->Hp->Prop)(b:Bool)(s':ku):Prop:=∃x,Inv X h σ x s'/\Q b x
def AP(X:Cx)(h:TB)(σ:St)(Q:LV->Hp->Prop)(us:LW)(s':ku):Prop:=∃x y,Inv X h σ y s'/\lA x us/\Q x y
def SP(X:Cx)(x:TB)(D:Ends)(f:Flow)(s':ku):Prop :=
 match f with
 | .next=>∃h y,Inv X x h y s'/\D.nx h y|.brk=>∃h y,Inv X x h y s'/\D.bk h y|.cont=>∃h y,Inv X x h y s'/\D.ct h y|.ret u=>∃v h y,Inv X x h y s'/\aA v u/\D.rt v y
def PE(X:Cx)(e:Expr)(t:TE):Prop :=
 ∀(h:TB) (s:ku) (x:St) (H:Hp) (Q:VK),Inv X h x H s->t x H Q->ko (k4 X.prog X.w) X.A (g6 e X.env) (EP X h x Q) X.xe s
def PT(X:Cx)(e:Expr)(t:TT):Prop :=
 ∀(h:TB) (s:ku) (x:St) (H:Hp) (Q:Bool->Hp->Prop),Inv X h x H s->t x H Q->ko (k4 X.prog X.w) X.A (isTrue e X.env (g6 e X.env)) (TP X h x Q) X.xe s
def PW(X:Cx)(e:Expr)(t:TT):Prop :=
 ∀(x:Sem kn) (h:TB) (s:ku) (y:St) (H:Hp) (Q:Bool->Hp->Prop),Inv X h y H s->t y H Q->ko (k4 X.prog X.w) X.A (isTrue e X.env x) (TP X h y Q) X.xe s
theorem PW.pt{X:Cx}{e:Expr}{t:TT}(h:PW X e t):PT X e t:=h _
def PA(X:Cx)(es:List Expr)(t:TA):Prop :=
 ∀(y:Pos) (h:TB) (s:ku) (x:St) (H:Hp) (Q:LV->Hp->Prop),Inv X h x H s->t x H Q->ko (k4 X.prog X.w) X.A (lv (fv y (x2 es X.env))) (AP X h x Q) X.xe s
def PS(X:Cx)(st:gi)(t:TS):Prop :=
 ∀(h:TB) (s:ku) (x:St) (H:Hp) (D:Ends),Inv X h x H s->t D x H->ko (k4 X.prog X.w) X.A (exec st X.env) (SP X h D) X.xe s
def lY(X:Cx)(st:List gi)(t:TS):Prop :=
 ∀(h:TB) (s:ku) (x:St) (H:Hp) (D:Ends),Inv X h x H s->t D x H->ko (k4 X.prog X.w) X.A (execs st X.env) (SP X h D) X.xe s
theorem GB{α:Type}{t:Sem α}{Q y:α->ku->Prop}{M:Model}{A:y1}{E:uC}{s:ku}(h:ko M A t Q E s)(z:∀a s,Q a s->y a s):ko M A t y E s:=wC h z λ_ _ x=>x
section
variable{X:Cx}
section
variable{z:TB}{s:ku}{σ:St}{H:Hp}{x:Str}{pos:Pos}{E Q:uC}{u:kn}
theorem bin{a b:Expr}{ta g:TE}(Y:PE X a ta)(hb:PE X b g){R:V->V->Hp->Prop}(I:Inv X z σ H s)(h:ta σ H λx l=>g σ l λy k=>R x y k)
  {α:Type}{Q:α->ku->Prop}{f:kn->kn->Sem α}
  (r:∀v u j x y k,Inv X z σ k j->aA x v->aA y u->R x y k->ko (k4 X.prog X.w) X.A (f v u) Q X.xe j) :
  ko (k4 X.prog X.w) X.A (g6 a X.env) (λv i=>ko (k4 X.prog X.w) X.A (g6 b X.env) (λu e=>ko (k4 X.prog X.w) X.A (f v u) Q X.xe e) X.xe i) X.xe s:=by
 refine GB (Y z s σ H _ I h) λv m #[x,l,W,o,q]=>?_;refine GB (hb z m σ l _ W q) λu j #[y,k,Z,n,p]=>?_;exact r v u j x y k Z o n p
def yx(i:Nat):TE:=λσ H Q=>∃v,σ[i]?=jr (jr v)/\Q v H
def tC(v:V):TE:=λ_ H Q=>Q v H
theorem d7{i:Nat}(b:X.N[i]?=jr x)(hv:uv X.env.scope x)(w:(x==("__debug__":Str))=false:=by decide)(k:(x==("__classdict__":Str))=false:=by decide):PE X (.Name x pos) (yx i):=by
 intro z s σ H Q I h;let#[v,e,h]:=h;let#[m,a,hl]:=I.loc;let#[u,r,l]:=hl i x v b e hv;have fin:EP X z σ Q u s:=#[v,H,I,r,h]
 rcases l with⟨hk,hm⟩| ⟨hk,c,hc,y⟩
 exact QBX (QBb I.ok.kind hk a hm fin) w;rcases hk with hk|hk
 ·exact QBX (wpAny_loadName_cell I.ok.kind hk hc y fin) w
 exact QBX (QBo I.ok.kind hk hc y fin k) w
theorem eW{i j pos}:PE X (.Constant (.int i) j pos) (tC (.int i)):=λ_ _ _ H _ I h=>QB4 #[.int i,H,I.tok _,#[_,rfl],h]
theorem Rg{b j pos}:PE X (.Constant (.bool b) j pos) (tC (.bl b)):=λ_ _ _ H _ I h=>Constant_bool #[.bl b,H,I,rfl,h]
theorem m7{j pos}:PE X (.Constant .none j pos) (tC .non):=λ_ _ _ H _ I h=>Constant_none #[.non,H,I,rfl,h]
theorem yl{x j pos}:PE X (.Constant (.str x) j pos) (tC (.str x)):=λ_ _ _ H _ I h=>Calls.Constant_str #[.str x,H,I.tok _,#[_,rfl],h]
def Gl(X:Cx)(x:Str):Prop:=X.env.kindOf x=jr .globalImplicit
theorem LR(I:Inv X z σ H s)(y:Gl X x)(hm:X.mg x=jr u)(h:Q u s)
  (v:(x==("__debug__":Str))=false:=by decide):ko (k4 X.prog X.w) X.A (g6 (.Name x pos) X.env) Q E s :=
 QAO I.ok.kind y (Calls.loadGlobal_global (by rw[I.ok.glob];exact I.mod.glob.keeps I.bk) hm h) v
theorem gE(I:Inv X z σ H s)(v:Gl X x)(hm:X.mg x=kv)(hv:gl x=jr u)(h:Q u s)
  (y:x≠"__name__":=by decide) (k:(x==("__debug__":Str))=false:=by decide):ko (k4 X.prog X.w) X.A (g6 (.Name x pos) X.env) Q E s:=by
 let#[e,b,a]:=I.mod.blt;exact QAO I.ok.kind v (Calls.loadGlobal_builtin (by rw[I.ok.glob];exact I.mod.glob.keeps I.bk) hm (by rw[I.ok.blt];exact b.keeps I.bk) ((a x y).trans hv) h) k
theorem Ac{v:V}(y:Gl X x)(hm:X.mg x=jr u)(r:aA v u)(w:(x==("__debug__":Str))=false:=by decide):PE X (.Name x pos) (tC v) :=
 λ_ _ _ H _ I h=>LR I y hm #[v,H,I,r,h] w
theorem vd{v:V}(w:Gl X x)(hm:X.mg x=kv)(hv:gl x=jr u)(r:aA v u)(y:x≠"__name__":=by decide)(k:(x==("__debug__":Str))=false:=by decide):PE X (.Name x pos) (tC v) :=
 λ_ _ _ H _ I h=>gE I w hm hv #[v,H,I,r,h] y k
end
variable{a b:Expr}{ta g:TE}{pos:Pos}
variable{n o:TT}{k:List Expr}
noncomputable def Jx(t u:TT):TT:=λh H Q=>t h H λc x=>if c=kf then u h x Q else Q kb x
noncomputable def jBH(t u:TT):TT:=λh H Q=>t h H λc x=>if c=kf then Q kf x else u h x Q
def cx(t:TT):TT:=λh H Q=>t h H λc x=>Q (!c) x
theorem Bc(z:PT X a n):PW X (.BoolOp .And [a] pos) n:=by
 intro u x s y H Q I h;refine isTrue_and (GB (z x s y H Q I h) λc v e=>?_);cases c with|true=>exact isTrue_and_nil e|false=>exact e
theorem Ck(z:PT X a n):PW X (.BoolOp .Or [a] pos) n:=by
 intro u x s y H Q I h;refine isTrue_or (GB (z x s y H Q I h) λc v e=>?_);cases c with|false=>exact isTrue_or_nil e|true=>exact e
theorem S6(f:PT X a n)(hb:PW X (.BoolOp .And (b::k) pos) o):PW X (.BoolOp .And (a::b::k) pos) (Jx n o):=by
 intro w x s y H Q I h;refine isTrue_and (GB (f x s y H _ I h) λc e #[v,u,z]=>?_);cases c with|true=>exact hb w x e y v Q u z|false=>exact#[v,u,z]
theorem Lg(f:PT X a n)(hb:PW X (.BoolOp .Or (b::k) pos) o):PW X (.BoolOp .Or (a::b::k) pos) (jBH n o):=by
 intro w x s y H Q I h;refine isTrue_or (GB (f x s y H _ I h) λc e #[v,u,z]=>?_);cases c with|true=>exact#[v,u,z]|false=>exact hb w x e y v Q u z
theorem Dk(z:PT X a n):PT X (.UnaryOp .Not a pos) (cx n):=by intro x s y H Q I h;exact isTrue_not (z x s y H (λc u=>Q (!c) u) I h)
noncomputable def Bq(ta g:TE):TE:=λh H Q=>ta h H λx y=>∃c,x=.bl c/\if c=kf then g h y Q else Q (.bl kb) y
noncomputable def bx(ta g:TE):TE:=λh H Q=>ta h H λx y=>∃c,x=.bl c/\if c=kf then Q (.bl kf) y else g h y Q
theorem l7{op}{t:TE}(h:PE X a t):PE X (.BoolOp op [a] pos) t:=λx s y H Q I z=>BoolOp_one (h x s y H Q I z)
theorem J7(j:PE X a ta)(hb:PE X (.BoolOp .And (b::k) pos) g):PE X (.BoolOp .And (a::b::k) pos) (Bq ta g):=by
 intro y s u H Q I h;refine BoolOp_and (GB (j y s u H _ I h) λv f #[x,e,w,i,z]=>?_);let#[c,rfl,z]:=z;cases i;refine we ?_;cases c with|true=>exact hb y f u e Q w z|false=>exact#[.bl kb,e,w,rfl,z]
theorem Pg(j:PE X a ta)(hb:PE X (.BoolOp .Or (b::k) pos) g):PE X (.BoolOp .Or (a::b::k) pos) (bx ta g):=by
 intro y s u H Q I h;refine BoolOp_or (GB (j y s u H _ I h) λv f #[x,e,w,i,z]=>?_);let#[c,rfl,z]:=z;cases i;refine we ?_;cases c with|false=>exact hb y f u e Q w z|true=>exact#[.bl kf,e,w,rfl,z]
noncomputable def jBI(t:TT)(ta g:TE):TE:=λh H Q=>t h H λc x=>if c=kf then ta h x Q else g h x Q
theorem e7{c:Expr}(hc:PT X c n)(e:PE X a ta)(hb:PE X b g):PE X (.IfExp c a b pos) (jBI n ta g):=by
 intro x s y H Q I h;refine wpAny_IfExp (GB (hc x s y H _ I h) λd z #[w,v,u]=>?_);cases d with|true=>exact e x z y w Q v u|false=>exact hb x z y w Q v u
end
def rC(K:QA)(H:Hp)(a:k0)(xs:LV):Prop :=
 Rd H a (.lst xs) ∨
  ∃(o:Obj) (h:Array kn) (n:Nat),K.lookup a=jr o/\o.cls=.type "list"/\o.dict=kv/\o.data=.seq h n/\h.size<=kt/\lA xs h.toList
def CD(K:QA)(H:Hp)(a:k0)(xs:LV):Prop :=
 Rd H a (.tup xs) ∨
  ∃(o:Obj) (h:Array kn) (n:Nat),K.lookup a=jr o/\o.cls=.type "tuple"/\o.data=.seq h n/\h.size<=kt/\lA xs h.toList
noncomputable def cO:kn->Option V
 | .none=>jr .non|.bool b=>jr (.bl b)|.int i _=>jr (.int i)|.str x _=>jr (.str x)|.bytes b _=>jr (.byt b)|.float b _=>jr (.flt b)|.ref a=>jr (.ref a)|.type n=>jr (.ty n)|_=>kv
theorem aA.abs{x:V}{u:kn}(r:aA x u):cO u=jr x:=by
 cases x with|non=>cases r;rfl|bl _=>cases r;rfl|int _=>let#[t,rfl]:=r;rfl|str _=>let#[t,rfl]:=r;rfl|byt _=>let#[t,rfl]:=r;rfl|flt _=>let#[t,rfl]:=r;rfl|ref _=>cases r;rfl|ty _=>cases r;rfl
theorem aA.inj{x y:V}{u:kn}(r:aA x u)(q:aA y u):x=y:=Qn (r.abs.symm.trans q.abs)
theorem lA.inj:∀{xs h:LV}{us:LW},lA xs us->lA h us->xs=h
 |_,_,_,.nil,.nil=>rfl|_,_,_,.cons r t,.cons r' t'=>by rw[r.inj r',lA.inj t t']
section
variable{X:Cx}{x:TB}{σ:St}{H:Hp}{s:ku}{a:k0}{xs y:LV}
theorem rC.of{K:QA}(h:H a=jr (.lst xs)):rC K H a xs:=.inl (.inl h)
theorem CD.of{K:QA}(h:H a=jr (.tup xs)):CD K H a xs:=.inl (.inl h)
theorem Inv.list(I:Inv X x σ H s)(h:rC X.K H a xs):∃its:LW,lA xs its/\PlainL s.1 a its.toArray/\xs.9<=sizeLine:=by
 rcases h with h|⟨o,its,n,hk,hc,u,hs,v,r⟩
 let#[z,its,n,r,e]:=h.ok I.hok;exact#[its,r,#[_,n,e,rfl,rfl,rfl],z];refine#[its.toList,r,#[o,n,I.kIn a o hk,hc,u,by simpa using hs],?_];have e:=r.9;simp only[Qp]at e;omega
theorem Inv.tuple(I:Inv X x σ H s)(h:CD X.K H a xs):∃its:LW,lA xs its/\a8 s.1 a its.toArray/\xs.9<=sizeLine:=by
 rcases h with h|⟨o,its,n,hk,hc,hs,u,r⟩
 let#[z,its,r,p]:=h.ok I.hok;exact#[its,r,p,z];refine#[its.toList,r,#[o,I.kIn a o hk,hc,n,by simpa using hs],?_];have e:=r.9;simp only[Qp]at e;omega
theorem Inv.list_inj(I:Inv X x σ H s)(h:rC X.K H a xs)(h':rC X.K H a y):xs=y:=by
 let#[u,r,#[o,n,e,_,_,d],_]:=I.list h;let#[z,k,#[b,f,v,_,_,w],_]:=I.list h';rw[e]at v;cases v;rw[d]at w;injection w with d1 _;have:u=z:=by simpa using o9 Array.toList d1
 subst this;exact r.inj k
theorem Inv.tuple_inj(I:Inv X x σ H s)(h:CD X.K H a xs)(h':CD X.K H a y):xs=y:=by
 let#[u,r,#[o,e,_,n,d],_]:=I.tuple h;let#[z,k,#[b,v,_,f,w],_]:=I.tuple h';rw[e]at v;cases v;rw[d]at w;injection w with d1 _;have:u=z:=by simpa using o9 Array.toList d1
 subst this;exact r.inj k
end
noncomputable abbrev Cx.wish(X:Cx)(E:uC):Cx:={ X with xe:=E }
noncomputable abbrev Cx.nox(X:Cx):Cx:=X.wish λ_ _=>False
theorem Cx.Ok.wish{X:Cx}(ok:X.Ok)(E:uC):(X.wish E).Ok :=
 #[ok.mod,ok.kind,ok.glob,ok.blt,ok.above,ok.inj,ok.has,ok.cab,ok.hd,ok.frames,ok.stk,ok.exf,ok.bs,ok.bsz,ok.noex,ok.exfs,ok.funs,ok.frf,ok.tb]
theorem Cx.Ok.unwish{X:Cx}{E:uC}(ok:(X.wish E).Ok):X.Ok :=
 #[ok.mod,ok.kind,ok.glob,ok.blt,ok.above,ok.inj,ok.has,ok.cab,ok.hd,ok.frames,ok.stk,ok.exf,ok.bs,ok.bsz,ok.noex,ok.exfs,ok.funs,ok.frf,ok.tb]
section
variable{X:Cx}{x:TB}{σ:St}{H:Hp}{s:ku}{E:uC}
theorem Inv.wish(I:Inv X x σ H s)(E:uC):Inv (X.wish E) x σ H s:=#[I.ok.wish E,I.os,I.bare,I.base,I.loc,I.cell,I.free,I.freeC,I.pin,I.hok,I.len]
theorem Inv.unwish(I:Inv (X.wish E) x σ H s):Inv X x σ H s:=#[I.ok.unwish,I.os,I.bare,I.base,I.loc,I.cell,I.free,I.freeC,I.pin,I.hok,I.len]
theorem SP.unwish{D:Ends}{f:Flow}{s':ku}(h:SP (X.wish E) x D f s'):SP X x D f s':=by
 cases f with|next=>let#[y,z,I,q]:=h;exact#[y,z,I.unwish,q]|brk=>let#[y,z,I,q]:=h;exact#[y,z,I.unwish,q]|cont=>let#[y,z,I,q]:=h;exact#[y,z,I.unwish,q]|ret u=>let#[v,y,z,I,r,q]:=h;exact#[v,y,z,I.unwish,r,q]
theorem lY.nox{st:List gi}{t:TS}(h:lY X.nox st t):lY X st t:=λx s σ H D I y =>
 wC (h x s σ H D (I.wish _) y) (λ_ _ q=>q.unwish) λ_ _ z=>Qd z
end
section
variable{X:Cx}{st:gi}{y:List gi}{t u:TS}{e:Expr}{te:TE}{pos:Pos}
def Vq:TS:=λD h H=>D.nx h H
def xx(t u:TS):TS:=λD h H=>t { D with nx:=u D } h H
theorem Fc:lY X [] Vq:=λ_ _ x H _ I h=>QAC #[x,H,I,h]
theorem A6(b:PS X st t)(a:lY X y u):lY X (st::y) (xx t u):=by
 intro x s w H D I h;refine QCa (GB (b x s w H { D with nx:=u D } I h) λf k q=>?_);cases f with|next=>let#[z,i,g,q]:=q;exact a x k z i D g q|ret v=>exact q|brk=>exact q|cont=>exact q
theorem SY(w:PS X st t):lY X [st] t:=by
 intro x s z H D I h;refine QCa (GB (w x s z H D I h) λf k q=>?_);cases f with|next=>exact QAC q|ret v=>exact q|brk=>exact q|cont=>exact q
theorem Inv.quiet{h:TB}{σ:St}{H:Hp}{s:ku}(I:Inv X h σ H s):interactive X.env=false:=by simp[interactive,I.ok.kind]
def Xq(te:TE):TS:=λD h H=>te h H λ_ x=>D.nx h x
theorem AY(a:PE X e te)(hs:b8 e kv pos.line X.env=sn false:=by rfl):PS X (.Expr e pos) (Xq te):=by intro z s w H D I h;exact wpAny_Expr_any (GB (a z s w H _ I h) λv g #[x,f,b,i,k]=>#[w,f,b,k]) I.quiet hs
def ux(te:TE):TS:=λD h H=>te h H D.rt
theorem j7(b:PE X e te):PS X (.Return (jr e) pos) (ux te):=by intro z s w H D I h;exact wpAny_Return_some (GB (b z s w H _ I h) λv i #[x,g,f,k,a]=>#[x,w,g,f,k,a])
noncomputable def lx(c:TT)(t u:TS):TS:=λD h H=>c h H λb x=>if b=kf then t D h x else u D h x
theorem Vr{c:Expr}{a b:List gi}{tc:TT}(hc:PT X c tc)(g:lY X a t)(hb:lY X b u):PS X (.If c a b pos) (lx tc t u):=by
 intro x s z H D I h;refine wpAny_If (GB (hc x s z H _ I h) λd v #[f,k,w]=>?_);cases d with|true=>exact g x v z f D k w|false=>exact hb x v z f D k w
end
noncomputable abbrev TG:=V->St->Hp->(St->Hp->Prop)->Prop
noncomputable abbrev Nz:=LV->St->Hp->(St->Hp->Prop)->Prop
def PG(X:Cx)(h:Expr)(t:TG):Prop :=
 ∀(x:TB) (s:ku) (z:St) (H:Hp) (v:V) (u:kn) (Q:St->Hp->Prop),Inv X x z H s->aA v u->t v z H Q ->
  ko (k4 X.prog X.w) X.A (ew h X.env u) (λ_ a=>∃y k,Inv X x y k a/\Q y k) X.xe s
def jAf(X:Cx)(ts:List Expr)(t:Nz):Prop :=
 ∀(h:TB) (s:ku) (y:St) (H:Hp) (z:LV) (u:LW) (Q:St->Hp->Prop),Inv X h y H s->lA z u->t z y H Q ->
  ko (k4 X.prog X.w) X.A (py ((hE ts X.env).map (·.2)) u) (λ_ k=>∃x v,Inv X h x v k/\Q x v) X.xe s
noncomputable abbrev jp:=V->V->V->Hp->(Hp->Prop)->Prop
def jg(X:Cx)(t:jp):Prop :=
 ∀(h:TB) (s:ku) (x:St) (H:Hp) (o i v:V) (y z u:kn) (Q:Hp->Prop),Inv X h x H s->aA o y->aA i z->aA v u->t o i v H Q ->
  ko (k4 X.prog X.w) X.A (setItem y z u) (λ_ a=>∃k,Inv X h x k a/\Q k) X.xe s
section
variable{X:Cx}{pos:Pos}
section
variable{i:Nat}{x:Str}{e:Expr}{te:TE}
def XZ(i:Nat):TG:=λv h H Q=>Q (h.set i (jr v)) H
theorem zZ(a:X.N.Nodup)(w:X.N[i]?=jr x)(z:Pp X.env.scope x)(k:X.fn x=kf∨X.env.scope.names.lookup x=jr .local):PG X (.Name x pos) (XZ i):=by intro y s f H v u Q I r h;exact QCG (vT I a w z r (λg b=>#[_,H,b,h]) k)
noncomputable def bz(K:QA)(n:Nat)(t:Nz):TG:=λv y H Q=>∃a h,v=.ref a/\CD K H a h/\h.9=n/\t h y H Q
theorem Tk{es:List Expr}{k:Nat}{t:Nz}{n:Nat}(hc:X.calm=kf)(h:jAf X es t)
  (Y:(hE es X.env).9=n:=by rfl) (w:(hE es X.env).findIdx? (·.1)=none:=by rfl):PG X (.Tuple es k pos) (bz X.K n t):=by
 intro y s f H v u Q I r z;let#[a,j,W,q,hl,z]:=z;subst W;cases r;let#[l,g,p,B]:=I.tuple q;refine assign_Tuple_tuple (I.ok.hd hc) p (by simp[Y,<- hl,g.9]) w λZ m=>?_;have A:Inv X y f H { s with heap:=Z }:=I.kept (t':=s.toks) λb o e=>m b o (Qo (QW e)) e;exact h y _ f H j _ Q A (by simpa using g) z
noncomputable def cz(to y:TE)(t:jp):TG:=λv h H Q=>to h H λo w=>y h w λi u=>t o i v u λz=>Q h z
theorem Ak{o i:Expr}{to b:TE}{t:jp}(q:PE X o to)(Y:PE X i b)(hs:jg X t)
  (Z:∀v,ew (.Subscript o i pos) X.env v=(do
   let w <- RD [v] (g6 o X.env)
   let k <- RD [v,w] (g6 i X.env)
   standAt pos
   RD [v,w,k] (setItem w k v)
   release [v,w,k] []):=by intro _;rfl):PG X (.Subscript o i pos) (cz to b t):=by
 intro z s a H v u Q I r h;rw[Z];refine QC (qh (GB (q z s a H _ I h) λw g #[x,E,A,l,p]=>?_));refine QC (qh (GB (Y z g a E _ A p) λk f #[y,C,K,j,n]=>?_));refine QC (QB5 (QC (qh (GB (hs z f a C x y v w k u _ K l j r n) λ_ F #[B,W,m]=>?_))));exact wpAny_release #[a,B,W,m]
def Oj(te:TE)(g:TG):TS:=λD h H=>te h H λx y=>g x h y D.nx
theorem k7{z:Expr}{g:TG}(j:PE X e te)(f:PG X z g)(hs:swapsWithSole [z] e pos.line X.env=sn false:=by rfl)(b:swappedStores [z] e X.env=sn none:=by rfl)
  (l:(hE [z] X.env).map (·.2)=[ew z X.env]:=by rfl):PS X (.Assign [z] e pos) (Oj te g):=by
 intro y s u H D I h;refine wpAny_Assign_stores (GB (j y s u H _ I h) λv w #[x,n,m,k,a]=>?_) hs b;rw[l];exact GB (f y w u n x v _ m k a) λ_ o q=>q
theorem Fk{pos':Pos}(j:X.N.Nodup)(b:X.N[i]?=jr x)(a:Pp X.env.scope x)(g:PE X e te)(hs:b8 e (jr (.Name x pos')) pos.line X.env=sn false:=by rfl)(f:X.fn x=kf∨X.env.scope.names.lookup x=jr .local) :
  PS X (.Assign [.Name x pos'] e pos) (Oj te (XZ i)):=by
 intro z s u H D I h;refine wpAny_Assign_Name (GB (g z s u H _ I h) λv p #[y,n,m,w,k]=>?_) hs;exact vT m j b a w (λo l=>#[_,n,l,k]) f
end
end
section
variable{X:Cx}{pos:Pos}
def E5(c:TT)(tb:TS):TS:=λD h H=>∃W:Nat->St->Hp->Prop,(∃m,W m h H)/\∀m h H,W m h H ->
 c h H λb z=>if b=kf then ∃N:St->Hp->Prop,(∀x u,N x u->∃y,y < m/\W y x u)/\tb { D with nx:=N,ct:=N,bk:=D.nx } h z else D.nx h z
theorem E6{c:Expr}{body:List gi}{tc:TT}{tb:TS}(o:p6 (k4 X.prog X.w) X.A X.env X.xe)(hc:PT X c tc)(hb:lY X body tb):PS X (.While c body [] pos) (E5 tc tb):=by
 intro y s K H D I h;let#[W,#[J,C],k]:=h;refine wpAny_While (codeAny_whileLoop (λn G=>∃u Z,Inv X y u Z G/\W n u Z) ?_ J #[K,H,I,C]);rintro n F ⟨z,Y,L,B⟩;refine wf o (GB (hc y F z Y _ L (k n z Y B)) λb E #[r,q,g]=>?_);cases b with
 |true =>
  let#[N,p,g]:=g;rw[i0 rfl];refine wf o (GB (hb y E z r _ q g) λf M e=>?_);cases f with|next=>let#[x,a,m,j]:=e;let#[l,hm,i]:=p x a j;exact#[l,hm,x,a,m,i]|cont=>let#[x,a,m,j]:=e;let#[l,hm,i]:=p x a j;exact#[l,hm,x,a,m,i]|brk=>exact e|ret v=>exact e
 |false=>rw[ii QG];exact QAC #[z,r,q,g]
end
section
variable{s:ku}{y:Expr}{P:vx}{w:x0}{K:QA}
structure It where
 go:Nat->Hp->Prop
 yld:Nat->Hp->V->Hp->Prop
 stop:Nat->Hp->Prop
def TJ(X:Cx)(h:TB)(H:Hp)(b:k0):Prop :=
 H b=kv/\b≠X.env.locals/\b∉X.fs/\(b∈X.ex∨X.s₀.1.1.size<=b)/\(∀x c,X.env.cells.lookup x=jr c->c≠b)/\∀p∈X.pn++h,p.1≠b
theorem Inv.fpOk{X:Cx}{h:TB}{σ:St}{H u:Hp}{b:k0}(I:Inv X h σ H s)(hb:s.1.1.size<=b)(a:u b=kv):TJ X h u b:=by refine#[a,wy (Qs I.lt hb),I.nofs hb,.inr (QU I.sz hb),λx c e z=>?_,λp k z=>?_];let#[v,q]:=I.cell x c e;exact i2 (Qs q.lt (by rw[z];exact hb)) (qT _);exact i2 (Qs (QW (I.pin p k).1) (by rw[z];exact hb)) (qT _)
structure Turn0(P:vx)(w:x0)(K:QA)(y:Expr)(J:It)(fp:List k0)(it:k0)(tn:Nat->vu->Prop):Prop where
 mem:it∈fp
 obj:∀i h,tn i h->∀b∈fp,∃o,h.get? b=jr o/\∀v,o.data≠.cell v
 keep:∀i h h',tn i h->(∀b∈fp,∀o,h.get? b=jr o->h'.get? b=jr o)->tn i h'
 item:∀(X:Cx),X.prog=P->X.w=w->X.K=K->X.calm=kf->∀(i:Nat) (pins:TB) (s:ku) (σ:St) (H:Hp) (E:uC),Inv X pins σ H s->(∀b∈fp,TJ X pins H b)->tn i s.1->J.go i H ->
  ko (k4 P w) X.A (mm (.ref it)) (λr s1=>∃u,r=jr u /\
   ko (k4 P w) X.A (DC y (.ref it) u) (λ_ s2=>∃x H',Inv X pins σ H' s2/\aA x u/\J.yld i H x H'/\tn (i+1) s2.1/\∀b∈fp,H' b=kv) E s1) E s
 done:∀(X:Cx),X.prog=P->X.w=w->X.K=K->X.calm=kf->∀(i:Nat) (pins:TB) (s:ku) (σ:St) (H:Hp) (E:uC),Inv X pins σ H s->(∀b∈fp,TJ X pins H b)->tn i s.1->J.stop i H ->
  ko (k4 P w) X.A (mm (.ref it)) (λr s1=>r=kv/\Inv X pins σ H s1) E s
structure Turn(P:vx)(w:x0)(K:QA)(y:Expr)(J:It)(fp:List k0)(it:k0)(tn:Nat->vu->Prop):Prop extends Turn0 P w K y J fp it tn where
 self:∀(A:y1) (i:Nat) (s:ku) (Q:uC) (E:uC),tn i s.1->Q (.ref it) s->ko (k4 P w) A (lr (.ref it)) Q E s
noncomputable abbrev TI:=St->Hp->(It->Hp->Prop)->Prop
def Rz(X:Cx)(h:TB)(σ:St)(y:Expr)(R:It->Hp->Prop)(x:kn)(u:ku):Prop :=
 ∃(it:k0) (v:List k0) (tn:Nat->vu->Prop) (J:It) (z:Hp),x=.ref it/\Inv X h σ z u/\Turn X.prog X.w X.K y J v it tn/\tn 0 u.1/\(∀b∈v,TJ X h z b)/\R J z
def PI(X:Cx)(y x:Expr)(u:TI):Prop :=
 ∀(h:TB) (s:ku) (z:St) (H:Hp) (R:It->Hp->Prop),Inv X h z H s->u z H R ->
  ko (k4 X.prog X.w) X.A (g6 x X.env) (λv k=>ko (k4 X.prog X.w) X.A (lr v) (Rz X h z y R) X.xe k) X.xe s
def Pz(X:Cx)(h:TB)(σ:St)(y:Expr)(R:It->Hp->Prop)(x:kn)(u:ku):Prop :=
 ∃(it:k0) (v:List k0) (tn:Nat->vu->Prop) (J:It) (z:Hp),x=.ref it/\Inv X h σ z u/\Turn0 X.prog X.w X.K y J v it tn/\tn 0 u.1/\(∀b∈v,TJ X h z b)/\R J z
def mw(X:Cx)(y x:Expr)(u:TI):Prop :=
 ∀(h:TB) (s:ku) (z:St) (H:Hp) (R:It->Hp->Prop),Inv X h z H s->u z H R ->
  ko (k4 X.prog X.w) X.A (g6 x X.env) (λv k=>ko (k4 X.prog X.w) X.A (lr v) (Pz X h z y R) X.xe k) X.xe s
theorem PI.to0{X:Cx}{z:Expr}{k:TI}(h:PI X y z k):mw X y z k:=λu s a H R I q =>
 wC (h u s a H R I q) (λv m f=>wC f (λb l #[it,g,tn,J,j,e,i,T,r]=>#[it,g,tn,J,j,e,i,T.toTurn0,r]) λ_ _ x=>x) λ_ _ x=>x
theorem go_of{M:Model}{A:y1}{E:uC}{it:k0}{u:kn}{o:Obj}{n:String}{vs:Array kn}{Q:Unit->ku->Prop}(z:s.1.get? it=jr o)(hc:o.cls=.type n)(k:o.data=.fields vs)
    (v:["enumerate","zip","dict_itemiterator","dict_reverseitemiterator","odict_iterator","itertools.zip_longest","itertools.pairwise"].contains n=kb) (x:Q Unit.unit s):ko M A (DC y (.ref it) u) Q E s:=by
  unfold DC;cases y<;>first
    |exact QK x
    | (cases u<;>first
        |exact QK x
        | (refine QC (wpAny_load z ?_)
           rw[hc,k];show ko M A (if(["enumerate","zip","dict_itemiterator","dict_reverseitemiterator","odict_iterator","itertools.zip_longest","itertools.pairwise"].contains n&&vs[0]?==jr (hQ _))=kf then _ else _) Q E s;rw[ii (by intro h;rw[v,QAa]at h;cases h)];exact QK x))
noncomputable def jA0(K:QA)(a:k0):It :=
 #[λi H=>∃h x,rC K H a h/\h[i]?=jr x,λi H x z=>z=H/\∀h,rC K H a h->h[i]?=jr x,λi H=>∃h,rC K H a h/\h.9<=i]
noncomputable def jAy(K:QA)(a:k0):It :=
 #[λi H=>∃h x,CD K H a h/\h[i]?=jr x,λi H x z=>z=H/\∀h,CD K H a h->h[i]?=jr x,λi H=>∃h,CD K H a h/\h.9<=i]
noncomputable def jAC(h:Int)(n:Nat):It:=#[λi _=>i<n,λi H x z=>z=H/\x=.int (h+i),λi _=>n<=i]
theorem N0(a it:k0):Turn P w K y (jA0 K a) [it] it (λi h=>h.IsListIter it a i) where
 mem:=by simp
 obj:=λi h st b hb=>by
  have e:b=it:=by simpa using hb
  subst e;let#[o,e,c,d]:=st;exact#[o,e,λv z=>by rw[d]at z;cases z]
 keep:=λi h m st k=>st.at λo e=>k it (by simp) o e
 item:=by intro X W Y A hc i f s L H E I l st Z;subst W Y A;let#[M,x,j,r]:=Z;let#[q,n,p,Q]:=I.list j;let#[u,S,O]:=n.get r;let#[J,G,f2,F,C,B]:=l it (by simp);refine wpAny_pyNext_list_item st p.isList (x:=u) (by simpa using S) λm g N=>?_;have I1:Inv X f L H { s with heap:=m }:=I.turned (t':=s.toks) (λb o hb e=>(N.2 b hb).trans e) J G F C B;let#[o,e,c,d]:=id g;exact#[u,rfl,go_of (s:={ s with heap:=m }) e c d (by decide) #[x,H,I1,O,#[rfl,λys R=>by rw[I.list_inj R j];exact r],g,λb hb=>(l b hb).1]]
 done:=by intro X W Y A hc i f s L H E I l st Z;subst W Y A;let#[M,j,r]:=Z;let#[q,n,p,Q]:=I.list j;let#[J,G,f2,F,C,B]:=l it (by simp);have hl:=n.9;exact wpAny_pyNext_list_end (I.ok.hd hc) st p.isList (by simp;omega) λm eb=>#[rfl,I.turned (t':=s.toks) (λb o hb e=>eb b o hb e) J G F C B]
 self:=λ_ _ _ _ _ st h=>wpAny_pyIter_listiter st h
theorem SV(a it:k0):Turn P w K y (jAy K a) [it] it (λi h=>h.IsTupleIter it a i) where
 mem:=by simp
 obj:=λi h st b hb=>by
  have e:b=it:=by simpa using hb
  subst e;let#[o,e,c,d]:=st;exact#[o,e,λv z=>by rw[d]at z;cases z]
 keep:=λi h n st k=>st.at λo e=>k it (by simp) o e
 item:=by intro X W Y A hc i f s L H E I m st Z;subst W Y A;let#[M,x,l,r]:=Z;let#[g,q,p,Q]:=I.tuple l;let#[u,S,O]:=q.get r;let#[J,G,f2,F,C,B]:=m it (by simp);refine wpAny_pyNext_tuple_item st (show s.1.IsTuple a g.toArray from p) (x:=u) (by simpa using S) λn j N=>?_;have I1:Inv X f L H { s with heap:=n }:=I.turned (t':=s.toks) (λb o hb e=>(N.2 b hb).trans e) J G F C B;let#[o,e,c,d]:=id j;exact#[u,rfl,go_of (s:={ s with heap:=n }) e c d (by decide) #[x,H,I1,O,#[rfl,λys R=>by rw[I.tuple_inj R l];exact r],j,λb hb=>(m b hb).1]]
 done:=by intro X W Y A hc i f s L H E I m st Z;subst W Y A;let#[M,l,r]:=Z;let#[g,q,p,Q]:=I.tuple l;let#[J,G,f2,F,C,B]:=m it (by simp);have hl:=q.9;exact wpAny_pyNext_tuple_end (I.ok.hd hc) st (show s.1.IsTuple a g.toArray from p) (by simp;omega) λn eb=>#[rfl,I.turned (t':=s.toks) (λb o hb e=>eb b o hb e) J G F C B]
 self:=λ_ _ _ _ _ st h=>wpAny_pyIter_tupleiter st h
theorem TV(it:k0)(a:Int)(n:Nat):Turn P w K y (jAC a n) [it] it (λi h=>IsRangeIter h it (a+(i:Nat) * 1) ((n:Int) - (i:Nat)) 1) where
 mem:=by simp
 obj:=λi h st b hb=>by
  have e:b=it:=by simpa using hb
  subst e;exact#[_,st,λv z=>by have F:Data.fields _=Data.cell v:=z;cases F]
 keep:=λi h g st k=>k it (by simp) _ st
 item:=by intro X m j p hc i x s B H E I f st l;subst m j p;let#[A,Z,J,Y,r,q]:=f it (by simp);have W:=Walks.range (prog:=X.prog) (w:=X.w) (I.ok.hd hc) it a 1 n;refine W.item i s _ _ l st λv g C hv u G=>?_;let#[t,rfl]:=hv;have M:Inv X x B H { s with heap:=g,toks:=C }:=I.turned (λb o hb e=>G b o (by simpa using hb) e) A Z Y r q;refine#[_,rfl,go_of (s:={ s with heap:=g,toks:=C }) (n:="range_iterator") u rfl rfl (by decide) #[.int (a+i),H,M,#[t,?_],#[rfl,rfl],u,λb hb=>(f b hb).1]];rw[Int.mul_one]
 done:=by intro X m j p hc i x s B H E I f st l;subst m j p;let#[A,Z,J,Y,r,q]:=f it (by simp);exact wpAny_pyNext_range_end (I.ok.hd hc) st (by have:n<=i:=l;omega) λg L=>#[rfl,I.turned (t':=s.toks) (λb o hb e=>L b o hb e) A Z Y r q]
 self:=λ_ _ _ _ _ st h=>wpAny_pyIter_rangeiter st h
end
section
variable{X:Cx}{a:Expr}
section
variable{y:TB}{σ:St}{H:Hp}{s:ku}{k:List k0}{h:vu}
theorem L6{R:It->Hp->Prop}{E:uC}{x z:Int}{t u v:Tok}{f:Nat}(I:Inv X y σ H s)(m:-(2 ^ 62)<=x)(l:x<2 ^ 62)(j:-(2 ^ 62)<=z)(i:z<2 ^ 62)
  (q:R (jAC x (z - x).toNat) H):ko (k4 X.prog X.w) X.A (lr (.ref s.1.1.size)) (Rz X y σ a R) E { s with heap:=s.1.push { cls:=.type "range",data:=.fields (Q3 [.int x t,.int z u,.int 1 v]) },toks:=f }:=by
 refine wpAny_pyIter_range (IsRange.new ..) (small_one m l j i) ?_;have g:Inv X y σ H { s with heap:=s.1.push { cls:=.type "range",data:=.fields (Q3 [.int x t,.int z u,.int 1 v]) },toks:=f }:=I.kept λb o e=>QH _ e;refine#[(s.1.push { cls:=.type "range",data:=.fields (Q3 [.int x t,.int z u,.int 1 v]) }).1.size,[(s.1.push { cls:=.type "range",data:=.fields (Q3 [.int x t,.int z u,.int 1 v]) }).1.size],_,_,H,rfl,
  g.kept (t':=f) λb o e=>QH _ e,TV _ x (z - x).toNat,?_,λb hb=>?_,q]
 have p:x+((0:Nat):Int) * 1=x:=by simp
 have n:(((z - x).toNat:Nat):Int) - ((0:Nat):Int)=WU x z 1:=by rw[pd];split<;>omega
 show IsRangeIter _ _ (x+((0:Nat):Int) * 1) ((((z - x).toNat:Nat):Int) - ((0:Nat):Int)) 1;rw[p,n];exact QR _ rfl;have e:b=(s.1.push { cls:=.type "range",data:=.fields (Q3 [.int x t,.int z u,.int 1 v]) }).1.size:=by simpa using hb
 subst e;exact g.fpOk (QT _) (g.hok.fresh (QT _))
def ox(b:TI)(g:TG)(tb:TS):TS:=λD σ H=>b σ H λJ f=>∃W:Nat->Nat->St->Hp->Prop,(∃m,W 0 m σ f)/\∀i m σ H,W i m σ H ->
 (J.stop i H/\D.nx σ H)∨(J.go i H/\∃N:St->Hp->Prop,(∀z u,N z u->∃w,w < m/\W (i+1) w z u)/\∀x u,J.yld i H x u->g x σ u λv e=>tb { D with nx:=N,ct:=N,bk:=D.nx } v e)
noncomputable def uN(k:List k0)(h:vu):TB:=k.filterMap λb=>(h.get? b).map λo=>(b,o)
theorem gF{b:k0}{o:Obj}(hb:b∈k)(e:h.get? b=jr o):(b,o)∈uN k h:=WV.mpr #[b,hb,by rw[e];rfl]
theorem U2{p:k0×Obj}(x:p∈uN k h):p.1∈k/\h.get? p.1=jr p.2:=by
 let#[b,hb,e]:=WV.mp x;cases q:h.get? b with|none=>rw[q]at e;cases e|some o=>rw[q]at e;have z:(b,o)=p:=Qn e;subst z;exact#[hb,q]
theorem Inv.pinned(I:Inv X y σ H s)(f:∀b∈k,TJ X y H b)(w:∀b∈k,∃o,s.1.get? b=jr o/\∀v,o.data≠.cell v):Inv X (y++uN k s.1) σ H s :=
 I.pins_of λp u=>(Qh.mp u).elim (λz=>I.pin p (QY _ z)) λz=>by let#[hb,e]:=U2 z;let#[j,i,g,_]:=f p.1 hb;let#[o,x,d]:=w p.1 hb;rw[e]at x;cases x;exact#[e,j,i,g,d]
theorem Inv.unpinned{x:TB}(I:Inv X (y++x) σ H s):Inv X y σ H s:=I.pins_of λp z=>I.pin p (QY _ (Qm _ z))
theorem Gk{q:Expr}{body:List gi}{wi:TI}{g:TG}{tb:TS}{pos:Pos}(O:p6 (k4 X.prog X.w) X.A X.env X.xe)(hc:X.calm=kf)(hi:mw X a q wi)(hg:PG X a g)(hb:lY X body tb)
  (hs:∀x,hB q X.env x=sn x:=by intro _;rfl):PS X (.For a q body [] pos) (ox wi g tb):=by
 intro y s σ H D I h;refine wpAny_For (GB (hi y s σ H _ I h) λv s1 h1=>GB h1 λitv s2 h2=>?_) hs;let#[it,k,tn,J,H2,e,I2,T,S,f2,W,#[m0,w0],F]:=h2;subst e;have p:∀{B:Hp},(∀b∈k,B b=kv)->∀b∈k,TJ X y B b:=λhn b hb=>#[hn b hb,(f2 b hb).2]
 refine codeAny_forLoop_any (λn s'=>∃i l B,Inv X y l B s'/\tn i s'.1/\(∀b∈k,B b=kv)/\W i n l B) ?_ m0 #[0,σ,H2,I2,S,λb hb=>(f2 b hb).1,w0];rintro n s3 ⟨i,j,Q,I3,L,P,w3⟩;rcases F i n j Q w3 with⟨G,qn⟩| ⟨go,N,hN,step⟩
 refine wf O (GB (T.done X rfl rfl rfl hc i y s3 j Q X.xe I3 (p P) L G) λr s4 #[hr,I4]=>?_);subst hr;exact QAC #[j,Q,I4,qn];refine wf O (GB (T.item X rfl rfl rfl hc i y s3 j Q X.xe I3 (p P) L go) λr s4 #[u,hr,h4]=>?_);subst hr;refine wf O (GB h4 λ_ s5 #[x,H5,I5,r5,y5,E,fr5]=>?_);have I5':=I5.pinned (p fr5) (T.obj _ _ E);refine wf O (GB (hg _ s5 j H5 x u _ I5' r5 (step x H5 y5)) λ_ s6 #[R,H6,I6,q6]=>?_);refine wf O (GB (hb _ s6 R H6 _ I6 q6) λf s7 C=>?_);have Y:∀{z:St}{K:Hp},Inv X (y++uN k s5.1) z K s7->N z K->∃m,m<n/\∃i l B,Inv X y l B s7/\tn i s7.1/\(∀b∈k,B b=kv)/\W i m l B:=λ{z K} Z M=>by let#[m',hm,w7]:=hN z K M;refine#[m',hm,i+1,z,K,Z.unpinned,T.keep _ _ _ E λb hb o e=>(Z.pin (b,o) (QY _ (QY _ (gF hb e)))).1,λb hb=>?_,w7];let#[o,e,d]:=T.obj _ _ E b hb;exact(Z.pin (b,o) (QY _ (QY _ (gF hb e)))).2.1
 cases f with|next=>let#[z,K,Z,M]:=C;exact Y Z M|cont=>let#[z,K,Z,M]:=C;exact Y Z M|brk=>let#[z,K,Z,C]:=C;exact#[z,K,Z.unpinned,C]|ret v=>let#[x7,z,K,Z,r7,C]:=C;exact#[x7,z,K,Z.unpinned,r7,C]
end
end
noncomputable abbrev R2:=V->V->Hp->VK->Prop
def IE(X:Cx)(f:kn->kn->Sem kn)(r:R2):Prop :=
 ∀(h:TB) (s:ku) (z:St) (H:Hp) (x y:V) (v u:kn) (Q:VK),Inv X h z H s->aA x v->aA y u->r x y H Q ->
  ko (k4 X.prog X.w) X.A (f v u) (EP X h z Q) X.xe s
def Lz(X:Cx)(f:kn->Sem kn)(r:V->Hp->VK->Prop):Prop :=
 ∀(h:TB) (s:ku) (y:St) (H:Hp) (x:V) (v:kn) (Q:VK),Inv X h y H s->aA x v->r x H Q ->
  ko (k4 X.prog X.w) X.A (f v) (EP X h y Q) X.xe s
def OC(X:Cx)(f:kn)(r:LV->Hp->VK->Prop):Prop :=
 ∀(h:TB) (s:ku) (x:St) (H:Hp) (y:LV) (z:LW) (Q:VK),Inv X h x H s->lA y z->r y H Q ->
  ko (k4 X.prog X.w) X.A (d3 f z) (EP X h x Q) X.xe s
def Mz(X:Cx)(r:V->Hp->(Bool->Hp->Prop)->Prop):Prop :=
 ∀(h:TB) (s:ku) (y:St) (H:Hp) (x:V) (v:kn) (Q:Bool->Hp->Prop),Inv X h y H s->aA x v->r x H Q ->
  ko (k4 X.prog X.w) X.A (truthy v) (TP X h y Q) X.xe s
noncomputable def Zq(r:R2)(ta tb:TE):TE:=λh H Q=>ta h H λx u=>tb h u λy z=>r x y z Q
noncomputable def jBF(r:V->Hp->VK->Prop)(ta:TE):TE:=λh H Q=>ta h H λx y=>r x y Q
noncomputable def rI(C:Int->Int->Prop)(g:Int->Int->V):R2:=λx y H Q=>∃i j,x=.int i/\y=.int j/\C i j/\Q (g i j) H
noncomputable def Vc(g:Int->Int->V):R2:=λx y H Q=>∃i j,x=.int i/\y=.int j/\Q (g i j) H
def rU(g:Int->V):V->Hp->VK->Prop:=λx H Q=>∃i,x=.int i/\Q (g i) H
section
variable{X:Cx}{a b c:Expr}{ta z tc:TE}{pos:Pos}
section
variable{f:kn->kn->Sem kn}{g:Int->Int->Int}
theorem binT(Z:PE X a ta)(hb:PE X b z){k:TB}{s:ku}{σ:St}{H:Hp}{R:V->V->Hp->Prop}(I:Inv X k σ H s)
  (h:ta σ H λx m=>z σ m λy e=>R x y e) {Q:uC}
  (Y:∀v u l x y e,Inv X k σ e l->aA x v->aA y u->R x y e->ko (k4 X.prog X.w) X.A (f v u) Q X.xe l) :
  ko (k4 X.prog X.w) X.A (g6 a X.env) (λv j=>ko (k4 X.prog X.w) X.A (g6 b X.env) (λu i=>ko (k4 X.prog X.w) X.A (f v u) Q X.xe i) X.xe j) X.xe s:=by
 refine GB (Z k s σ H _ I h) λv n #[x,m,K,p,r]=>?_;refine GB (hb k n σ m _ K r) λu l #[y,e,W,o,q]=>?_;exact Y v u l x y e W p o q
theorem Br{k:g7}{r:R2}(m:IE X (h8 k) r)(n:PE X a ta)(hb:PE X b z):PE X (.BinOp a k b pos) (Zq r ta z):=by intro w s e H Q I h;exact wpAny_BinOp (binT n hb I h λv u i x y p o l j q=>m w i e p x y v u Q o l j q)
theorem Ur{w:RB}{r:V->Hp->VK->Prop}(j:Lz X (unaryOp w) r)(l:PE X a ta):PE X (.UnaryOp w a pos) (jBF r ta):=by intro y s u H Q I h;exact UnaryOp_ (GB (l y s u H _ I h) λv k #[x,n,m,e,i]=>j y k u n x v Q m e i)
theorem jBO{C:Int->Int->Prop}
  (k:∀(i j:Int) (t u:Tok) (s:ku) (Q:uC) (E:uC),C i j->Q (.int (g i j) s.toks) { s with toks:=s.toks+1 }->ko (k4 X.prog X.w) X.A (f (.int i t) (.int j u)) Q E s) :
  IE X f (rI C λi j=>.int (g i j)):=by
 intro e s o H x y v u Q I n m h;let#[i,j,rfl,rfl,hc,q]:=h;let#[t,rfl]:=n;let#[l,rfl]:=m;exact k i j t l s _ _ hc #[.int (g i j),H,I.tok _,#[_,rfl],q]
theorem Nr
  (k:∀(i j:Int) (t u:Tok) (s:ku) (Q:uC) (E:uC),Q (.int (g i j) s.toks) { s with toks:=s.toks+1 }->ko (k4 X.prog X.w) X.A (f (.int i t) (.int j u)) Q E s) :
  IE X f (Vc λi j=>.int (g i j)):=by
 intro e s o H x y v u Q I n m h;let#[i,j,rfl,rfl,q]:=h;let#[t,rfl]:=n;let#[l,rfl]:=m;exact k i j t l s _ _ #[.int (g i j),H,I.tok _,#[_,rfl],q]
theorem Zd{g:Int->Int->Bool}
  (k:∀(i j:Int) (t u:Tok) (s:ku) (Q:uC) (E:uC),Q (.bool (g i j)) s->ko (k4 X.prog X.w) X.A (f (.int i t) (.int j u)) Q E s) :
  IE X f (Vc λi j=>.bl (g i j)):=by
 intro e s o H x y v u Q I n m h;let#[i,j,rfl,rfl,q]:=h;let#[t,rfl]:=n;let#[l,rfl]:=m;exact k i j t l s _ _ #[.bl (g i j),H,I,rfl,q]
def bP(i j:Int):Prop:=(-(2 ^ 64)<i/\i<2 ^ 64)∨(-(2 ^ 64)<j/\j<2 ^ 64)
theorem bP.ok{i j:Int}(h:bP i j):l0 i j:=by
 rcases h with⟨y,x⟩| ⟨y,x⟩
 exact .of_left (pc y x);exact .of_right (pc y x)
theorem op_add:IE X (h8 .Add) (Vc λi j=>.int (i+j)):=Nr λ_ _ _ _ _ _ _ q=>add_int q
theorem op_sub:IE X (h8 .Sub) (Vc λi j=>.int (i - j)):=Nr λ_ _ _ _ _ _ _ q=>sub_int q
theorem op_mod:IE X (h8 .Mod) (rI (λ_ j=>0<j) λi j=>.int (i % j)):=jBO λi j _ _ _ _ _ hc q=>by have h:(0:Int)<j:=hc;exact mod_int' () (by rw[Int.fmod_eq_emod_of_nonneg i ()];exact q)
theorem jBE{f:kn->Sem kn}{g:Int->Int}
  (y:∀(i:Int) (t:Tok) (s:ku) (Q:uC) (E:uC),Q (.int (g i) s.toks) { s with toks:=s.toks+1 }->ko (k4 X.prog X.w) X.A (f (.int i t)) Q E s) :
  Lz X f (rU λi=>.int (g i)):=by
 intro u s e H x v Q I k h;let#[i,rfl,q]:=h;let#[t,rfl]:=k;exact y i t s _ _ #[.int (g i),H,I.tok _,#[_,rfl],q]
theorem Lj:Lz X (unaryOp .USub) (rU λi=>.int (-i)):=jBE λ_ _ _ _ _ q=>neg_int q
end
end
noncomputable def Jc:V->V->Bool
 | .non,.non=>kf | .non,.int _=>kf | .int _,.non=>kf | .non,.bl _=>kf | .bl _,.non=>kf | .non,.str _=>kf | .str _,.non=>kf
 | .int _,.int _=>kf | .bl _,.bl _=>kf | .str _,.str _=>kf | .byt _,.byt _=>kf
 | .int _,.str _=>kf | .str _,.int _=>kf | .bl _,.str _=>kf | .str _,.bl _=>kf
 |_,_=>kb
def rEq:R2:=λx y H Q=>Jc x y=kf/\Q (.bl (decide (x=y))) H
def jBM:R2:=λx y H Q=>Jc x y=kf/\Q (.bl (!decide (x=y))) H
theorem OZ{i j:Int}:decide (V.int i=V.int j)=(i==j):=by rw[Qz];simp
theorem O9{i j:Bool}:decide (V.bl i=V.bl j)=(i==j):=by rw[Qz];simp
theorem NZ{i j:Str}:decide (V.str i=V.str j)=(i==j):=by rw[Qz];simp
theorem PZ{i j:Array UInt8}:decide (V.byt i=V.byt j)=(i.toList==j.toList):=by rw[Qz];cases i;cases j;simp
section
variable{X:Cx}{a b c:Expr}{ta g tc:TE}{pos:Pos}
section
variable{r:R2}{d:fm}{us:LW}
theorem rA{h:TB}{σ:St}{H:Hp}{s:ku}{Q:VK}{k x:Bool}(I:Inv X h σ H s)(q:Q (.bl k) H)(e:k=x):EP X h σ Q (.bool x) s:=by subst e;exact#[.bl k,H,I,rfl,q]
theorem op_eq:IE X (xk .Eq) rEq:=by
 intro e s f H x y v u Q I k z h;let#[hs,q]:=h;cases x with
 |non =>
  cases k;cases y with|non=>cases z;exact PySem.EqNone.eq_none_none (rA I q (by simp))|bl j=>cases z;exact PySem.EqNone.eq_none_bool (rA I q (by simp))|int j=>let#[w,rfl]:=z;exact PySem.EqNone.eq_none_int (rA I q (by simp))|str j=>let#[w,rfl]:=z;exact PySem.EqNone.eq_none_str (rA I q (by simp))|_=>exact i2 (show kb=kf from hs) QG
 |bl i =>
  cases k;cases y with|non=>cases z;exact PySem.EqNone.eq_bool_none (rA I q (by simp))|bl j=>cases z;exact eq_bool (rA I q O9)|str j=>let#[w,rfl]:=z;exact PySem.EqMixed.eq_bool_str (rA I q (by simp))|_=>exact i2 (show kb=kf from hs) QG
 |int i =>
  let#[t,rfl]:=k;cases y with|non=>cases z;exact PySem.EqNone.eq_int_none (rA I q (by simp))|int j=>let#[w,rfl]:=z;exact eq_int (rA I q OZ)|str j=>let#[w,rfl]:=z;exact PySem.EqMixed.eq_int_str (rA I q (by simp))|_=>exact i2 (show kb=kf from hs) QG
 |str i =>
  let#[t,rfl]:=k;cases y with|non=>cases z;exact PySem.EqNone.eq_str_none (rA I q (by simp))|bl j=>cases z;exact PySem.EqMixed.eq_str_bool (rA I q (by simp))|int j=>let#[w,rfl]:=z;exact PySem.EqMixed.eq_str_int (rA I q (by simp))|str j=>let#[w,rfl]:=z;exact eq_str (rA I q NZ)|_=>exact i2 (show kb=kf from hs) QG
 |byt i =>
  let#[t,rfl]:=k;cases y with|byt j=>let#[w,rfl]:=z;exact PySem.W.eq_bytes (rA I q PZ)|_=>exact i2 (show kb=kf from hs) QG
 |_=>cases y<;>exact i2 (show kb=kf from hs) QG
theorem op_ne:IE X (xk .NotEq) jBM:=by
 intro e s f H x y v u Q I k z h;let#[hs,q]:=h;cases x with
 |non =>
  cases k;cases y with|non=>cases z;exact PySem.EqNone.ne_none_none (rA I q (by simp))|bl j=>cases z;exact PySem.EqNone.ne_none_bool (rA I q (by simp))|int j=>let#[w,rfl]:=z;exact PySem.EqNone.ne_none_int (rA I q (by simp))|str j=>let#[w,rfl]:=z;exact PySem.EqNone.ne_none_str (rA I q (by simp))|_=>exact i2 (show kb=kf from hs) QG
 |bl i =>
  cases k;cases y with|non=>cases z;exact PySem.EqNone.ne_bool_none (rA I q (by simp))|bl j=>cases z;exact ne_bool (rA I q (o9 not O9))|str j=>let#[w,rfl]:=z;exact PySem.EqMixed.ne_bool_str (rA I q (by simp))|_=>exact i2 (show kb=kf from hs) QG
 |int i =>
  let#[t,rfl]:=k;cases y with|non=>cases z;exact PySem.EqNone.ne_int_none (rA I q (by simp))|int j=>let#[w,rfl]:=z;exact ne_int (rA I q (o9 not OZ))|str j=>let#[w,rfl]:=z;exact PySem.EqMixed.ne_int_str (rA I q (by simp))|_=>exact i2 (show kb=kf from hs) QG
 |str i =>
  let#[t,rfl]:=k;cases y with|non=>cases z;exact PySem.EqNone.ne_str_none (rA I q (by simp))|bl j=>cases z;exact PySem.EqMixed.ne_str_bool (rA I q (by simp))|int j=>let#[w,rfl]:=z;exact PySem.EqMixed.ne_str_int (rA I q (by simp))|str j=>let#[w,rfl]:=z;exact ne_str (rA I q (o9 not NZ))|_=>exact i2 (show kb=kf from hs) QG
 |byt i =>
  let#[t,rfl]:=k;cases y with|byt j=>let#[w,rfl]:=z;exact PySem.W.ne_bytes (rA I q (o9 not PZ))|_=>exact i2 (show kb=kf from hs) QG
 |_=>cases y<;>exact i2 (show kb=kf from hs) QG
theorem op_lt:IE X (xk .Lt) (Vc λi j=>.bl (decide (i<j))):=Zd λ_ _ _ _ _ _ _ q=>lt_int q
theorem op_le:IE X (xk .LtE) (Vc λi j=>.bl (decide (i<=j))):=Zd λ_ _ _ _ _ _ _ q=>le_int q
theorem op_gt:IE X (xk .Gt) (Vc λi j=>.bl (decide (j<i))):=Zd λ_ _ _ _ _ _ _ q=>gt_int q
theorem op_ge:IE X (xk .GtE) (Vc λi j=>.bl (decide (j<=i))):=Zd λ_ _ _ _ _ _ _ q=>ge_int q
theorem A1:IE X (xk .In) (λx y H Q=>∃i j,x=.str i/\y=.str j/\Q (.bl (!(qF j i 0 j.9 1).isEmpty)) H):=by intro z s e H x y v u Q I k w h;let#[i,j,rfl,rfl,q]:=h;let#[t,rfl]:=k;let#[f,rfl]:=w;exact in_str (rA I q rfl)
theorem Xl:IE X (xk .Is) (λx y H Q=>y=.non/\Q (.bl (decide (x=.non))) H):=by
 intro w s e H x y v u Q I z k h;let#[rfl,q]:=h;cases k;refine is_none_gen (rA I q ?_);cases x<;>first
  | (cases z;rfl)
  | (let#[t,rfl]:=z;rfl)
theorem Jd:IE X (xk .IsNot) (λx y H Q=>y=.non/\Q (.bl (!decide (x=.non))) H):=by
 intro w s e H x y v u Q I z k h;let#[rfl,q]:=h;cases k;refine isnot_none_gen (rA I q ?_);cases x<;>first
  | (cases z;rfl)
  | (let#[t,rfl]:=z;rfl)
theorem gR:IE X (xk .NotIn) (λx y H Q=>∃i j,x=.str i/\y=.str j/\Q (.bl (!(!(qF j i 0 j.9 1).isEmpty))) H):=by intro z s e H x y v u Q I k w h;let#[i,j,rfl,rfl,q]:=h;let#[t,rfl]:=k;let#[f,rfl]:=w;exact notIn_str (rA I q rfl)
theorem IE.or{f:kn->kn->Sem kn}{r':R2}(h:IE X f r)(h':IE X f r'):IE X f (λx y H Q=>r x y H Q∨r' x y H Q):=by intro z s w H x y v u Q I e k q;rcases q with q|q;exact h z s w H x y v u Q I e k q;exact h' z s w H x y v u Q I e k q
theorem yd(i:IE X (xk d) r)(j:PE X a ta)(hb:PE X b g)(hm:lp d b=kb):PE X (.Compare a [d] [b] pos) (Zq r ta g):=by intro z s w H Q I h;exact wpAny_Compare1 (binT j hb I h λv u k x y m l f e q=>i z k w m x y v u Q l f e q) hm
def Jq(t:TE):TT:=λh H Q=>t h H λx y=>∃k,x=.bl k/\Q k y
theorem Dc(Y:IE X (xk d) r)(Z:PE X a ta)(hb:PE X b g)(hm:lp d b=kb):PT X (.Compare a [d] [b] pos) (Jq (Zq r ta g)):=by
 intro w s f H Q I h;refine wpAny_isTrue_Compare1 (GB (Z w s f H _ I h) λv j #[x,E,A,n,q]=>GB (hb w j f E _ A q) λu i #[y,C,K,m,p] =>
  GB (Y w i f C x y v u _ K n m p) λc F #[z,B,W,l,k,e,o]=>?_) hm
 subst e;cases l;exact we #[B,W,o]
def Io(K:QA)(x:V)(H:Hp)(k:Bool):Prop :=
 match x with
 | .non=>k=kb|.bl b=>k=b|.int i=>k=(i != 0)|.str y=>y.9<=kt/\k=((y.9:Int) != 0)|.byt y=>y.size<=kt/\k=((y.size:Int) != 0)|.ref p=>(∃h,rC K H p h/\k=!h.isEmpty)∨(∃h,CD K H p h/\k=!h.isEmpty)∨∃z,H p=jr (.dK z)/\k=!z.isEmpty|_=>False
theorem fX{κ:Type}{kvs:List (κ×V)}{vs:List (κ×kn)}(r:KV kvs vs):(!vs.isEmpty)=!kvs.isEmpty:=by cases r<;>rfl
theorem CN{xs:LV}{its:LW}(r:lA xs its):(!its.toArray.isEmpty)=!xs.isEmpty:=by cases r<;>simp
theorem vI:(kt:Nat)<2 ^ 63:=by rw[qB];decide
theorem A5:Mz X (λx H Q=>∃k,Io X.K x H k/\Q k H):=by
 intro A s F H x v Q I l h;let#[k,e,q]:=h;have hl:=vI;have hs:kt=16777216:=qB;cases x with
 |non=>cases l;have z:k=false:=e;subst z;exact truthy_none #[H,I,q]|bl b=>cases l;have z:k=b:=e;subst z;exact we #[H,I,q]|int i=>let#[t,rfl]:=l;have z:k=(i != 0):=e;subst z;exact PySem.P.truthy_int #[H,I,q]|str y=>let#[t,rfl]:=l;obtain⟨C,z⟩:y.9<=kt/\k=((y.9:Int) != 0):=e;subst z;exact PySem.P.truthy_str () #[H,I.tok _,q]|byt y=>let#[t,rfl]:=l;obtain⟨C,z⟩:y.size<=kt/\k=((y.size:Int) != 0):=e;subst z;exact PySem.W.truthy_bytes () #[H,I.tok _,q]|ref p =>
  cases l;have z:(∃j,rC X.K H p j/\k=!j.isEmpty)∨(∃j,CD X.K H p j/\k=!j.isEmpty)∨∃u,H p=jr (.dK u)/\k=!u.isEmpty:=e;rcases z with⟨j,n,z⟩| ⟨j,n,z⟩| ⟨u,n,z⟩
  subst z;let#[Z,r,Y,B]:=I.list n;have f:=r.9;exact wpAny_truthy_list Y.isList (by simp only[QN];omega) #[H,I.tok _,by rw[CN r];exact q];subst z;let#[Z,r,Y,B]:=I.tuple n;have f:=r.9;exact truthy_tuple Y (by simp only[QN];omega) #[H,I.tok _,by rw[CN r];exact q];subst z;obtain⟨B,E,o,r,m⟩:u.9<=kt/\(p==gV)=kb/\∃o,KV u o/\s.1.DictOf (TD X.prog X.w) p o:=I.hok p _ n;have f:u.9=o.length:=Q6 r;exact wpAny_truthy_dict E m () #[H,I.tok _,by rw[fX r];exact q]
 |_=>exact(show False from e).elim
theorem JW:IE X (h8 .Add) (λx y H Q=>∃i j,x=.str i/\y=.str j/\i.9+j.9<=kt/\Q (.str (i++j)) H):=by intro z s l H x y v u Q I e k h;let#[i,j,rfl,rfl,f,q]:=h;let#[t,rfl]:=e;let#[w,rfl]:=k;exact add_str (λw m=>#[.str (i++j),H,I.tok _,#[_,rfl],q]) f
theorem iI{x:V}(r:lA [x] us):∃u,us=[u]/\aA x u:=by
 cases r with|cons y h=>cases h;exact#[_,rfl,y]
theorem L5{x y:V}(r:lA [x,y] us):∃u h,us=[u,h]/\aA x u/\aA y h:=by
 cases r with
 |cons k w =>
  cases w with|cons v z=>cases z;exact#[_,_,rfl,k,v]
theorem D4(hc:X.calm=kf):OC X (.builtin "min") (λxs H Q=>∃i j,xs=[.int i,.int j]/\Q (.int (if j<i then j else i)) H):=by
 intro y s z H xs us Q I r h;let#[i,j,rfl,q]:=h;let#[u,v,rfl,#[t,rfl],#[e,rfl]]:=L5 r;refine min_two_ints (I.ok.hd hc) λf w k=>#[_,H,I.kept k,?_,q]
 by_cases x:j<i;rw[i0 x,i0 x];exact#[_,rfl];rw[ii x,ii x];exact#[_,rfl]
end
end
section
variable{h:vu}{u:k0}{v:Str->Option kn}
structure ObjM(h:vu)(x u C:k0)(v:Str->Option kn):Prop where
 obj:h.get? x=jr (QBL C u)
 ns:h.Ns1 u v
 ne:u≠x
theorem N3(n:h.Ns1 u v):∃w,h.get? u=jr w/\∀name,QBj name w=jr (v name):=by
 let#[o,k,j,f,g,hk,_,hm]:=n;refine#[o,f,λname=>?_];have e:=hm name;unfold nsFind findBy at e;rw[<- Array.find?_toList]at e;unfold QBj;rw[g];dsimp only;split;rename_i y q;rw[q]at e;exact o9 jr e;rename_i q;rw[q]at e;have a:k.toList.any (·.refKey)=false:=by rw[QCH];intro y b;let#[z,t,x]:=hk y (Array.mem_toList_iff.mp b);simp[DictEntry.refKey,x]
 have i:¬ k.toList.any (·.refKey)=true:=by rw[a];exact QG
 rw[ii i];exact o9 jr e
theorem ObjM.look{x C:k0}(I:ObjM h x u C v):∃y,PySem.W.InstAt h x (QBL C u) C (jr y)/\∀name,QBj name y=jr (v name) :=
 let#[y,z,hl]:=N3 I.ns
 #[y,#[I.obj,rfl,rfl,z],hl]
end
section
variable{P:vx}{w:x0}{H v:Hp}{h h':vu}{a C y:k0}{x u:List (Str×V)}
theorem Te(b:mM P w H h)(e:H a=jr (.ins C y x)):∃k,ObjM h a y C k/\(∀f,eV (x.lookup f) (k f))/\PySem.Within k (x.map (·.1))/\x.9<=1000/\H y=jr (.own a):=by
 let#[d,z,g,ob,k,n,r,q]:=(show DA P w H h a (.ins C y x) from b a _ e)
 exact#[k,#[ob,n,g],r,q,z,d]
end
structure Cls(K:QA)(C:k0):Prop where
 pg:QCb K C Str.empty=kf
 hd:PySem.W.hasDictIn K C=kf
 po:PySem.W.plainOver K C=kf
 sa:PySem.W.findIn K (.ref C) "__setattr__"=jr (jr (.builtin "object.__setattr__"))
theorem Cls.get{K:QA}{C:k0}(c:Cls K C)(f:Str):QCb K C f=true:=c.pg
section
variable{X:Cx}{v:TB}{σ:St}{H:Hp}{s:ku}{A:y1}{E:uC}{Q:uC}{c:kn}{b:Bool}
inductive TyOf(K:QA)(H:Hp):V->kn->Prop where
 |non:TyOf K H .non (.type "NoneType")
 |bl (x:Bool):TyOf K H (.bl x) (.type "bool")
 |int (i:Int):TyOf K H (.int i) (.type "int")
 |str (x:Str):TyOf K H (.str x) (.type "str")
 |flt (x:UInt64):TyOf K H (.flt x) (.type "float")
 |lst {a:k0}{xs:LV}(e:H a=jr (.lst xs)):TyOf K H (.ref a) (.type "list")
 |frz {a:k0}{o:Obj}{xs:LV}(e:H a=jr (.frz o (.lst xs))):TyOf K H (.ref a) (.type "list")
 |tup {a:k0}{xs:LV}(e:H a=jr (.tup xs)):TyOf K H (.ref a) (.type "tuple")
 |dK {a:k0}{kvs:List (Key×V)}(e:H a=jr (.dK kvs)):TyOf K H (.ref a) (.type "dict")
 |dT {a:k0}{ep:Nat}{kvs:List (NK×k0×V)}(e:H a=jr (.dT ep kvs)):TyOf K H (.ref a) (.type "dict")
 |ins {a C dx:k0}{fs:List (Str×V)}(e:H a=jr (.ins C dx fs)) (cl:Cls K C) (ha:PySem.W.findIn K (.ref C) "__class__"=jr (jr (.builtin "object.__class__")))
   (hn:PySem.W.specialIn K (.builtin "object.__class__") "__get__"=jr (jr (.builtin "getset_descriptor.__get__"))) (htk:PySem.W.takesIn K (.builtin "object.__class__")=jr kf)
   (hm:PySem.W.mroIn K C (.type "object")=jr kf):TyOf K H (.ref a) (.ref C)
theorem y4{x:V}{u t:kn}(I:Inv X v σ H s)(k:aA x u)(ty:TyOf X.K H x t)(e:QBk X.K t c=jr b)(h:∀B,Q (.bool b) { s with toks:=B }) :
  ko (k4 X.prog X.w) A (d3 (.builtin "isinstance") [u,c]) Q E s:=by
 cases ty with
 |non=>cases(show u=j2 from k);exact qN PySem.W.kitx_none I.kIn True.intro e (λz=>nomatch z) h
 |bl y=>cases(show u=Value.bool y from k);exact qN PySem.W.kitx_bool I.kIn True.intro e (λz=>nomatch z) h
 |int i=>let#[t,q]:=(show ∃t,u=Value.int i t from k);cases q;exact qN PySem.W.kitx_int I.kIn True.intro e (λz=>nomatch z) h
 |str y=>let#[t,q]:=(show ∃t,u=Value.str y t from k);cases q;exact qN PySem.W.kitx_str I.kIn True.intro e (λz=>nomatch z) h
 |flt y=>let#[t,q]:=(show ∃t,u=Value.float y t from k);cases q;exact qN PySem.W.kitx_float I.kIn True.intro e (λz=>nomatch z) h
 |@lst a l f =>
  cases(show u=kx a from k);let#[_,_,n,_,g]:=(show DA X.prog X.w H s.1 a (.lst l) from I.hok a _ f)
  exact qN QAo I.kIn #[_,g,rfl] e (λz=>nomatch z) h
 |@frz a ob l f =>
  cases(show u=kx a from k);let#[_,_,_,n,_,g]:=(show DA X.prog X.w H s.1 a (.frz ob (.lst l)) from I.hok a _ f)
  exact qN QAo I.kIn #[_,g,rfl] e (λz=>nomatch z) h
 |@tup a l f =>
  cases(show u=kx a from k);let#[_,_,_,p]:=(show DA X.prog X.w H s.1 a (.tup l) from I.hok a _ f)
  let#[o,g,m,_]:=p;exact qN QB6 I.kIn #[o,g,m] e (λz=>nomatch z) h
 |@dK a j f =>
  cases(show u=kx a from k);let#[_,_,M,_,p]:=(show DA X.prog X.w H s.1 a (.dK j) from I.hok a _ f)
  let#[o,L,Y,g,m,_]:=p;exact qN QCI I.kIn #[o,g,m.1] e (λz=>nomatch z) h
 |@dT a Y j f =>
  cases(show u=kx a from k);let#[_,_,l,_,o,L,g,m,_]:=(show DA X.prog X.w H s.1 a (.dT Y j) from I.hok a _ f)
  exact qN QCI I.kIn #[o,g,m.1] e (λz=>nomatch z) h
 |@ins a C R fs f Z G F r hm=>cases(show u=kx a from k);let#[P,O,_]:=Te I.hok f;let#[N,J,_]:=O.look;exact qN (PySem.W.kitx_own (Z.get _) Z.hd G F r hm) I.kIn J e (λz=>nomatch z) h
end
section
variable{k:Nat}{A:y1}
structure Room(k:Nat)(A:y1):Prop where
 hd:A.handled=kv
 dp:A.depth+3 * k+5<dt
 un:A.units+16 * k+200<gp
theorem Room.mono{j:Nat}(r:Room k A)(h:j<=k):Room j A:=#[r.hd,by have:=r.dp;omega,by have:=r.un;omega]
theorem Room.deeper(r:Room (k+1) A)(env:Env):Room k (A.deeper env) :=
 #[r.hd,by have:=r.dp;show A.depth+1+3 * k+5<_;omega,by have:=r.un;show A.units+3+16 * k+200<_;omega]
theorem Room.depth(r:Room k A):A.depth<recursionLimit:=by have:=r.dp;omega
def Kq:TA:=λ_ H Q=>Q [] H
noncomputable def Uq(ta:TE)(z:TA):TA:=λh H Q=>ta h H λx v=>z h v λy u=>Q (x::y) u
end
section
variable{X:Cx}{e:Expr}{es:List Expr}{te:TE}{t:TA}{pos:Pos}
theorem uR:PA X [] Kq:=λ_ _ _ _ H Q I h=>WB #[[],H,I,.nil,h]
theorem vJ(i:PE X e te)(g:PA X es t)(hs:x2 (e::es) X.env=(kb,g6 e X.env)::x2 es X.env:=by rfl):PA X (e::es) (Uq te t):=by intro pos y s z H Q I h;rw[hs];show ko _ _ (lv ((kb,g6 e X.env)::fv pos (x2 es X.env))) _ _ s;refine wR (GB (i y s z H _ I h) λu w #[x,n,l,a,f]=>?_);exact GB (g pos y w z n _ l f) λo p #[v,m,j,k,b]=>#[x::v,m,j,.cons a k,b]
def zx(t:TA):TE:=λy H Q=>t y H λh x=>h.9<=kt/\∀p,x p=kv->Q (.ref p) (FA x p (.tup h))
def gx(t:TA):TE:=λy H Q=>t y H λh x=>h.9<=kt/\∀p,x p=kv->Q (.ref p) (FA x p (.lst h))
theorem Ek{x1}(h:PA X es t):PE X (.Tuple es x1 pos) (zx t):=by intro x s k H Q I g;refine QBp (GB (h pos x s k H _ I g) λf y #[a,w,v,r,z,q]=>#[by rw[<- r.9];exact z,?_]);have i:w y.1.1.size=none:=v.hok.fresh (QT _);refine#[.ref y.1.1.size,FA w y.1.1.size (.tup a),v.laid (t':=y.toks) (λb u e=>QH _ e) (QT _) ?_,rfl,q _ i];exact#[z,f,r,#[_,QR _ rfl,rfl,_,rfl]]
theorem xl(h:PA X es t):PE X (.List es pos) (gx t):=by intro x s k H Q I g;refine wpAny_List_spliced (GB (h pos x s k H _ I g) λf y #[a,w,v,r,z,q]=>#[by rw[<- r.9];exact z,?_]);have i:w y.1.1.size=none:=v.hok.fresh (QT _);refine#[.ref y.1.1.size,FA w y.1.1.size (.lst a),v.laid (t':=y.toks) (λb u e=>QH _ e) (QT _) ?_,rfl,q _ i];exact#[z,f,0,r,QR _ rfl]
end
noncomputable abbrev Sp:=LV->Hp->VK->XK->Prop
noncomputable abbrev ub:=List Env->Hp->ku->XK->kn->ku->Prop
structure Env0(P:vx)(w:x0)(K:QA)(mg:Str->Option kn)(base:vu)(A:y1)(outer:List Env)(s:ku)(H:Hp):Prop where
 frames:A.frames=jr outer
 mod:Mod K mg base
 bs:∀b o,base.get? b=jr o->s.1.get? b=jr o/\H b=kv
 bsz:base.1.size<=s.1.1.size
 funs:s.1.FunFrames base outer
 frf:∀b∈CZ outer,H b=kv
 tb:∀P q,uQ mg base P q->H P=jr (.tbl q)
 hok:mM P w H s.1
 bare:tt s.gens
def CE(outer:List Env)(P:vx)(w:x0)(H:Hp)(s:ku)(Q:VK)(u:kn)(s':ku):Prop :=
 ∃v h,s'.os=s.os/\tt s'.gens/\Un (CZ outer) [] H h s.1 s'.1/\mM P w h s'.1/\aA v u/\Q v h
def CR(h:ub)(outer:List Env)(P:vx)(w:x0)(H:Hp)(s:ku)(Q:VK)(E:XK)(r:Result)(s':ku):Prop :=
 match r with
 | .ok (.ret u)=>CE outer P w H s Q u s'|.ok _=>False|.error e=>h outer H s E e s'
structure FnOk(P:vx)(w:x0)(K:QA)(mg:Str->Option kn)(base:vu)(CX:ub)(k:Nat)(f:k0)(fd:gm)(ps:LS)(sp:Sp):Prop where
 len:∀vs H Q E,sp vs H Q E->vs.9=ps.9
 run:∀(A:y1) (outer:List Env) (s:ku) (H:Hp) (args:Args) (us:LW) (vs:LV) (Q:VK) (E:XK),Room k A->Env0 P w K mg base A outer s H->l4 s fd args (ps.zip us)->lA vs us->sp vs H Q E ->
  mA (k4 P w) A (.call (.ref f) args) (CR CX outer P w H s Q E) s
theorem FnOk.mono{P:vx}{w:x0}{K:QA}{mg:Str->Option kn}{x:vu}{a:ub}{j k:Nat}{f:k0}{v:gm}{u:LS}{z:Sp}(F:FnOk P w K mg x a j f v u z)(h:j<=k) :
  FnOk P w K mg x a k f v u z:=#[F.len,λA y s H args e b Q E g=>F.run A y s H args e b Q E (g.mono h)]
section
variable{X:Cx}{x:TB}{σ:St}{H:Hp}{s s':ku}
theorem Inv.env0(I:Inv X x σ H s):Env0 X.prog X.w X.K X.mg X.base X.A X.stack s H :=
 #[I.ok.frames,I.ok.mod,I.bs,QU I.ok.bsz I.sz,I.stack,I.stkFree,I.tb,I.hok,I.bare]
theorem Inv.after{Q:VK}{u:kn}(I:Inv X x σ H s)(h:CE X.stack X.prog X.w H s Q u s'):EP X x σ Q u s':=by let#[v,f,a,bare,un,k,r,q]:=h;let#[e,g,d,t,y]:=s';obtain rfl:y=s.os:=a;exact#[v,f,I.call (h':=e) (g':=g) (d':=d) (t':=t) (ch:=[]) un k bare (λb z=>i2 z (by simp)),r,q]
end
noncomputable def Yg(z:Sp)(h:LV)(E:XK)(t:TA):TE:=λx H Q=>t x H λy u=>z (y++h) u Q E
def OH(K:QA)(y:gm)(x:LS)(ds:LW):Prop :=
 ∀(s:ku) (h:LW),K.In s.1->(h++ds).9=x.9->l4 s y #[h,[]] (x.zip (h++ds))
theorem OH.all{K:QA}{y:gm}{x:LS}(h:∀us:LW,us.9=x.9->c0 y #[us,[]]=sn (x.zip us)):OH K y x []:=λs us _ hl=>by rw[Qy]at hl ⊢;exact .of_eq (h us hl)
def fO(z:ub)(X:Cx)(E:XK):Prop:=∀(h:TB) (y:St) (H:Hp) (s:ku) (e:kn) (x:ku),Inv X h y H s->z X.stack H s E e x->X.xe e x
section
variable{X:Cx}{b:ub}{k:Nat}{f C:k0}{a:gm}{z:LS}{v:Sp}{y:LV}{ds:LW}{E:XK}{x m:Str}{p pos apos:Pos}{e o:Expr}{es:List Expr}{ta:TE}{t:TA}
theorem X6{g:TB}{σ:St}{H:Hp}{s:ku}{Q:VK}{us:LW}{vs:LV}(F:FnOk X.prog X.w X.K X.mg X.base b k f a z v)(q:Room k X.A)(hb:OH X.K a z ds)(Y:lA y ds)(n:fO b X E)
  (I:Inv X g σ H s) (r:lA vs us) (h:v (vs++y) H Q E):ko (k4 X.prog X.w) X.A (d3 (.ref f) us) (EP X g σ Q) X.xe s:=by
 have j:lA (vs++y) (us++ds):=r.append Y;have hl:(us++ds).9=z.length:=by rw[<- j.9];exact F.len _ _ _ _ h
 refine wpAny_call (QCV (F.run X.A X.stack s H #[us,[]] (us++ds) (vs++y) Q E q I.env0 (hb s us I.kIn hl) j h) λr l i=>?_);cases r with
 |error e=>exact n g σ H s e l I i|ok fl =>
  cases fl with|ret u=>exact I.after i|next=>exact Qd i|brk=>exact Qd i|cont=>exact Qd i
theorem zd(F:FnOk X.prog X.w X.K X.mg X.base b k f a z v)(Y:Room k X.A)(Z:Gl X x)(hm:X.mg x=jr (.ref f))(hk:wW X.K (.ref f)=kf)(hb:OH X.K a z ds)(G:lA y ds)(n:fO b X E)
  (J:PA X (e::es) t) (i:(x==("__debug__":Str))=false:=by decide) (B:x2 (e::es) X.env=(kb,g6 e X.env)::x2 es X.env:=by rfl) (g:(fv pos (x2 es X.env)).any (·.1)=false:=by rfl) :
  PE X (.Call (.Name x p) (e::es) [] pos) (Yg v y E t):=by
 intro u s l H Q I h;refine wE (LR I Z hm ?_ i);refine PySem.W.callWith_K (h₀:=X.base) I.ok.mod.kin hk (GB (J pos u s l H _ I h) λM N #[L,O,j,r,q]=>#[j.kIn,?_]) B g;exact X6 F Y hb G n j r q
theorem i7(F:FnOk X.prog X.w X.K X.mg X.base b k f a z v)(j:Room k X.A)(l:Gl X x)(hm:X.mg x=jr (.ref f))(hk:wW X.K (.ref f)=kf)(hb:OH X.K a z ds)(n:lA y ds)(i:fO b X E)
  (u:(x==("__debug__":Str))=false:=by decide):PE X (.Call (.Name x p) [] [] pos) (Yg v y E Kq):=by
 intro g s q H Q I h;refine wE (LR I l hm ?_ u);exact PySem.W.callWith_K0 I.kIn hk (X6 (us:=[]) F j hb n i I .nil h)
end
section
variable{X:Cx}{c:ub}{k:Nat}{f C:k0}{b:gm}{v ks:LS}{u:Sp}{E:XK}{x m:Str}{p pos apos h:Pos}{e o:Expr}{es:List Expr}{y:List lb}{te ta:TE}{t z:TA}{w:Option Str}
variable{g:LW->LW->LW}{a:LV->LV->LV}
end
section
variable{l:ub}{P:vx}{w:x0}{mg:Str->Option kn}{base:vu}{j:LS}{g:Str}{d:hZ}{f:k0}
structure FnScope(N P:LS)(sc:hZ):Prop where
 kind:sc.kind=.function
 co:sc.isCoroutine=kb
 gen:sc.isGenerator=kb
 nd:N.Nodup
 pre:N.take P.9=P
 par:∀x∈P,sc.names.lookup x=jr .local∨sc.names.lookup x=jr .cell
 nofree:∀y∈sc.names,y.2≠.free
theorem jQ{y:Str->Option fb}{x:Str}:∀{binds:List (Str×kn)}{m:Str->Option kn},(∀v,(x,v)∉binds)->mi y binds m x=m x
 |[],_,_=>rfl|(n,v)::r,m,h=>by
  unfold mi;rw[jQ λw z=>h w (QE _ z)];split;have:x≠n:=by rintro rfl;exact h v QF
  simp[this];rfl
theorem zQ{y:Str->Option fb}{x:Str}:∀{binds:List (Str×kn)}{m:Str->Option kn},(∀v,(x,v)∉binds)->nj y binds m x=m x
 |[],_,_=>rfl|(n,v)::r,m,h=>by
  unfold nj;rw[zQ λw z=>h w (QE _ z)];split;rfl;have:x≠n:=by rintro rfl;exact h v QF
  simp[this]
theorem yQ{y:Str->Option fb}{x:Str}{v:kn}:∀{P:LS}{vs:LW}{i:Nat}{m:Str->Option kn},P.Nodup->P[i]?=jr x->vs[i]?=jr v->y x=jr .local ->
  mi y (P.zip vs) m x=jr v
 |[],_,_,_,_,h,_,_=>by simp at h|_::_,[],_,_,_,_,h,_=>by simp at h|p::P,w::vs,0,m,nd,h1,h2,hk=>by simp at h1 h2;subst h1;subst h2;show mi y ((p,w)::P.zip vs) m p=_;unfold mi;rw[jQ λv hv=>(Qk.mp nd).1 (QBM hv).1,i0 hk];simp|p::P,w::vs,i+1,m,nd,h1,h2,hk=>by show mi y ((p,w)::P.zip vs) m x=_;unfold mi;exact yQ (i:=i) (Qk.mp nd).2 (by simpa using h1) (by simpa using h2) hk
theorem kQ{y:Str->Option fb}{x:Str}{v:kn}:∀{P:LS}{vs:LW}{i:Nat}{m:Str->Option kn},P.Nodup->P[i]?=jr x->vs[i]?=jr v->y x≠jr .local ->
  nj y (P.zip vs) m x=jr v
 |[],_,_,_,_,h,_,_=>by simp at h|_::_,[],_,_,_,_,h,_=>by simp at h|p::P,w::vs,0,m,nd,h1,h2,hk=>by simp at h1 h2;subst h1;subst h2;show nj y ((p,w)::P.zip vs) m p=_;unfold nj;rw[zQ λv hv=>(Qk.mp nd).1 (QBM hv).1,ii hk];simp|p::P,w::vs,i+1,m,nd,h1,h2,hk=>by show nj y ((p,w)::P.zip vs) m x=_;unfold nj;exact kQ (i:=i) (Qk.mp nd).2 (by simpa using h1) (by simpa using h2) hk
noncomputable def mD(N:LS)(vs:LV):St:=vs.map jr++QAd (N.9 - vs.9) kv
noncomputable def ZX(l:ub)(P:vx)(w:x0)(K:QA)(mg:Str->Option kn)(base:vu)(N:LS)(g:Str)(d:hZ)(f:k0)(x:kn)(A:y1)(outer:List Env)(s:ku)(H:Hp)(E:XK):Cx where
 prog:=P
 w:=w
 K:=K
 mg:=mg
 base:=base
 A:=A.deeper (ti g d s.1.1.size f x)
 N:=N
 s₀:=s
 H₀:=H
 env:=ti g d s.1.1.size f x
 outer:=outer
 stack:=ti g d s.1.1.size f x::outer
 ex:=[]
 calm:=kf
 fn:=λ_=>kf
 pn:=[]
 xe:=λe y=>ko (k4 P w) (A.deeper (ti g d s.1.1.size f x)) (leaving (ti g d s.1.1.size f x) e) (λ_ h=>l outer H s E e h) (λz h=>l outer H s E z h) y
theorem SU{sc:hZ}{n:Nat}{x:Str}(h:sc.names.lookup x=jr .cell):∃c,(p7 n sc.names []).lookup x=jr c:=by have q:=QBC sc.names n [] (.inl h);exact Option.isSome_iff_exists.mp q
theorem v4{K:QA}{N:LS}{F:kn}{A:y1}{outer:List Env}{s G:ku}{H:Hp}{E:XK}{us:LW}{vs:LV}
  (S:FnScope N j d) (M:A.handled=kv) (o:Env0 P w K mg base A outer s H) (hl:vs.9=j.9) (r:lA vs us)
  (x:InCallC s s.1.1.size (mi (ti g d s.1.1.size f F).kindOf (j.zip us) λ_=>kv) (p7 (s.1.1.size+1) d.names []) (nj (ti g d s.1.1.size f F).kindOf (j.zip us) λ_=>kv) G) :
  Inv (ZX l P w K mg base N g d f F A outer s H E) [] (mD N vs) H G:=by
 have L:j.9<=N.length:=by have:=o9 qQ S.pre;rw[qI]at this;omega
 let#[C,Q,rfl,hk]:=x.done;have X:∀b:k0,b∉(ZX l P w K mg base N g d f F A outer s H E).ex:=λb z=>i2 (show b∈([]:List k0) from z) (by simp);refine#[#[o.mod,S.kind,rfl,rfl,QT _,λy z c C m=>?_,λy Y=>?_,λy c _ h=>?_,λ_=>M,Around.frames_deeper o.frames,.inr #[rfl,rfl],λb z=>i2 z (X b),o.bs,o.bsz,λb _ _=>X b,λb z=>i2 z (X b),o.funs,o.frf,o.tb],
  rfl,o.bare,Un.kept hk,#[_,x.toInCall.ns,λi y v C m R=>?_],λy c h=>#[_,x.cell y c h],o.hok.fresh (QT _),λy c h=>?_,λp W=>i2 (show p∈([]:TB) from W) (by simp),o.hok.kept hk,?_]
 exact name_of_addr x.apart (qR C) (qR m);have Y:d.names.lookup y=jr .cell∨d.names.lookup y=jr .free:=Y;rcases Y with Y|Y;exact SU Y;exact i2 rfl (S.nofree _ (qR Y));exact QAT (x.above y c (qR h));have B:i<vs.length:=by unfold mD at m;by_cases B:i<vs.9;exact B;rw[Qx (by simpa using B)]at m;rw[wt]at m;split at m<;>cases m
 have O:vs[i]?=jr v:=by
  unfold mD at m;rw[qP (by simpa using B),QX]at m;cases e:vs[i]? with|none=>rw[e]at m;cases m|some a=>rw[e]at m;cases m;rfl
 let#[u,I,J]:=r.get O;have W:j[i]?=jr y:=by rw[<- S.pre,List.getElem?_take_of_lt ()];exact C
 have Z:j.Nodup:=by rw[<- S.pre];exact S.nd.sublist (List.take_sublist _ _)
 refine#[u,J,?_];rcases S.par y (qW W) with k|k;exact .inl #[k,yQ Z W I k];let#[c,e]:=SU (n:=s.1.1.size+1) k;refine .inr #[.inl k,c,e,?_];have q:=x.cell y c e;rw[kQ Z W I (by show d.names.lookup y≠_;rw[k];decide)]at q;exact q;exact o.hok.fresh (QAT (x.above y c (qR h)));unfold mD;show _=N.9;rw[QI,QD,wA];omega
theorem eh{K:QA}{k:Nat}{name:Str}{z:p5}{body:List gi}{dV kV Z pm h ct oc:kn}{an od:Option k0}
  {G:Array (Option kn)}{N:LS}{B:Sp}(lk:K.lookup f=jr #[oc,od,.func (qk name g z body d dV kV Z pm an h ct),G]) (O:Wm K h g=kf) (S:FnScope N j d)
  (len:∀vs H Q E,B vs H Q E->vs.9=j.9)
  (p:∀(A:y1) (outer:List Env) (s:ku) (H:Hp) (vs:LV) (Q:VK) (E:XK),Room k (A.deeper (ti g d s.1.1.size f h))->B vs H Q E ->
   ∃t,lY (ZX l P w K mg base N g d f h A outer s H E) body t/\t { nx:=λ_ i=>Q .non i,rt:=Q } (mD N vs) H) :
  FnOk P w K mg base l (k+1) f (qk name g z body d dV kV Z pm an h ct) j B:=by
 refine#[len,λA outer s H args us vs Q E M Y hb r X=>?_];have hl:=len _ _ _ _ X;have KX:K.In s.heap:=Y.mod.kin.keeps λb o e=>(Y.bs b o e).1;have L:s.1.NoLimit:=Y.mod.nolimit.keeps λb o e=>(Y.bs b o e).1;have m:∀y∈j.zip us,d.names.lookup y.1=jr .local∨(d.names.lookup y.1=jr .cell/\((p7 (s.1.1.size+1) d.names []).lookup y.1).isSome=kf):=λ#[n,v] hy=>by rcases S.par n (QBM hy).1 with q|q;exact .inl q;exact .inr #[q,QBC _ _ _ (.inl q)]
 refine codeAny_call_function M.depth (KX _ _ lk) rfl S.co S.gen rfl (PySem.W.codeRec_of KX O) (hb _ _ _ _ ?_);refine wpAny_newFunctionEnv_cells S.kind m λenv he R x=>?_;subst he;refine#[L.keeps x.toInCall.keep,codeAny_func ?_];let#[t,ht,hq]:=p A outer s H vs Q E (M.deeper _) X;have I:Inv (ZX l P w K mg base N g d f h A outer s H E) [] (mD N vs) H R:=v4 S M.hd Y hl r x;refine wC (ht [] R (mD N vs) H _ I hq) (λfl C hs=>?_) λe C hs=>hs;have fin:∀{a:St}{i:Hp}{v:V}{u:kn},Inv (ZX l P w K mg base N g d f h A outer s H E) [] a i C->aA v u->Q v i->CE outer P w H s Q u C :=
  λ{a i v u} J F q=>#[v,i,J.os,J.bare,J.base,J.hok,F,q]
 cases fl with|ret u=>let#[v,a,i,J,F,q]:=hs;exact fin J F q|next=>let#[a,i,J,q]:=hs;exact fin (v:=V.non) (u:=j2) J rfl q|brk=>let#[_,_,_,q]:=hs;exact Qd q|cont=>let#[_,_,_,q]:=hs;exact Qd q
end
section
variable{X:Cx}{x:Str}{p pos:Pos}{e:Expr}{es:List Expr}{t:TA}{y T:String}{r:LV->Hp->VK->Prop}
noncomputable def jAL(r:LV->Hp->VK->Prop)(t:TA):TE:=λh H Q=>t h H λz u=>r z u Q
theorem bN(hc:OC X (.builtin y) r)(j:Gl X x)(hm:X.mg x=kv)(hv:gl x=jr (.builtin y))(m:PA X (e::es) t)(i:x≠"__name__":=by decide)(v:(x==("__debug__":Str))=false:=by decide)
  (l:x2 (e::es) X.env=(kb,g6 e X.env)::x2 es X.env:=by rfl) (u:(fv pos (x2 es X.env)).any (·.1)=false:=by rfl):PE X (.Call (.Name x p) (e::es) [] pos) (jAL r t):=by
 intro z s w H Q I h;refine wE (gE I j hm hv ?_ i v);exact PyProof.Rows.callWith_builtin1 (GB (m pos z s w H _ I h) λa b #[k,o,n,f,g]=>hc z b w o k a Q n f g) l u
theorem O1(hc:OC X (.type T) r)(j:Gl X x)(hm:X.mg x=kv)(hv:gl x=jr (.type T))(m:PA X (e::es) t)(i:x≠"__name__":=by decide)(v:(x==("__debug__":Str))=false:=by decide)
  (l:x2 (e::es) X.env=(kb,g6 e X.env)::x2 es X.env:=by rfl) (u:(fv pos (x2 es X.env)).any (·.1)=false:=by rfl):PE X (.Call (.Name x p) (e::es) [] pos) (jAL r t):=by
 intro z s w H Q I h;refine wE (gE I j hm hv ?_ i v);exact qS (GB (m pos z s w H _ I h) λa b #[k,o,n,f,g]=>hc z b w o k a Q n f g) l u
end
end L2
namespace HT
open PySem PyProof.Rows
section
open PySem.SeqAt
open PySem.AutoSeq1 (wpAny_loadPart')
open PySem.MeetsSeq PySem.MeetsSeq2 PySem.MeetsSeq3
end
section
variable{prog:vx}{w:x0}{A:y1}{E:uC}{s:ku}
section
variable{sl:k0}{a u:kn}{y z:Option Int}
noncomputable def sIx(n d:Nat):Option Int->Nat
 |none=>d|some v=>if v<0 then(v+(n:Int)).toNat else min v.toNat n
theorem Yk(n d:Nat)(h:d<=n)(o:Option Int):sIx n d o<=n:=by
 cases o with|none=>exact h|some v=>show(if v<0 then(v+(n:Int)).toNat else min v.toNat n)<=n;by_cases hv:v<0;rw[i0 hv];omega;rw[ii hv];exact WI _ _
theorem TZ(v:Int)(n d:Nat):(if v<0 then max (v+(n:Int)) 0 else min v (n:Int))=((sIx n d (jr v):Nat):Int):=by show(if v<0 then max (v+(n:Int)) 0 else min v (n:Int))=(((if v<0 then(v+(n:Int)).toNat else min v.toNat n):Nat):Int);by_cases hv:v<0;simp only[i0 hv];omega;simp only[ii hv];omega
theorem fY(y z:Option Int)(n:Nat):WG y z 1 (n:Int)=(((sIx n 0 y:Nat):Int),((sIx n n z:Nat):Int)):=by
 have h:¬ ((1:Int)<0):=()
 unfold WG;simp only[h,if_false];refine QCi ?_ ?_;cases y with|none=>rfl|some v=>exact TZ v n 0
 cases z with|none=>rfl|some v=>exact TZ v n n
theorem tW(i j:Nat):wX (i:Int) (j:Int) 1=j - i:=by
 unfold wX;have h:(1:Int) > 0:=()
 simp only[h,if_true,Int.ediv_one];split<;>omega
theorem CM{v:kn}{o:Option Int}{Q:Option Int->ku->Prop}(p:la v o)(h:Q o s):ko (k4 prog w) A (Builtin.Slice.slicePartIndex v) Q E s:=by
 cases p with|none=>exact ab h|int i t=>exact slicePart_int h
theorem xK{n:Nat}{Q:Int×Int×Nat->ku->Prop}(hs:s.1.IsSliceOf sl a u .none)(e:la a y)(b:la u z)
  (h:Q (((sIx n 0 y:Nat):Int),1,sIx n n z - sIx n 0 y) s):ko (k4 prog w) A (QAP (.ref sl) (sn (n:Int))) Q E s:=by
 let#[g,v,f,k]:=id hs;unfold QAP Builtin.Slice.sliceFields;refine QC (QC (wY v k (x:=a) rfl (QC (wY v k (x:=u) rfl (QC (wY v k (x:=.none) rfl (QK ?_)))))));refine QC (ab ?_);show ko _ _ (if((1:Int)==0)=kf then _ else _) _ _ s;rw[ii (by decide)];refine QC (CM e (QC (CM b (QC (QK ?_)))));show ko _ _ (match WG y z 1 (n:Int) with | (y,z)=>sn (y,(1:Int),wX y z 1)) _ _ s;rw[fY y z n];show ko _ _ (sn (((sIx n 0 y:Nat):Int),(1:Int),wX ((sIx n 0 y:Nat):Int) ((sIx n n z:Nat):Int) 1)) _ _ s;rw[tW];exact QK h
theorem b7(xs:Array kn)(i k:Nat):((Qj k).filterMap λ(m:Nat)=>xs[((i:Int)+(m:Int) * 1).toNat]?).toArray=((xs.toList.drop i).take k).toArray:=by
 have e:(λ(m:Nat)=>xs[((i:Int)+(m:Int) * 1).toNat]?)=λm=>xs[i+m]?:=by
  funext m;have:((i:Int)+(m:Int) * 1).toNat=i+m:=()
  rw[this]
 rw[e];have:=pick_run xs i k;rw[List.filterMap_map]at this;have h:((λx=>xs[x]?)∘λx=>i+x)=λm=>xs[i+m]?:=rfl;rw[h]at this;rw[this]
theorem getItem_tuple_cut{t:k0}{x:Array kn}{Q:uC}(k:a8 s.1 t x)(hs:s.1.IsSliceOf sl a u .none)(j:la a y)(i:la u z)
  (n:¬ (sIx x.size 0 y=0/\sIx x.size x.size z=x.size))
  (h:Q (.ref s.1.1.size) { s with heap:=s.1.push { cls:=.type "tuple",data:=.seq ((x.toList.drop (sIx x.size 0 y)).take (sIx x.size x.size z - sIx x.size 0 y)).toArray } })
  (hsz:x.size<=kt):ko (k4 prog w) A (l5 (.ref t) (.ref sl)) Q E s:=by
 have v:sizeOk (.seq ((x.toList.drop (sIx x.size 0 y)).take (sIx x.size x.size z - sIx x.size 0 y)).toArray):=by show((x.toList.drop (sIx x.size 0 y)).take (sIx x.size x.size z - sIx x.size 0 y)).toArray.size<=kt;rw[QN,qI,Wu,Qp];omega
 have X:sIx x.size x.size z<=x.size:=Yk _ _ (QT _) z;let#[l,b,f,o]:=id hs;have g:s.TypeIs (.ref sl) "slice":=#[l,b,f]
 unfold l5
 try with_reducible refine qh ?_
 first|refine QC (QK ?_)|skip
 refine QC (wpAny_sequenceKey k.typeIs (by decide) ?_);refine QC (qU (name:=QV "__getitem__") k.typeIs wg
  (qO wg k.typeIs entry_tuple_getitem ?_ (args_tuple_getitem _ _)))
 show ko _ _ (QAN (.ref t) >>= _) _ _ s;refine QC (tupleItemsOf_ k ?_);refine QC (QBN g ?_);rw[i0 (by decide)];refine QC (xK hs j i ?_);have e:¬ ((((sIx x.size 0 y:Nat):Int)==0&&(1:Int)==1&&(sIx x.size x.size z - sIx x.size 0 y)==x.size)=kf):=by intro q;rw[Qa,Qa]at q;have r:((sIx x.size 0 y:Nat):Int)=0:=qY q.1.1;have p:sIx x.size x.size z - sIx x.size 0 y=x.size:=qY q.2;exact n #[(),()]
 show ko _ _ (if(((sIx x.size 0 y:Nat):Int)==0&&(1:Int)==1&&(sIx x.size x.size z - sIx x.size 0 y)==x.size)=kf then _ else _) _ _ s;rw[ii e,b7];first
  |exact QC (m:=wj _) (Q2 (QK #[_,rfl,QK h]) v)
  |exact QC (m:=wj _) (Q2 (QC (QK (QK #[_,rfl,QK h]))) v)
  |exact QC (QC (m:=wj _) (Q2 (QK (QK #[_,rfl,QK h])) v))
  |exact QC (QC (m:=wj _) (Q2 (QK #[_,rfl,QK h]) v))
end
end
end HT
namespace L2
open PySem PySem.Spec PyProof.Rows
noncomputable abbrev TO:=St->Hp->(Option Int->Hp->Prop)->Prop
def PO(X:Cx)(e:Option Expr)(t:TO):Prop :=
 ∀(h:TB) (s:ku) (x:St) (H:Hp) (Q:Option Int->Hp->Prop),Inv X h x H s->t x H Q ->
  ko (k4 X.prog X.w) X.A (evalPart e X.env) (λu z=>∃o y,Inv X h x y z/\la u o/\Q o y) X.xe s
def kc:TO:=λ_ H Q=>Q kv H
noncomputable def Yq(t:TE):TO:=λh H Q=>t h H λx y=>∃i,x=.int i/\Q (jr i) y
theorem gX{ns:LJ}:∀{us:LW},lA (ns.map V.int) us->u0 us ns:=by
 induction ns with
 |nil=>intro us r;rw[wT]at r;cases r;exact .nil|cons n ns y =>
  intro us r;rw[QS]at r;cases r with|cons x h=>let#[t,e]:=x;subst e;exact .cons n t (y h)
section
variable{X:Cx}{e:Expr}{te:TE}{y z:Option Expr}{k c:TO}{pos p2:Pos}
theorem Lc:PO X kv kc:=by intro x s u H Q I h;rw[pL];exact QK #[kv,H,I,.none,h]
theorem Hc(h:PE X e te):PO X (jr e) (Yq te):=by intro v s w H Q I f;rw[evalPart_some];refine GB (h v s w H _ I f) λu l #[x,j,g,a,b]=>?_;let#[i,rfl,q]:=b;let#[t,rfl]:=a;exact#[jr i,j,g,.int i t,q]
def Vi(X:Cx)(r:V->Option Int->Option Int->Hp->VK->Prop):Prop :=
 ∀(h:TB) (s:ku) (u:St) (H:Hp) (x:V) (v b a:kn) (y z:Option Int) (f:k0) (Q:VK),Inv X h u H s->aA x v->s.1.IsSliceOf f b a .none->la b y->la a z->r x y z H Q ->
  ∃T id,nc (.type T) "__getitem__"=sn (jr (.builtin id))/\s.TypeIs v T/\ko (k4 X.prog X.w) X.A (l5 v (.ref f)) (EP X h u Q) X.xe s
theorem Vi.or{r r':V->Option Int->Option Int->Hp->VK->Prop}(h:Vi X r)(h':Vi X r'):Vi X (λx y z H Q=>r x y z H Q∨r' x y z H Q):=by intro u s w H x v b a y z f Q I g hs j i q;rcases q with q|q;exact h u s w H x v b a y z f Q I g hs j i q;exact h' u s w H x v b a y z f Q I g hs j i q
noncomputable def jBG(r:V->Option Int->Option Int->Hp->VK->Prop)(te:TE)(k c:TO):TE:=λh H Q=>te h H λx a=>k h a λl w=>c h w λu v=>r x l u v Q
theorem f7{r:V->Option Int->Option Int->Hp->VK->Prop}(F:Vi X r)(J:PE X e te)(hl:PO X y k)(C:PO X z c):PE X (.Subscript e (.Slice y z kv p2) pos) (jBG r te k c):=by intro a s g H Q I h;refine QCJ (GB (J a s g H _ I h) λv o #[x,S,P,p,W]=>?_);refine wpAny_Slice (GB (hl a o g S _ P W) λj n #[l,R,O,B,Z]=>GB (C a n g R _ O Z) λi f #[u,m,N,K,Y]=>?_);rw[pL];refine QK ?_;have M:Inv X a g m { f with heap:=f.1.push { cls:=.type "slice",data:=.fields (Q3 [j,i,.none]) } }:=N.kept (t':=f.toks) λb ob q=>QH _ q;let#[T,id,L,E,G]:=F a { f with heap:=f.1.push { cls:=.type "slice",data:=.fields (Q3 [j,i,.none]) } } g m x v j i l u f.1.1.size Q M p (Heap.IsSliceOf.new ..) B K Y;show ko (k4 X.prog X.w) X.A (t3 e (.Slice y z kv p2) v (.ref f.1.1.size)) (EP X a g Q) X.xe { f with heap:=f.1.push { cls:=.type "slice",data:=.fields (Q3 [j,i,.none]) } };exact tail_any (ops:=[.ref f.1.1.size,v]) E L G (by with_unfolding_all rfl)
noncomputable def NU(xs:LV)(y z:Option Int):LV:=(xs.drop (HT.sIx xs.9 0 y)).take (HT.sIx xs.9 xs.9 z - HT.sIx xs.9 0 y)
theorem iL(xs:LV)(y z:Option Int):(NU xs y z).9<=xs.length:=by unfold NU;rw[qI,Wu];omega
def yr(K:QA):V->Option Int->Option Int->Hp->VK->Prop:=λx y z H Q=>∃a h,x=.ref a/\CD K H a h /\
 ¬ (HT.sIx h.9 0 y=0/\HT.sIx h.9 h.9 z=h.9)/\∀p,H p=kv->Q (.ref p) (FA H p (.tup (NU h y z)))
theorem uk:Vi X (yr X.K):=by
 intro g s Z H x v A W y z B Q I l hs n m h;let#[a,w,rfl,p,Y,q]:=h;cases l;let#[f,r,j,i]:=I.tuple p;have u:f.toArray.size=w.length:=by rw[QN];exact r.length.symm
 refine#["tuple",_,wg.lookup,j.typeIs,?_];refine HT.getItem_tuple_cut j hs n m (by rw[u];exact Y) ?_ (by rw[u];exact i);rw[u];refine#[.ref s.1.1.size,_,I.laid (t':=s.toks) (o:=.tup (NU w y z)) (λb ob q=>QH _ q) (QT _) ?_,rfl,q _ (I.hok.fresh (QT _))];exact#[QU (iL w y z) i,_,(r.drop (HT.sIx w.9 0 y)).take (HT.sIx w.9 w.9 z - HT.sIx w.9 0 y),IsTup.new _ _]
end
noncomputable def HS(n:Nat)(i:Int):Option Nat:=if 0<=i then(if i<n then jr i.toNat else kv) else if -(n:Int)<=i then jr (i+n).toNat else kv
def PC{α:Type}(xs:List α)(i:Int):Option α:=(HS xs.9 i).bind λj=>xs[j]?
theorem PR{n:Nat}{i:Int}{j:Nat}(h:HS n i=jr j):seqIndex? i n=jr j/\j<n/\-(n:Int)<=i/\i<n:=by unfold HS at h;by_cases h0:0<=i;rw[i0 h0]at h;by_cases x:i<n;rw[i0 x]at h;have e:i.toNat=j:=Qn h;exact#[by rw[QA0 h0 x,e],(),(),x];rw[ii x]at h;cases h;rw[ii h0]at h;by_cases x:-(n:Int)<=i;rw[i0 x]at h;have e:(i+n).toNat=j:=Qn h;exact#[by rw[QCW () x,e],(),x,()];rw[ii x]at h;cases h
theorem iS{α:Type}{xs:List α}{i:Int}{v:α}(h:PC xs i=jr v):∃j,seqIndex? i xs.9=jr j/\xs[j]?=jr v/\j<xs.9/\-(xs.9:Int)<=i/\i<xs.length:=by
 unfold PC at h;cases e:HS xs.9 i with|none=>rw[e]at h;cases h|some j=>rw[e]at h;let#[u,z,y,x]:=PR e;exact#[j,u,h,z,y,x]
theorem kE{α:Type}{xs:List α}{j:Nat}{v:α}(h:xs[j]?=jr v):PC xs (j:Int)=jr v:=by
 have x:j<xs.length:=(Qg.mp h).1;have e:HS xs.9 (j:Int)=jr j:=by unfold HS;rw[i0 (),i0 ()];simp
 unfold PC;rw[e];exact h
def Y0(b:Expr):Prop:=∀o i,subscripted b kb o i=operate [o,i] (l5 o i)
def Ia(X:Cx)(r:R2):Prop :=
 ∀(k h:Expr) (z:TB) (s:ku) (a:St) (H:Hp) (x y:V) (v u:kn) (Q:VK),Inv X z a H s->aA x v->aA y u->r x y H Q ->
  subscripted h kb v u=operate [v,u] (l5 v u)->ko (k4 X.prog X.w) X.A (t3 k h v u) (EP X z a Q) X.xe s
def Ta(X:Cx)(id:String)(r:V->LV->Hp->VK->Prop):Prop :=
 ∀(h:TB) (s:ku) (y:St) (H:Hp) (x:V) (z:LV) (v:kn) (u:LW) (Q:VK),Inv X h y H s->aA x v->lA z u->r x z H Q ->
  ko (k4 X.prog X.w) X.A (d3 (.builtin id) (v::u)) (EP X h y Q) X.xe s
section
variable{X:Cx}{a b:Expr}{ta Y:TE}{pos:Pos}
section
variable{d:TB}{s:ku}{x:V}{u v:kn}
theorem Ia.or{r r':R2}(h:Ia X r)(h':Ia X r'):Ia X (λx y H Q=>r x y H Q∨r' x y H Q):=by intro z w d s k H x y v u Q I f e q hs;rcases q with q|q;exact h z w d s k H x y v u Q I f e q hs;exact h' z w d s k H x y v u Q I f e q hs
theorem Ta.or{g:String}{r r':V->LV->Hp->VK->Prop}(h:Ta X g r)(h':Ta X g r'):Ta X g (λx xs H Q=>r x xs H Q∨r' x xs H Q):=by intro d s y H x xs v z Q I w k q;rcases q with q|q;exact h d s y H x xs v z Q I w k q;exact h' d s y H x xs v z Q I w k q
theorem Cr{r:R2}(f:Ia X r)(g:PE X a ta)(hb:PE X b Y)(hs:Y0 b):PE X (.Subscript a b pos) (Zq r ta Y):=by intro d s z H Q I h;exact QCJ (binT g hb I h λv u w x y j i e k q=>f a b d w z j x y v u Q i e k q (hs _ _))
def Jr(K:QA):R2:=λx y H Q=>∃p h i v,x=.ref p/\y=.int i/\rC K H p h/\PC h i=jr v/\Q v H
def gr(K:QA):R2:=λx y H Q=>∃p h i v,x=.ref p/\y=.int i/\CD K H p h/\PC h i=jr v/\Q v H
def nr:R2:=λx y H Q=>∃z i c,x=.str z/\y=.int i/\z.9<=kt/\PC z.cps.toList i=jr c/\Q (.str #[(Q3 [c])]) H
theorem Me:Ia X (Jr X.K):=by
 intro e f d s o H x y v u Q I B A h hs;let#[p,L,i,z,rfl,rfl,C,E,q]:=h;cases B;let#[t,rfl]:=A;let#[m,r,l,M]:=I.list C;let#[j,k,J,O,G,F]:=iS E;let#[w,Z,g]:=r.get J;have hl:=r.9;have N:=vI;have fin:EP X d o Q w s:=#[z,H,I,g,q]
 by_cases h0:0<=i;have n:i.toNat=j:=by rw[QA0 h0 F]at k;exact Qn k
 exact item_listR l.isList h0 () (by rw[n];simpa using Z) fin hs;have n:(i+(m.toArray.size:Int)).toNat=j:=by rw[QCW () G]at k;rw[QN,<- hl];exact Qn k
 exact qr (x:=w) l.isList.typeIs QCK.lookup
  (wpAny_getItem_list_neg (Q:=λr W=>r=w/\EP X d o Q r W) l.isList () (by rw[QN]<;>omega) () (by rw[n];simpa using Z) #[rfl,fin]) hs
theorem dn:Ia X (gr X.K):=by
 intro k e d s g H x y v u Q I o n h hs;let#[p,F,i,z,rfl,rfl,W,A,q]:=h;cases o;let#[t,rfl]:=n;let#[Z,r,l,G]:=I.tuple W;let#[j,C,B,N,M,L]:=iS A;let#[w,E,f]:=r.get B;have hl:=r.9;have J:=vI;have fin:EP X d g Q w s:=#[z,H,I,f,q]
 exact qr (x:=w) l.typeIs QAU.lookup
  (QB7 (j:=j) (Q:=λr m=>r=w/\EP X d g Q r m) l () () (by rw[QN,<- hl];exact C) (by simpa using E) #[rfl,fin]) hs
theorem gn:Ia X nr:=by
 intro w k d s Z H x y v u Q I g f h hs;let#[z,i,c,rfl,rfl,K,l,q]:=h;let#[t,rfl]:=g;let#[W,rfl]:=f;let#[j,e,o,B,n,m]:=iS l;have hl:z.cps.toList.9=z.length:=by simp[Str.length]
 rw[hl]at e n m;have A:=vI;exact tail_any (QCu s z t) slot_str_getitem.lookup (getItem_str (c:=c) (by have r:decide (i < -(2 ^ 63:Int))=false:=dF ();have p:decide (i ≥ 2 ^ 63)=false:=dF ();rw[r,p,QB0]) (by rw[e];simpa using o) #[.str #[(Q3 [c])],H,I.tok _,#[_,rfl],q]) hs
def jBN(K:QA):R2:=λx y H Q=>Jr K x y H Q∨gr K x y H Q∨nr x y H Q
theorem on:Ia X (jBN X.K):=Me.or (dn.or gn)
theorem zX(its:LW)(n j:Nat)(u:kn):Q8 (·.setIfInBounds j u) { cls:=.type "list",data:=.seq its.toArray n }={ cls:=.type "list",data:=.seq (its.set j u).toArray n }:=by simp[Q8]
theorem Inv.lst{d:TB}{σ:St}{H:Hp}{s:ku}{p:k0}{xs:LV}(I:Inv X d σ H s)(h:H p=jr (.lst xs)) :
  ∃(its:LW) (n:Nat),lA xs its/\s.1.get? p=jr { cls:=.type "list",data:=.seq its.toArray n }/\xs.9<=sizeLine:=by
 let#[z,its,n,r,e]:=I.hok p _ h;exact#[its,n,r,e,z]
theorem Inv.lstUpd{σ:St}{H:Hp}{p:k0}{xs y:LV}{its its':LW}{n z:Nat}{f:Obj->Obj}(I:Inv X d σ H s)(h:H p=jr (.lst xs))
  (g:s.1.get? p=jr { cls:=.type "list",data:=.seq its.toArray n }) (w:f { cls:=.type "list",data:=.seq its.toArray n }={ cls:=.type "list",data:=.seq its'.toArray z }) (r:lA y its') (k:y.9<=kt) (t:Nat) :
  Inv X d σ (FA H p (.lst y)) { s with heap:=s.1.update p f,toks:=t }:=by
 have e:(s.1.update p f).get? p=jr { cls:=.type "list",data:=.seq its'.toArray z }:=by rw[wU f g (by rw[w]<;>rfl),w]
 refine I.write (x:=p) (e:=p) (by rw[h];trivial) (.inl rfl) (λb u hb q=>(We _ _ (qC hb)).trans q) #[_,e] ?_;exact#[k,its',z,r,e]
def vr:V->V->V->Hp->(Hp->Prop)->Prop:=λo i v H Q=>∃p h k j,o=.ref p/\i=.int k/\H p=jr (.lst h)/\HS h.9 k=jr j/\Q (FA H p (.lst (h.set j v)))
theorem i6:jg X vr:=by
 intro d s m H o i v F G u Q I A B K h;let#[p,Z,k,j,rfl,rfl,e,E,q]:=h;cases A;let#[t,rfl]:=B;let#[y,n,r,w,C]:=I.lst e;let#[z,L,g,f]:=PR E;have hl:=r.9;have J:=vI;have l:Inv X d m (FA H p (.lst (Z.set j v))) { s with heap:=s.1.update p (Q8 (·.setIfInBounds j u)) } :=
  I.lstUpd e w (zX y n j u) (r.set K j) (by rw[wL];exact C) s.toks
 by_cases h0:0<=k;have hk:k.toNat=j:=by rw[QA0 h0 f]at z;exact Qn z
 exact PySem.W.ki_setAt w h0 () (by rw[QN,<- hl];exact f) (by rw[hk];exact#[_,l,q]);have hk:(k+(y.toArray.size:Int)).toNat=j:=by rw[QCW () g]at z;rw[QN,<- hl];exact Qn z
 exact PySem.W.ki_setBack w () (by rw[QN,<- hl];exact g) () (by rw[hk];exact#[_,l,q])
theorem OQ(y z:Option Int)(n:Nat):(fk y z kv n).1=((HT.sIx n 0 y:Nat):Int)/\(fk y z kv n).2.1=((HT.sIx n n z:Nat):Int)/\(fk y z kv n).2.2=1:=by
 refine#[?_,?_,rfl];cases y with|none=>simp[fk,HT.sIx]|some i=>simp only[fk,HT.sIx,QCc,show(1:Int) > 0 by decide,if_true];by_cases h:i<0;simp only[h,if_true]<;>omega;simp only[h,if_false]<;>omega
 cases z with|none=>simp[fk,HT.sIx]|some i=>simp only[fk,HT.sIx,QCc,show(1:Int) > 0 by decide,if_true];by_cases h:i<0;simp only[h,if_true]<;>omega;simp only[h,if_false]<;>omega
theorem ZO(its:LW)(h y:Option Int):slicePick its.toArray h y kv=((its.drop (HT.sIx its.9 0 h)).take (HT.sIx its.9 its.9 y - HT.sIx its.9 0 h)).toArray:=by let#[k,w,z]:=OQ h y its.toArray.size;unfold slicePick;rw[k,w,z];simp only[sliceRange_one,pick_run,QN]<;>rfl
def kr(K:QA):V->Option Int->Option Int->Hp->VK->Prop:=λx y z H Q=>∃a h,x=.ref a/\rC K H a h/\∀p,H p=kv->Q (.ref p) (FA H p (.lst (NU h y z)))
theorem rc:Vi X (kr X.K):=by intro d s n H x v Z p w k W Q I f hs i g h;let#[a,y,rfl,m,q]:=h;cases f;let#[j,r,e,l]:=I.list m;have z:=r.9;refine#["list",_,QCK.lookup,e.isList.typeIs,?_];refine wpAny_getItem_list_slice e.isList hs i g .none (by simp) ?_ (by rw[QN]<;>omega);rw[ZO,<- z];refine#[.ref s.1.1.size,_,I.laid (t':=s.toks) (o:=.lst (NU y w k)) (λb ob q=>QH _ q) (QT _) ?_,rfl,q _ (I.hok.fresh (QT _))];exact#[QU (iL y w k) l,_,0,(r.drop (HT.sIx y.9 0 w)).take (HT.sIx y.9 y.9 k - HT.sIx y.9 0 w),QR _ rfl]
noncomputable def nG:V->Bool
 | .non=>kf|.bl _=>kf|.int _=>kf|.str _=>kf|_=>kb
noncomputable def af:V->V->Bool
 | .non,.non=>kf|.bl a,.bl b=>a==b|.bl a,.int b=>(if a then 1 else 0)==b|.int a,.bl b=>a==(if b then 1 else 0)|.int a,.int b=>a==b|.str a,.str b=>a==b|_,_=>kb
theorem Rn{A:y1}{y:V}(w:aA y u)(h:aA x v)(k:nG y=kf)(fx:nG x=kf):qw A s u v (af y x):=by
 cases y with
 |non =>
  cases w;cases x with|non=>cases h;exact qw.same _|bl b=>cases h;exact qw.none_bool b|int b=>let#[t,rfl]:=h;exact qw.none_int b t|str b=>let#[t,rfl]:=h;exact qw.none_str b t|_=>exact i2 (show kb=kf from fx) QG
 |bl a =>
  cases w;cases x with|non=>cases h;exact qw.bool_none a|bl b=>cases h;exact qw.bool_bool a b|int b=>let#[t,rfl]:=h;exact qw.bool_int a b t|str b=>let#[t,rfl]:=h;exact qw.bool_str a b t|_=>exact i2 (show kb=kf from fx) QG
 |int a =>
  let#[z,rfl]:=w;cases x with|non=>cases h;exact qw.int_none a z|bl b=>cases h;exact qw.int_bool a z b|int b=>let#[t,rfl]:=h;exact qw.int_int a z b t|str b=>let#[t,rfl]:=h;exact QB2 a z b t|_=>exact i2 (show kb=kf from fx) QG
 |str a =>
  let#[z,rfl]:=w;cases x with|non=>cases h;exact qw.str_none a z|bl b=>cases h;exact qw.str_bool a z b|int b=>let#[t,rfl]:=h;exact QB3 a z b t|str b=>let#[t,rfl]:=h;exact qw.str_str a z b t|_=>exact i2 (show kb=kf from fx) QG
 |_=>exact i2 (show kb=kf from k) QG
def iX(x:V)(u:kn):Bool:=match u with
 | .none=>af .non x|.bool b=>af (.bl b) x|.int i _=>af (.int i) x|.str z _=>af (.str z) x|_=>kb
theorem G9{y:V}(r:aA y u)(f:nG y=kf):iX x u=af y x:=by
 cases y with|non=>cases r;rfl|bl b=>cases r;rfl|int i=>let#[t,rfl]:=r;rfl|str z=>let#[t,rfl]:=r;rfl|_=>exact i2 (show kb=kf from f) QG
theorem BJ{x:V}:∀{xs:LV}{us:LW},lA xs us->xs.all nG=kf->us.any (iX x)=xs.any λy=>af y x
 |_,_,.nil,_=>rfl|y::xs,u::us,.cons r t,f=>by rw[qi,Qa]at f;rw[WC,WC,G9 r f.1,BJ t f.2]
theorem cG{A:y1}{s:ku}{x:V}{v:kn}(z:aA x v)(fx:nG x=kf):∀{xs:LV}{us:LW},lA xs us->xs.all nG=kf->∀u∈us,qw A s u v (iX x u)
 |_,_,.nil,_=>λu h=>by cases h|y::xs,u::us,.cons r t,f=>λw h=>by rw[qi,Qa]at f;rcases QL.mp h with rfl|h;rw[G9 r f.1];exact Rn r z f.1 fx;exact cG z fx t f.2 w h
def inV(x:V)(xs:LV):Bool:=xs.any λy=>af y x
def Rx(K:QA)(neg:Bool):R2:=λx y H Q=>∃p h,y=.ref p/\(rC K H p h∨CD K H p h)/\nG x=kf/\h.all nG=kf/\Q (.bl (if neg then !inV x h else inV x h)) H
theorem E1:IE X (xk .In) (Rx X.K kb):=by intro d s l H x y v u Q I g i h;let#[p,m,rfl,k,fx,fs,q]:=h;cases i;rcases k with k|k;let#[z,r,e,j]:=I.list k;refine SeqAt.in_listAt (iX x) e.isList (λw f=>cG g fx r fs w (by simpa using f)) #[.bl _,H,I,rfl,?_];rw[show z.toArray.any (iX x)=z.any (iX x) by simp,BJ r fs];exact q;let#[z,r,e,j]:=I.tuple k;refine SeqAt.in_tupleAt (iX x) e (λw f=>cG g fx r fs w (by simpa using f)) #[.bl _,H,I,rfl,?_];rw[show z.toArray.any (iX x)=z.any (iX x) by simp,BJ r fs];exact q
theorem lR:IE X (xk .NotIn) (Rx X.K kf):=by intro d s l H x y v u Q I g i h;let#[p,m,rfl,k,fx,fs,q]:=h;cases i;rcases k with k|k;let#[z,r,e,j]:=I.list k;refine SeqAt.notIn_listAt (iX x) e.isList (λw f=>cG g fx r fs w (by simpa using f)) #[.bl _,H,I,rfl,?_];rw[show z.toArray.any (iX x)=z.any (iX x) by simp,BJ r fs];exact q;let#[z,r,e,j]:=I.tuple k;refine SeqAt.notIn_tupleAt (iX x) e (λw f=>cG g fx r fs w (by simpa using f)) #[.bl _,H,I,rfl,?_];rw[show z.toArray.any (iX x)=z.any (iX x) by simp,BJ r fs];exact q
theorem VJ:OC X (.builtin "len") (λxs H Q=>∃p z,xs=[.ref p]/\(rC X.K H p z∨CD X.K H p z)/\Q (.int z.9) H):=by intro d s j H xs l Q I r h;let#[p,z,rfl,w,q]:=h;let#[u,rfl,g]:=iI r;cases g;have m:=vI;rcases w with w|w;let#[f,k,e,i]:=I.list w;have y:=k.9;exact Calls.call_len_list e.isList (by simp only[QN]<;>omega) #[.int z.9,H,I.tok _,#[s.toks+1,by rw[QN,y]],q];let#[f,k,e,i]:=I.tuple w;have y:=k.9;exact len_tuple e (by simp only[QN]<;>omega) #[.int z.9,H,I.tok _,#[s.toks+1,by rw[QN,y]],q]
theorem aS:OC X (.builtin "len") (λxs H Q=>∃z,xs=[.str z]/\z.9<=kt/\Q (.int z.9) H):=by intro d s y H xs w Q I r h;let#[z,rfl,k,q]:=h;let#[u,rfl,t,rfl]:=iI r;have e:=vI;exact len_str () #[.int z.9,H,I.tok _,#[_,rfl],q]
theorem OC.or{f:kn}{r r':LV->Hp->VK->Prop}(h:OC X f r)(h':OC X f r'):OC X f (λxs H Q=>r xs H Q∨r' xs H Q):=by intro d s y H xs z Q I w q;rcases q with q|q;exact h d s y H xs z Q I w q;exact h' d s y H xs z Q I w q
theorem kP:OC X (.type "tuple") (λxs H Q=>∃p z,xs=[.ref p]/\((rC X.K H p z/\∀l,H l=kv->Q (.ref l) (FA H l (.tup z)))∨(CD X.K H p z/\Q (.ref p) H))):=by
 intro d s j H xs C Q I r h;let#[p,z,rfl,h]:=h;let#[u,rfl,W]:=iI r;cases W;rcases h with⟨i,q⟩| ⟨i,q⟩
 let#[y,f,g,m]:=I.list i;have n:=f.9;refine call_tuple_list g.isList (λk A=>?_) (by simp only[QN]<;>omega);have Z:Inv X d j H { s with heap:=k }:=I.kept (t':=s.toks) A;have B:Inv X d j (FA H k.1.size (.tup z)) { s with heap:=k.push { cls:=.type "tuple",data:=.seq y.toArray } } :=
  Z.laid (t':=s.toks) (λb o e=>QH _ e) (QT _) (show DA X.prog X.w _ _ _ (.tup z) from#[m,y,f,IsTup.new _ _])
 exact#[.ref k.1.size,_,B,rfl,q _ (Z.hok.fresh (QT _))];let#[y,f,g,m]:=I.tuple i;exact call_tuple_same g #[.ref p,H,I,rfl,q]
def j5(K:QA)(T:String)(x:V)(H:Hp):Prop:=match x with
 | .str _=>T="str"|.int _=>T="int"|.ref p=>(T="list"/\∃y,rC K H p y)∨(T="tuple"/\∃o,K.lookup p=jr o/\o.cls=.type "tuple"/\o.dict=kv) ∨
   (T="dict"/\((∃h,H p=jr (.dK h))∨∃z h,H p=jr (.dT z h)))∨(T="set"/\∃S n,H p=jr (.set S n))
 |_=>False
theorem P5{σ:St}{H:Hp}{T:String}(I:Inv X d σ H s)(r:aA x v)(ty:j5 X.K T x H) :
  s.TypeIs v T/\∀a,v=.ref a->∃ob,s.1.get? a=jr ob/\ob.dict=none:=by
 cases x with
 |str z=>let#[t,rfl]:=r;cases(show T="str" from ty);exact#[QCu s z t,λ_ e=>nomatch e]
 |int i=>let#[t,rfl]:=r;cases(show T="int" from ty);exact#[typeIs_int s i t,λ_ e=>nomatch e]
 |ref p =>
  cases r;rcases ty with⟨rfl,l,j⟩| ⟨rfl,o,hk,hc,w⟩| ⟨rfl,hk⟩| ⟨rfl,S,n,hk⟩
  let#[g,_,f,_]:=I.list j;refine#[f.isList.typeIs,λa e=>?_];cases e;let#[o,n,e,c,w,_]:=f;exact#[o,e,w];refine#[#[o,I.kIn p o hk,hc],λa e=>?_];cases e;exact#[o,I.kIn _ o hk,w];have z:∃o,s.1.get? p=jr o/\o.ExactDict:=by
   rcases hk with⟨y,hk⟩| ⟨m,y,hk⟩
   let#[_,_,_,_,o,_,_,e,h,_]:=I.hok p _ hk;exact#[o,e,h];let#[_,_,_,_,o,_,e,h,_]:=I.hok p _ hk;exact#[o,e,h]
  let#[o,e,h]:=z;refine#[#[o,e,h.1],λa k=>?_];cases k;exact#[o,e,h.2.1];let#[o,_,_,_,e,h,_]:=I.hok p _ hk;refine#[#[o,e,h.1],λa k=>?_];cases k;exact#[o,e,h.2.1]
 |_=>exact Qd ty
noncomputable def sx(K:QA)(T:String)(r:V->LV->Hp->VK->Prop)(m:TE):TE:=λy H Q=>m y H λx h=>j5 K T x h/\r x [] h Q
noncomputable def jBJ(K:QA)(T:String)(r:V->LV->Hp->VK->Prop)(m:TE)(t:TA):TE:=λh H Q=>m h H λx y=>j5 K T x y/\t h y λz w=>r x z w Q
end
variable{o e:Expr}{es:List Expr}{m:TE}{t:TA}{name:Str}{apos cpos:Pos}{T g:String}{r:V->LV->Hp->VK->Prop}
theorem Jl(p:nL T)(w:Slot T name g)(k:typeOf (.builtin g)=sn (.type "method_descriptor"))(hm:Ta X g r)(q:PE X o m)
  (u:bb o name X.env (g6 o X.env)=g6 o X.env:=by rfl) (z:(apos.endLine==cpos.line)=true:=by rfl):PE X (.Call (.Attribute o name apos) [] [] cpos) (sx X.K T r m):=by
 intro y s f H Q I h;refine QA1 u z (GB (q y s f H _ I h) λv l #[x,A,j,i,ty,n]=>?_);let#[W,Z]:=P5 j i ty;exact#[T,g,p,w,k,W,Z,Wf rfl (QBq (hm y l f A x [] v [] Q j i .nil n))]
theorem Dr(F:nL T)(k:Slot T name g)(j:typeOf (.builtin g)=sn (.type "method_descriptor"))(hm:Ta X g r)(G:PE X o m)(J:PA X (e::es) t)
  (w:bb o name X.env (g6 o X.env)=g6 o X.env:=by rfl)
  (f:((fv cpos (x2 (e::es) X.env)).all (λx=>!x.1)&&(backToKw cpos (keywordEach [] X.env)).all (λx=>x.1.isSome)
   && decide ((e::es).9+([]:List lb).9+(if([]:List lb).isEmpty then 0 else 1)<30))=true:=by rfl)
  (u:(apos.endLine==cpos.line)=true:=by rfl) (hs:x2 (e::es) X.env=(kb,g6 e X.env)::x2 es X.env:=by rfl) (z:(fv cpos (x2 es X.env)).any (·.1)=false:=by rfl) :
  PE X (.Call (.Attribute o name apos) (e::es) [] cpos) (jBJ X.K T r m t):=by
 intro y s i H Q I h;refine wpAny_Call_method_late w f u rfl (GB (G y s i H _ I h) λv A #[x,P,p,l,ty,E]=>?_);let#[M,L]:=P5 p l ty;refine#[T,g,F,k,j,M,L,?_];have n:=J cpos y A i P _ p E;rw[hs]at n ⊢;refine Wf (by show(kb||(fv cpos (x2 es X.env)).any (·.1))=kb;rw[z]<;>rfl) (Calls.evalArgs_plain ?_);exact GB n λZ W #[q,O,N,B,C]=>hm y W i O x q v Z Q N l B C
end
def sw(X:Cx)(id:String)(r:V->LV->Hp->VK->Prop):Prop :=
 ∀(h:TB) (s:ku) (y:St) (H:Hp) (x:V) (z:LV) (v:kn) (u:LW) (Q:VK),Inv X h y H s->aA x v->lA z u->r x z H Q ->
  ko (k4 X.prog X.w) X.A (d3 (.builtin id) (v::u)) (EP X h y Q) X.xe s
theorem lA.one:∀{x:V}{us:LW},lA [x] us->∃u,us=[u]/\aA x u
 |_,_,.cons r .nil=>#[_,rfl,r]
theorem lA.zero:∀{us:LW},lA [] us->us=[]
 |_,.nil=>rfl
theorem lA.eraseIdx:∀{xs:LV}{us:LW}(i:Nat),lA xs us->lA (xs.eraseIdx i) (us.eraseIdx i)
 |_,_,_,.nil=>.nil|_,_,0,.cons _ t=>t|_,_,i+1,.cons r t=>.cons r (lA.eraseIdx i t)
theorem lA.reverse{xs:LV}{us:LW}(h:lA xs us):lA xs.reverse us.reverse:=by
 induction h with|nil=>exact .nil|cons r t x=>rw[wk,wk];exact lA.append x (.cons r .nil)
theorem Nn{α:Type}(l:List α):l.eraseIdx (l.9 - 1)=l.dropLast:=by
 induction l with
 |nil=>rfl|cons a r h =>
  cases r with
  |nil=>rfl|cons b r =>
   have e:(a::b::r).9 - 1=((b::r).9 - 1)+1:=by have y:(a::b::r).9=r.9+2:=rfl;have x:(b::r).9=r.9+1:=rfl;omega
   rw[e,List.eraseIdx_cons_succ,h]
   all_goals rfl
theorem FP{α:Type}:∀(l:List α) (i:Nat),(l.eraseIdx i).9<=l.9
 |[],_=>QT _|_::_,0=>qd _|_::r,i+1=>Wv (FP r i)
section
variable{X:Cx}{y:TB}{σ:St}{H:Hp}{s:ku}{l b:k0}{xs v w:LV}
theorem Inv.lset{its its':LW}{n:Nat}{f:Array kn->Array kn}{t':Nat}(I:Inv X y σ H s)(a:H l=jr (.lst xs))
  (e:s.1.get? l=jr { cls:=.type "list",data:=.seq its.toArray n }) (k:f its.toArray=its'.toArray) (hv:lA v its') (h:v.9<=kt) :
  Inv X y σ (FA H l (.lst v)) { s with heap:=s.1.update l (Q8 f),toks:=t' }:=by
 have q:=PySem.IsL.update e f;rw[k]at q;refine I.write (x:=l) (e:=l) (by rw[a];exact trivial) (.inl rfl) (λg u hb z=>(We s.1 (Q8 f) (qC hb)).trans z) #[_,q] ?_;exact#[h,its',_,hv,q]
theorem Inv.lnew{its:LW}{t':Nat}(I:Inv X y σ H s)(hv:lA v its)(h:v.9<=kt) :
  Inv X y σ (FA H s.1.1.size (.lst v)) { s with heap:=s.1.push { cls:=.type "list",data:=.seq its.toArray },toks:=t' } :=
 I.laid (λ_ _ q=>QH _ q) (QT _) #[h,its,0,hv,QR _ rfl]
theorem Inv.fresh(I:Inv X y σ H s):H s.1.1.size=none:=I.hok.fresh (QT _)
theorem Inv.lstM(I:Inv X y σ H s)(h:H l=jr (.lst xs)):xs.9<=kt/\∃(its:LW) (n:Nat),lA xs its/\xs.9=its.9/\s.1.get? l=jr { cls:=.type "list",data:=.seq its.toArray n }:=by let#[z,its,n,r,e]:=I.hok l _ h;exact#[z,its,n,r,r.9,e]
theorem x8{n:Nat}(h:n<=kt):WQ n=false:=by unfold WQ;exact dF ()
end
section
variable{X:Cx}
def PY:V->LV->Hp->VK->Prop:=λx z H Q=>∃l h y,x=.ref l/\z=[y]/\H l=jr (.lst h)/\h.9<kt/\Q .non (FA H l (.lst (h++[y])))
theorem K3:sw X "list.append" PY:=by intro k s i H x m v o Q I b f h;let#[l,j,y,rfl,rfl,a,p,q]:=h;cases b;let#[u,rfl,g]:=f.one;let#[z,w,n,r,hl,e]:=I.lstM a;refine QBY F.slot_list_append #[_,e,rfl] F.entry_list_append (F.args_list_append_2 _ _) (PySem.list_append l w.toArray n u (by rw[QN];omega)) #[e,?_];refine#[.non,_,I.lset (its':=w++[u]) a e (by simp) (r.append (.cons g .nil)) ?_,rfl,q];rw[QI,qL];omega
def Xc:V->LV->Hp->VK->Prop:=λx z H Q=>∃l b y h,x=.ref l/\z=[.ref b]/\H l=jr (.lst y)/\H b=jr (.lst h)/\y.9+h.9<=kt/\Q .non (FA H l (.lst (y++h)))
theorem Y3:sw X "list.extend" Xc:=by
 intro f s K H x E v G Q I i j h;let#[l,b,C,A,rfl,rfl,g,Z,J,q]:=h;cases i;let#[u,rfl,m]:=j.one;cases m;let#[z,w,n,r,hl,e]:=I.lstM g;let#[B,y,p,o,Y,W]:=I.lstM Z;have a:w.toArray.size+y.toArray.size<=sizeLine:=by rw[QN,QN];omega
 have k:¬ (!w.toArray.isEmpty&&WQ (w.toArray.size+y.toArray.size))=true:=by rw[x8 a,QBi];exact QG
 refine QBY F.slot_list_extend #[_,e,rfl] F.entry_list_extend (F.args_list_extend_2 _ _)
  (AutoSeq1.list_extend_list_list_0 l w.toArray n b y.toArray p k (by rw[QN];omega) ()) #[e,W,?_]
 refine#[.non,_,I.lset (its':=w++y) g e (by simp) (r.append o) ?_,rfl,q];rw[QI];omega
def Uk:V->LV->Hp->VK->Prop:=λx z H Q=>∃l h i k y,x=.ref l/\z=[.int i]/\H l=jr (.lst h)/\-(2 ^ 63)<=i/\i<2 ^ 63/\seqIndex? i h.9=jr k/\h[k]?=jr y/\Q y (FA H l (.lst (h.eraseIdx k)))
theorem J8:sw X "list.pop" Uk:=by
 intro f s A H x B v C Q I m o h;let#[l,j,i,k,y,rfl,rfl,g,K,W,hk,Y,q]:=h;cases m;let#[u,rfl,p]:=o.one;let#[t,rfl]:=p;let#[z,a,n,r,hl,e]:=I.lstM g;let#[w,Z,b]:=r.get Y;refine QBY F.slot_list_pop #[_,e,rfl] F.entry_list_pop (F.args_list_pop_2 _ _)
  (MeetsSeq.list_pop_at l a.toArray n i t k w (fitsIndex_both K W) (by rw[QN,<- hl];exact hk) (by rw[<- wz];exact Z) (by rw[QN];omega)) #[e,?_]
 refine#[y,_,I.lset (its':=a.eraseIdx k) g e ?_ (r.eraseIdx k) ?_,b,q];show a.toArray.eraseIdxIfInBounds k=(a.eraseIdx k).toArray;rw[List.eraseIdxIfInBounds_toArray];have:=FP j k;omega
def JT:V->LV->Hp->VK->Prop:=λx y H Q=>∃l h,x=.ref l/\y=[]/\H l=jr (.lst h)/\Q .non (FA H l (.lst h.reverse))
theorem yX:sw X "list.reverse" JT:=by intro w s f H x i v j Q I a b h;let#[l,g,rfl,rfl,k,q]:=h;cases a;have u:=b.zero;subst u;let#[z,y,n,r,hl,e]:=I.lstM k;refine QBY F.slot_list_reverse #[_,e,rfl] F.entry_list_reverse (F.args_list_reverse_1 _) (AutoSeq1.list_reverse_list_0 l y.toArray n (by rw[QN];omega)) #[e,?_];refine#[.non,_,I.lset (its':=y.reverse) k e (by simp) r.reverse ?_,rfl,q];rw[wM];omega
end
end L2
namespace Att
open PySem PySem.W PySem.Calls PyProof.Rows
theorem OL{P:Params}{h:vu}:∀(ns:LJ) (vs:LW),WellAll P h vs (ns.map WData.int)->u0 vs ns:=by
 intro ns;induction ns with
 |nil=>intro vs w;rw[wT]at w;cases w;exact .nil|cons n ns x =>
  intro vs w;rw[QS]at w;cases w with|cons a b=>cases a;exact .cons _ _ (x _ b)
theorem script_of{l:OpenLaw}{n:Nat}(j:l.most=jr n){P:Params}{h:vu}{args:List WData}{x:LW}
  (y:l.row.toRowW.claim.pre args=kf) (k:WellAll P h x args) :
  ∃a vs ns,x=[kx a]/\args=[WData.list (ns.map WData.int)]/\h.get? a=jr { cls:=.type "list",data:=.seq vs.toArray }/\u0 vs ns/\ns.9<=n:=by
 have b:WShape.hasAll [] args [.list .int]=true:=(pre_splitW y).1;have hc:l.pre.holds [] { args:=args }=true:=(pre_splitW y).2;let#[d,r,rfl,p,o]:=hasAllW_cons b;obtain rfl:=hasAllW_nil o;let#[s,rfl,m]:=hasW_list p;let#[ns,rfl]:=items_int m;have z:ns.9<=n:=by
  unfold OpenLaw.pre at hc;have w:(WTm.not (.lt (.lit (.int (n:Int))) (.len (.arg 0)))).holds [] { args:=[.list (ns.map .int)] }=true:=by have w:=(holds_andW hc).1;rw[j]at w;exact w
  have v:=condW_of w (w_not (w_lt w_lit (w_len_list (w_arg rfl))));rw[QD]at v;refine QCd λq=>?_;have g:(n:Int)<((ns.9:Nat):Int):=()
  first
   | (rw[dT g]at v;exact i2 v (by decide))
   | (simp at v;omega)
 cases k with
 |cons f e =>
  cases e;cases f with|list i u=>exact#[_,_,ns,rfl,rfl,i,OL ns _ u,z]
theorem post_true(l:OpenLaw)(args:List WData):l.row.toRowW.claim.post args (.bool kf) args=kf :=
 postW_of (r:=l.row.toRowW) (X:=(kf==kf))
  (show WShape.has [] (.bool kf) .bool=kf by first|rfl|decide|simp[WShape.has,WShape.arms,WShape.armsAll])
  (show(WTm.eq .res (.lit (.bool kf))).value [] { args:=args,res:=jr (.bool kf),after:=args }=jr (.bool (kf==kf)) from w_eq_bool (w_res rfl) w_lit) rfl
end Att
namespace L2
open PySem PySem.Spec PyProof.Rows
theorem fP:∀{vs:LW}{ns:LJ},u0 vs ns->lA (ns.map V.int) vs
 |_,_,.nil=>.nil|_,_,.cons n t h=>.cons #[t,rfl] (fP h)
def Zv(H:Hp):Prop:=∀b,H b=kv∨(∃o h,H b=jr (.frz o (.lst h)))∨∃q,H b=jr (.tbl q)
theorem P8{P:vx}{w:x0}{K:QA}{mg mb:Str->Option kn}{CX:ub}{k:Nat}{fa a:k0}{fd:gm}{x:Str}{sp:Sp}{y:ku}{vs:LW}{ns:LJ}{T c:k0}{X:Str}(hT:∀f:vu,K.In f->∀P q,uQ mg f P q->P=T/\q=X)(j:y.1.TableAt c T #[])(hKT:K.lookup T=kv)
  (KX:K.In y.1) (Q:y.1.Ns k5 mg) (hb:y.1.Ns ej mb) (hbb:∀x:Str,x≠"__name__"->mb x=gl x) (R:y.1.NoLimit) (hg:y.gens=#[])
  (J:y.1.get? a=jr { cls:=.type "list",data:=.seq vs.toArray }) (hi:u0 vs ns) (hl:ns.9<=kt) (hr:Room k l8)
  (F:∀f:vu,K.In f->f.Ns k5 mg->FnOk P w K mg f CX k fa fd [x] sp) (B:∀(s:ku) (u:kn),l4 s fd #[[u],[]] [(x,u)])
  (hsp:∀H:Hp,Zv H->rC K H a (ns.map V.int)->sp [.ref a] H (λv _=>v=.bl kf) λ_ _ _=>False)
  (hCX:∀H e s',CX [] H y (λ_ _ _=>False) e s'->False) :
  mA (k4 P w) l8 (.call (.ref fa) #[[.ref a],[]]) (λr s'=>r=.ok (.ret (.bool kf))/\OldK y.1 s'.1/\s'.os=y.os/\tt s'.gens) y:=by
 have rv:=fP hi;have O:=hi.9;have W:∀H:Hp,Zv H->rC K H a (ns.map V.int)->mM P w H y.1->(∀b,H b≠kv->b=a∨b=T)->(H a≠kv->K.lookup a=kv)->H T=jr (.tbl X) ->
   mA (k4 P w) l8 (.call (.ref fa) #[[.ref a],[]]) (λr s'=>r=.ok (.ret (.bool kf))/\OldK y.1 s'.1/\s'.os=y.os/\tt s'.gens) y:=by
  intro H hO hS A hA hK hP;have l:∀{b:k0}{o:Obj},y.1.get? b=jr o->H b=kv->(yS y.1 H).get? b=jr o:=λe n=>p9 e n;have noA:∀{b:k0}{o:Obj}{L:Array Er}{M:Nat},y.1.get? b=jr o->o.data=.dict L M->H b=none:=λ{b o L M} e d=>by
   cases q:H b with|none=>rfl|some u=>rcases hA b (by rw[q];simp) with e'|e';subst e';rw[J]at e;cases e;have d':Data.seq vs.toArray _=Data.dict L M:=d;cases d';subst e';rw[j.2]at e;cases e;have d':Data.fields #[]=Data.dict L M:=d;cases d'
  have Y:∀{b:k0}{m:Str->Option kn},y.1.Ns b m->(yS y.1 H).Ns b m:=λ{b m} #[o,L,M,e,d,r]=>#[o,L,M,l e (noA e d),d,r]
  have G:K.In (yS y.1 H):=λb o e=>l (KX b o e) (by
   cases q:H b with|none=>rfl|some u=>rcases hA b (by rw[q];simp) with e'|e';subst e';rw[hK (by rw[q];simp)]at e;cases e;subst e';rw[hKT]at e;cases e)
  have hM:Mod K mg (yS y.1 H):=#[G,Y Q,#[mb,Y hb,hbb],let#[mc,h1,h2]:=R;#[mc,Y h1,h2]]
  have e0:Env0 P w K mg (yS y.1 H) l8 [] y H:=#[rfl,hM,λb o e=>ve e,w4 (m4 _ _),trivial,λb hb=>i2 (show b∈([]:List k0) from hb) (by simp),λP q t=>(by let#[rfl,rfl]:=hT _ G P q t;exact hP),A,.of_eq hg]
  refine QCV ((F _ G (Y Q)).run l8 [] y H #[[.ref a],[]] [.ref a] [.ref a] _ _ hr e0 (B y (.ref a)) (.cons rfl .nil) (hsp H hO hS)) λr s' h=>?_;cases r with
  |error e=>exact(hCX H e s' h).elim|ok fl =>
   cases fl with
   |next=>exact Qd h|brk=>exact Qd h|cont=>exact Qd h|ret u =>
    let#[v,H',os,bare,un,Z,r',q]:=h;have q':v=.bl true:=q;subst q';obtain rfl:u=Value.bool true:=r';have nx:∀b,b∉CZ []:=λb z=>i2 (show b∈([]:List k0) from z) (by simp);refine#[rfl,#[λb o e=>?_,λb o e=>un.there b o e (by simp)],os,bare];rcases hO b with z|⟨ob,xs,z⟩| ⟨tq',z⟩
    exact .inl (un.keep b o e z (nx b) (by simp));let#[S,_]:=A b _ z;let#[e2,_]:=Z b _ (un.frzs b ob _ z);rw[e]at S;cases S;exact .inl e2;have hb:b=T:=by rcases hA b (by rw[z];simp) with rfl|h;let#[ps,S,_]:=A b _ z;rw[J]at S;cases S;exact h
    subst hb;let#[ps,e2,_]:=Z b _ (un.tbls b _ z);have e0:=e.symm.trans j.2;cases e0;exact .inr (.inl #[j.isCodeTable,rfl,#[],ps,rfl,by simpa using e2])
 have aT:a≠T:=λz=>by have e:=j.2;rw[<- z,J]at e;cases e
 have N:∀H:Hp,DA P w H y.1 T (.tbl X):=λH=>#[#[],j.2,trivial,λpos cv g=>by cases g]
 cases hk:K.lookup a with
 |some o =>
  have e:=KX a o hk;rw[J]at e;cases e;refine W (λb=>if b=T then jr (.tbl X) else kv) (λb=>?_) (.inr #[_,vs.toArray,_,hk,rfl,rfl,rfl,by rw[QN,O];exact hl,by simpa using rv]) (λb u z=>?_) (λb z=>?_) (λz=>i2 (ii aT) z) (i0 rfl);by_cases hb:b=T
  ·exact .inr (.inr #[_,i0 hb])
  exact .inl (ii hb);by_cases hb:b=T
  ·have p:=(i0 hb).symm.trans z
   cases p;subst hb;exact N _
  have p:=(ii hb).symm.trans z;cases p;by_cases hb:b=T
  ·exact .inr hb
  exact i2 (ii hb) z
 |none =>
  have C:∀b,b=T->(if b=T then jr (.tbl X) else if b=a then jr (.frz { cls:=.type "list",data:=.seq vs.toArray } (.lst (ns.map V.int))) else none:Option HO)=jr (.tbl X):=λb h=>i0 h;have I:∀b,b=a->(if b=T then jr (.tbl X) else if b=a then jr (.frz { cls:=.type "list",data:=.seq vs.toArray } (.lst (ns.map V.int))) else none:Option HO)=jr (.frz { cls:=.type "list",data:=.seq vs.toArray } (.lst (ns.map V.int))):=λb h=>(ii (h▸aT)).trans (i0 h);have E:∀b,b≠T->b≠a->(if b=T then jr (.tbl X) else if b=a then jr (.frz { cls:=.type "list",data:=.seq vs.toArray } (.lst (ns.map V.int))) else none:Option HO)=none:=λb h h2=>(ii h).trans (ii h2);refine W (λb=>if b=T then jr (.tbl X) else if b=a then jr (.frz { cls:=.type "list",data:=.seq vs.toArray } (.lst (ns.map V.int))) else kv) (λb=>?_) (.inl (.inr #[{ cls:=.type "list",data:=.seq vs.toArray },I a rfl])) (λb u z=>?_) (λb z=>?_) (λ_=>hk) (C T rfl);by_cases hb:b=T
  ·exact .inr (.inr #[_,C b hb])
  by_cases i:b=a
  ·exact .inr (.inl #[_,_,I b i])
  exact .inl (E b hb i);by_cases hb:b=T
  ·have p:=(C b hb).symm.trans z
   cases p;subst hb;exact N _
  by_cases i:b=a
  ·have p:=(I b i).symm.trans z
   cases p;subst i;exact#[J,by rw[QD];exact hl,vs,_,rv,J]
  have p:=(E b hb i).symm.trans z;cases p;by_cases hb:b=T
  ·exact .inr hb
  by_cases i:b=a
  ·exact .inl i
  exact i2 (E b hb i) z
noncomputable def UC(s:gi):Arguments:=match s with
 | .FunctionDef _ a _ _ _ _ _ _ _ _=>a|_=>{ posonlyargs:=[],args:=[],vararg:=kv,kwonlyargs:=[],kw_defaults:=[],kwarg:=kv,defaults:=[] }
noncomputable def zC(s:gi):List Stmt:=match s with
 | .FunctionDef _ _ b _ _ _ _ _ _ _=>b|_=>[]
noncomputable def MA(s:gi):Scope:=match s with
 | .FunctionDef _ _ _ _ _ _ sc _ _ _=>sc|_=>{ kind:=.function,names:=[],isGenerator:=kb,isCoroutine:=kb }
noncomputable abbrev i5:ub:=λ_ _ _ _ _ _=>False
noncomputable abbrev E0:XK:=λ_ _ _=>False
theorem Gr{X:Cx}:fO i5 X E0:=λ_ _ _ _ _ _ _ h=>h.elim
structure Fun(K:QA)(x qual:Str)(st:gi)(f:k0)(fd:gm):Prop where
 ex:∃(oc:kn) (od:Option k0) (kV doc pm:kn) (an:Option k0) (cdv ct:kn) (osl:Array (Option kn)),
  fd=qk x qual (UC st) (zC st) (MA st) .none kV doc pm an cdv ct/\K.lookup f=jr #[oc,od,.func fd,osl]/\Wm K cdv qual=kf
 kp:wW K (.ref f)=kf
section
variable{P:vx}{w:x0}{K:QA}{mg:Str->Option kn}{base:vu}
section
variable{x y:Str}{st:gi}{f:k0}{u:gm}{z:LS}
theorem Fun.ok{N:LS}{k:Nat}{b:Sp}(F:Fun K x y st f u)(S:FnScope N z (MA st))(len:∀vs H Q E,b vs H Q E->vs.9=z.9)
  (a:∀(v:kn) (A:y1) (outer:List Env) (s:ku) (H:Hp) (vs:LV) (Q:VK) (E:XK),Room k (A.deeper (ti y (MA st) s.1.1.size f v))->b vs H Q E ->
   ∃t,lY (ZX i5 P w K mg base N y (MA st) f v A outer s H E).nox (zC st) t/\t { nx:=λ_ m=>Q .non m,rt:=Q } (mD N vs) H):FnOk P w K mg base i5 (k+1) f u z b:=by
 let#[p,o,kV,l,n,X,v,r,i,rfl,lk,g]:=F.ex;refine eh lk g S len λA outer s H vs Q E j e=>?_;let#[t,h,q]:=a v A outer s H vs Q E j e;exact#[t,h.nox,q]
theorem Fun.binds(F:Fun K x y st f u)
  (h:∀(kV v a:kn) (b:Option k0) (k ct:kn) (us:LW),us.9=z.9->c0 (qk x y (UC st) (zC st) (MA st) .none kV v a b k ct) #[us,[]]=sn (z.zip us)):OH K u z []:=by
 let#[j,i,kV,v,a,b,k,ct,e,rfl,lk,g]:=F.ex;exact .all (h kV v a b k ct)
theorem Gn{i:kn}{g e:Option k0}{a:Array (Option kn)}{kV v b h ct:kn}(l:K.lookup f=jr #[i,g,.func (qk x y (UC st) (zC st) (MA st) .none kV v b e h ct),a])
  (c:Wm K h y=kf) (k:wW K (.ref f)=kf):Fun K x y st f (qk x y (UC st) (zC st) (MA st) .none kV v b e h ct):=#[#[i,g,kV,v,b,e,h,ct,a,rfl,l,c],k]
end
end
def Same(H h:Hp):Prop:=∀b o,H b=jr o->h b=jr o
theorem Same.refl(H:Hp):Same H H:=λ_ _ h=>h
theorem Same.trans{H y x:Hp}(a:Same H y)(b:Same y x):Same H x:=λc o h=>b c o (a c o h)
theorem Same.free{H x:Hp}(e:Same H x){l:k0}(h:x l=Option.none):H l=Option.none:=by
 cases q:H l with|none=>rfl|some o=>rw[e l o q]at h;cases h
theorem Same.seq{K:QA}{H x:Hp}{a:k0}{xs:LV}(e:Same H x)(h:rC K H a xs):rC K x a xs:=by rcases h with(h|⟨o,h⟩)|h;exact .inl (.inl (e _ _ h));exact .inl (.inr #[o,e _ _ h]);exact .inr h
noncomputable def OO(env:Env):List (Str×fb)->List (Str×k0)->List (Str×k0)
 |[],cs=>cs|(n,k)::r,cs=>OO env r (if k==.free then(n,(env.cells.lookup n).getD 0)::cs else cs)
theorem FX{u:hZ}{env:Env}(h:∀y∈u.names,y.2=.free->∃c,env.cells.lookup y.1=jr c):li u env=sn (OO env u.names []):=by
 have key:∀(l:List (Str×fb)) (v:List (Str×k0)),(∀y∈l,y.2=.free->∃c,env.cells.lookup y.1=jr c) ->
   (forIn l v λ(x:Str×fb) (r:List (Str×k0))=>(if(x.2==NameKind.free)=kf then(do let c <- cellOf env x.1;sn (ForInStep.yield ((x.1,c)::r))) else sn (ForInStep.yield r):Sem (ForInStep (List (Str×k0)))))=sn (OO env l v):=by
  intro l;induction l with
  |nil=>intro v _;rfl|cons y l a =>
   intro v hl;let#[n,k]:=y;rw[QAB];by_cases hk:k=.free;subst hk;let#[c,hc]:=hl (n,.free) QF rfl;have hc:env.cells.lookup n=jr c:=hc;simp only[beq_self_eq_true,if_true,cellOf,hc,pure_bind,OO,Ww];exact a _ λz w=>hl z (QE _ w);have hb:(k==NameKind.free)=false:=by simpa using hk
   simp only[hb,Qv,if_false,pure_bind,OO];exact a _ λz w=>hl z (QE _ w)
 have e:=key u.names [] h;unfold li;exact(o9 (· >>= sn) e).trans (pure_bind _ _)
theorem PP{env:Env}{x:Str}{c:k0}:∀(l:List (Str×fb)) (cs:List (Str×k0)),(∀y∈l,y.2=.free->∃c,env.cells.lookup y.1=jr c)->(∀c,cs.lookup x=jr c->env.cells.lookup x=jr c) ->
  (OO env l cs).lookup x=jr c->env.cells.lookup x=jr c
 |[],cs,_,hc,h=>hc c h|(n,k)::r,cs,hl,hc,h=>by
  refine PP r _ (λz a=>hl z (QE _ a)) (λd u=>?_) h;by_cases hk:k=.free;subst hk;let#[e,v]:=hl (n,.free) QF rfl;have v:env.cells.lookup n=jr e:=v;simp only[beq_self_eq_true,if_true,v,Ww,qa]at u;cases w:x==n with|true=>rw[w]at u;cases u;rw[qY w];exact v|false=>rw[w]at u;exact hc d u
  have hb:(k==NameKind.free)=false:=by simpa using hk
  simp only[hb,Qv,if_false]at u;exact hc d u
theorem RN{env:Env}{x:Str}:∀(l:List (Str×fb)) (cs:List (Str×k0)),((∃c,cs.lookup x=jr c)∨(x,NameKind.free)∈l)->∃c,(OO env l cs).lookup x=jr c
 |[],cs,h=>by rcases h with h|h;exact h;cases h
 | (n,k)::r,cs,h=>by
  refine RN r _ ?_;rcases h with⟨c,h⟩| h;refine .inl ?_;split;rw[qa];split;exact#[_,rfl];exact#[c,h];exact#[c,h];rcases QL.mp h with h|h
  ·cases h
   refine .inl ?_;simp
  exact .inr h
noncomputable def VB:List Bool->Nat->LS->LS
 |b::m,j,x::N=>(if b then#[(Q3 [46,j])] else x)::VB m (j+1) N|_,_,N=>N
noncomputable def CC:List Bool->St->St
 |b::m,v::σ=>(if b then kv else v)::CC m σ|_,σ=>σ
theorem oK:∀(m:List Bool) (σ:St),(CC m σ).9=σ.9
 |[],σ=>by unfold CC;rfl|_::_,[]=>by unfold CC;rfl|b::m,v::σ=>by unfold CC;rw[QO,QO,oK m σ]
theorem MP:∀(m:List Bool) (j:Nat) (N:LS),(VB m j N).9=N.9
 |[],_,N=>by unfold VB;rfl|_::_,_,[]=>by unfold VB;rfl|b::m,j,x::N=>by unfold VB;rw[QO,QO,MP m (j+1) N]
theorem YN:∀(m:List Bool) (j:Nat) (N:LS) (σ:St) (i:Nat) (v:V),(CC m σ)[i]?=jr (jr v)->σ[i]?=jr (jr v)/\(VB m j N)[i]?=N[i]?
 |[],_,N,σ,i,v,h=>by unfold CC at h;unfold VB;exact#[h,rfl]|_::_,_,N,[],i,v,h=>by unfold CC at h;simp at h|b::m,j,[],w::σ,i,v,h=>by
  unfold CC at h;cases i with
  |zero =>
   cases b with|true=>simp at h|false=>simp at h;subst h;exact#[by simp,by unfold VB;rfl]
  |succ i=>have q:=(YN m (j+1) [] σ i v (by simpa using h)).1;exact#[by simpa using q,by unfold VB;rfl]
 |b::m,j,x::N,w::σ,0,v,h=>by
  unfold CC at h;cases b with|true=>simp at h|false=>simp at h;subst h;exact#[by simp,by unfold VB;simp]
 |b::m,j,x::N,w::σ,i+1,v,h=>by unfold CC at h;have q:=YN m (j+1) N σ i v (by simpa using h);unfold VB;exact#[by simpa using q.1,by simpa using q.2]
noncomputable def MM(h sc:hZ):hZ :=
  { h with names:=h.names.map λ(n,k)=>if(k==.free&&sc.kind==.function&&sc.names.lookup n==jr .cell) then(n,.cell) else(n,k) }
theorem XC(sc:hZ)(x:Str):∀(l:List (Str×fb)),
  (l.map λ(n,k)=>if(k==NameKind.free&&sc.kind==.function&&sc.names.lookup n==jr .cell) then(n,NameKind.cell) else(n,k)).lookup x =
   (l.lookup x).map λk=>if(k==NameKind.free&&sc.kind==.function&&sc.names.lookup x==jr .cell) then NameKind.cell else k
 |[]=>rfl|(n,k)::r=>by
  rw[QS];have e:(if(k==NameKind.free&&sc.kind==.function&&sc.names.lookup n==jr .cell)=kf then(n,NameKind.cell) else(n,k)) =
    (n,if(k==NameKind.free&&sc.kind==.function&&sc.names.lookup n==jr .cell)=kf then NameKind.cell else k):=by split<;>rfl
  show w6 x ((if(k==NameKind.free&&sc.kind==.function&&sc.names.lookup n==jr .cell)=kf then(n,NameKind.cell) else(n,k))::_)=_;rw[e,qa,qa];cases h:x==n with|true=>rw[qY h];simp|false=>exact XC sc x r
structure CompSt(N:LS)(sc scope:hZ)(tgs:LS)(mask:List Bool):Prop where
 kind:scope.kind=.function
 nocell:∀y∈scope.names,y.2≠.cell
 names:∀y∈scope.names,y.2=.local->scope.names.lookup y.1=jr .local
 free:∀y∈scope.names,y.2=.free->sc.names.lookup y.1=jr .cell∨sc.names.lookup y.1=jr .free
 loc:∀y∈scope.names,y.2=.local->y.1∈tgs∨y.1=(".0":Str)
 nd:(tgs++VB mask 0 N).Nodup
 no0:(".0":Str)∉tgs++VB mask 0 N
def SA(X:Cx)(h:hZ)(y:LS)(x:List Bool)(s:ku)(H:Hp)(ex:List k0):Cx :=
  { X with N:=y++VB x 0 X.N,s₀:=s,H₀:=H,env:=compEnvC h (OO X.env h.names []) s.1.1.size X.env,outer:=X.stack,stack:=X.stack,ex:=ex,fn:=λ_=>kb,pn:=[],xe:=λ_ _=>False }
def iJ(k:Nat)(h:List Bool)(σ:St):St:=QAd k kv++CC h σ
section
variable{X:Cx}{f:TB}{σ:St}{H:Hp}{s:ku}{w:hZ}{d:LS}{a:List Bool}{ex:List k0}
theorem CompSt.cells(C:CompSt X.N X.env.scope w d a)(ok:X.Ok):∀y∈w.names,y.2=.free->∃c,X.env.cells.lookup y.1=jr c:=λy h x =>
 ok.has y.1 (C.free y h x)
theorem CompSt.kindCF(C:CompSt X.N X.env.scope w d a){x:Str}(h:(ll w X.env).names.lookup x=jr .cell∨(ll w X.env).names.lookup x=jr .free):(x,NameKind.free)∈w.names:=by
 have e:=XC X.env.scope x w.names;have z:(ll w X.env).names.lookup x=(w.names.lookup x).map λk=>if(k==NameKind.free&&X.env.scope.kind==.function&&X.env.scope.names.lookup x==jr .cell) then NameKind.cell else k:=e
 rw[z]at h;cases q:w.names.lookup x with
 |none=>rw[q]at h;simp at h|some k =>
  have hm:=qR q;have y:=C.nocell _ hm;cases k with|free=>exact hm|cell=>exact i2 rfl y|«local»=>rw[q]at h;simp at h|_=>rw[q]at h;simp at h
theorem VX(I:Inv X f σ H s)(C:CompSt X.N X.env.scope w d a)(n:∀b∈ex,TJ X f H b/\b<s.1.1.size){h':vu}{t':Nat}
  (hn:h'.Ns s.1.1.size (λ_=>kv)) (hs:qe s.1.1.size (s.1.push { cls:=.type "dict",data:=.dict #[] }) h') :
  Inv (SA X w d a s H ex) [] (iJ d.9 a σ) H { s with heap:=h',toks:=t' }:=by
 have kept:∀b u,s.1.get? b=jr u->h'.get? b=jr u:=λb u e=>hs.extBut b u (Qo (QW e)) (QH _ e);have look:∀x c,(OO X.env w.names []).lookup x=jr c->X.env.cells.lookup x=jr c:=λx c e=>PP w.names [] (C.cells I.ok) (λc z=>by simp at z) e;have nofs:∀b∈ex,b∉CZ X.stack:=λb hb z=>by let#[#[_,f1,f2,_],_]:=n b hb;rcases QL.mp (I.stkSub b z) with e|e;exact f1 e;exact f2 e
 refine#[#[I.ok.mod,C.kind,I.ok.glob,I.ok.blt,QT _,λx y c E j=>I.ok.inj x y c (look x c E) (look y c j),λx hx=>?_,λx c hf _=>i2 (show kb=kf from hf) QG,I.ok.hd,I.ok.frames,.inl rfl,λb hb=>?_,I.bs,QU I.ok.bsz I.sz,λb o e hb=>?_,nofs,I.stack,I.stkFree,I.tb],
  rfl,I.bare,Un.kept kept,#[_,hn,λi x v E j h3=>?_],λx c h=>?_,I.hok.fresh (QT _),λx c h=>I.freeC x c (look x c h),λp hp=>i2 (show p∈([]:TB) from hp) (by simp),I.hok.kept kept,?_]
 exact RN w.names [] (.inr (C.kindCF hx));let#[#[_,_,_,_,f4,_],lt]:=n b hb;exact#[Qo lt,λx c e=>f4 x c (look x c e)];let#[#[_,_,_,f3,_],_]:=n b hb;rcases f3 with z|z;exact I.ok.noex b o e z;exact i2 (Qs (QW (I.ok.bs b o e).1) z) (qT _)
 ·
  have S:d.9<=i:=by rcases QBO i d.9 with z|z;unfold iJ at j;rw[qP (by simpa using z),wt]at j;split at j<;>cases j;exact z
  have Z:(VB a 0 X.N)[i - d.9]?=jr x:=by have:(d++VB a 0 X.N)[i]?=jr x:=E;rw[Qx S]at this;exact this
  have M:(CC a σ)[i - d.9]?=jr (jr v):=by unfold iJ at j;rw[Qx (by simpa using S)]at j;simpa using j
  let#[g1,g2]:=YN a 0 X.N σ _ v M;rw[g2]at Z;have A:x∈d++VB a 0 X.N:=qW (show(d++VB a 0 X.N)[i]?=jr x from E);have K:x∉d:=λz=>by have nd:=C.nd;rw[qy]at nd;exact nd.2.2 x z x (qW (by rw[g2];exact Z)) rfl
  have g:(x,NameKind.free)∈w.names:=by
   rcases h3 with z|z|z;exfalso;have e:(ll w X.env).names.lookup x=jr .local:=z;have P:=XC X.env.scope x w.names;have O:(ll w X.env).names.lookup x=(w.names.lookup x).map λk=>if(k==NameKind.free&&X.env.scope.kind==.function&&X.env.scope.names.lookup x==jr .cell) then NameKind.cell else k:=P
   rw[O]at e;cases q:w.names.lookup x with
   |none=>rw[q]at e;cases e|some k =>
    rw[q]at e;have hm:=qR q;have G:k=.local:=by
     cases k with|«local»=>rfl|free=>simp at e;split at e<;>cases e|_=>simp at e
    subst G;rcases C.loc _ hm rfl with z|z;exact K z;exact C.no0 (z▸A)
   exact C.kindCF (.inl z);exact C.kindCF (.inr z)
  let#[m,hnm,hl]:=I.loc;have F:uv X.env.scope x:=.inr (C.free _ g rfl);let#[u,r,l]:=hl _ x v Z g1 F;refine#[u,r,?_];rcases l with⟨k,_⟩| ⟨_,c,hc,Y⟩
  exfalso;have R:X.env.scope.names.lookup x=jr .local:=k;rcases C.free _ g rfl with z|z;have W:X.env.scope.names.lookup x=jr .cell:=z;rw[R]at W;cases W;have W:X.env.scope.names.lookup x=jr .free:=z;rw[R]at W;cases W;let#[Q,B]:=RN (env:=X.env) w.names [] (.inr g);have:Q=c:=by have:=look x Q B;rw[hc]at this;exact(Qn this).symm
  subst this;refine .inr #[?_,Q,B,?_];rcases h3 with z|z|z
  ·exfalso
   have e:(ll w X.env).names.lookup x=jr .local:=z;have P:=XC X.env.scope x w.names;have O:(ll w X.env).names.lookup x=(w.names.lookup x).map λk=>if(k==NameKind.free&&X.env.scope.kind==.function&&X.env.scope.names.lookup x==jr .cell) then NameKind.cell else k:=P
   rw[O]at e;cases q:w.names.lookup x with
   |none=>rw[q]at e;cases e|some k =>
    rw[q]at e;have hm:=qR q;have G:k=.local:=by
     cases k with|«local»=>rfl|free=>simp at e;split at e<;>cases e|_=>simp at e
    subst G;rcases C.loc _ hm rfl with z|z;exact K z;exact C.no0 (z▸A)
  exact .inl z;exact .inr z;let#[o,J,L]:=Y;exact#[o,kept _ _ J,L]
 let#[v,o,J,L]:=I.cell x c (look x c h);exact#[v,o,kept _ _ J,L];show(iJ d.9 a σ).9=(d++VB a 0 X.N).9;unfold iJ;rw[QI,QI,wA,oK,MP,I.len]
end
section
variable{X:Cx}{h:TB}{σ a:St}{H k:Hp}{s s':ku}{x:hZ}{d:LS}{w:List Bool}{ex:List k0}{D:k0}{y:LV}{its:LW}
theorem XX(I:Inv X h σ H s)(l:∀b∈ex,TJ X h H b/\b<s.1.1.size)(W:D∈ex)(J:Inv (SA X x d w s H ex) [] a k s')(f:k D=kv)(hv:lA y its)(B:y.9<=kt)
  (hl:s'.1.PlainList D its.toArray) {g:vu}(hs:qe s.1.1.size s'.1 g):Inv X h σ (FA k D (.lst y)) { s' with heap:=g }:=by
 have un:Un (CZ X.stack) ex H k s.1 s'.heap:=J.base;have j:∀b o,s.1.get? b=jr o->b≠s.1.1.size:=λb o e=>Qo (QW e);have C:=l D W;have Z:k s.1.1.size=none:=J.free;have M:D≠s.1.1.size:=Qo C.2;have m:∀b u,b≠s.1.1.size->s'.1.get? b=jr u->g.get? b=jr u:=λb u A e=>hs.extBut b u A e;refine I.call' (s':={ s' with heap:=g }) (ch:=ex) J.os #[λb o e n hb i=>?_,λb o e n hb i=>?_,λb o e n i=>?_,λb o e i=>?_,λb p e=>?_,λb o u e=>?_,λb r e=>?_] ?_ J.bare λb hb=>?_;exact m b o (j b o e) (un.keep b o e n hb i);let#[K,q]:=un.slot b o e n hb i;exact#[K,m b _ (j b o e) q];have q:=un.free b o e n i;rw[uA (λ(z:b=D)=>i (by rw[z];exact W))];exact q;let#[Y,q]:=un.there b o e i;exact#[Y,m b Y (j b o e) q];rw[uA (iA (un.tups b p e) f)];exact un.tups b p e;rw[uA (iA (un.frzs b o u e) f)];exact un.frzs b o u e;rw[uA (iA (un.tbls b r e) f)];exact un.tbls b r e;intro b u e;by_cases hb:b=D;subst hb;rw[YA]at e;cases e;let#[n,q]:=hl;exact#[B,its,n,hv,m _ _ M q];rw[uA hb]at e;refine(J.hok b u e).stay (λc v hc q=>m c v ?_ q) (λc q=>?_) λc p q=>?_;rintro rfl;rcases hc with z|z;subst z;rw[Z]at e;cases e;rw[Z]at z;cases z;rw[uA (iA q f)];exact q;rw[uA (iA q f)];exact q;let#[#[O,L,N,G,F,E],_]:=l b hb;exact#[G,L,F,E]
end
section
variable{X:Cx}{s:ku}{V Z K:Expr}{U:List Expr}{d:hZ}{pos:Pos}{B:TI}{g:TG}{tc:TT}{te:TE}{Y:LS}{j:List Bool}{l:TB}
def Yv(X:Cx)(U:List Expr)(t:TT):Prop:=∀(l:TB) (s:ku) (h:St) (H:Hp) (Q:Bool->Hp->Prop),Inv X l h H s->t h H Q ->
 ko (k4 X.prog X.w) X.A (forIn U kf λc r=>if r=kf then do let ok <- isTrue c X.env (g6 c X.env);sn (ForInStep.yield ok) else sn (ForInStep.yield r)) (TP X l h Q) X.xe s
theorem jZ:Yv X [] (λ_ H Q=>Q kf H):=λl s x H Q I h=>by rw[QBl];exact QK #[H,I,h]
theorem IY{c:Expr}{t:TT}(hc:PT X c t):Yv X [c] t:=λl s x H Q I h=>by rw[QAB];simp only[if_true];refine QC (QC (GB (hc l s x H Q I h) λb y q=>QK ?_));dsimp only;rw[QBl];exact QK q
theorem rH{prog:vx}{w:x0}{A:y1}{R:Result->ku->Prop}{y:Expr}{it q:kn}{env:Env}(I:Nat->ku->Prop)
  (W:∀n s,I n s->ko (k4 prog w) A (mm it) (λr k=>match r with
   |none=>R (.ok .next) k|some v=>ko (k4 prog w) A (DC y it v) (λ_ u=>ko (k4 prog w) A (ew y env v) (λ_ f =>
     ko (k4 prog w) A (forIn U kf λc r=>if r=kf then do let ok <- isTrue c env (g6 c env);sn (ForInStep.yield ok) else sn (ForInStep.yield r)) (λok z =>
      if ok=kf then ko (k4 prog w) A (g6 V env) (λx e =>
       ko (k4 prog w) A (d3 (.builtin "list.append") [q,x]) (λ_ b=>∃m,m<n/\I m b) (λ_ _=>False) e) (λ_ _=>False) z
      else ∃m,m<n/\I m z) (λ_ _=>False) f) (λ_ _=>False) u) (λ_ _=>False) k) (λ_ _=>False) s)
  (n:Nat) (h:I n s) :
  mA (k4 prog w) A (.compLoop (.ListComp V [#[y,Z,U,0]] d pos) 0 it q env) R s:=by
 refine codeAny_loop rfl I (λn s G=>?_) n h;show ko _ A ((compTurn (.ListComp V [#[y,Z,U,0]] d pos) 0 it q env).onRaise (λx=>do noteFrame x env;theTreesLotGoes x)) _ _ s;refine wpAny_noted ?_;rw[compTurn_list];refine QC (QB5 (QC (wC (W n s G) (λr k o=>?_) λ_ _ a=>a.elim)));cases r with
 |none=>exact QK o|some v =>
  refine QC (wC o (λ_ u p=>?_) λ_ _ a=>a.elim);refine QC (wC p (λ_ f F=>QC (wC F (λok z i=>?_) λ_ _ a=>a.elim)) λ_ _ a=>a.elim);cases ok with|false=>exact QK #[rfl,i]|true=>exact QC (QC (wC i (λx e E=>QC (wC E (λ_ b C=>QK (QK #[rfl,C])) λ_ _ a=>a.elim)) λ_ _ a=>a.elim))
def j6(B:TI)(g:TG)(tc:TT)(te:TE)(k:Nat)(j:List Bool):TE:=λa H Q=>B a H λJ q=>∃W:Nat->Nat->LV->St->Hp->Prop,(∃m,W 0 m [] (iJ k j a) q) /\
 ∀i m h v u,W i m h v u->(J.stop i u/\h.9<=kt/\∀p,u p=kv->Q (.ref p) (FA u p (.lst h))) ∨
  (J.go i u/\∀x f,J.yld i u x f->g x v f λz o=>tc z o λb e=>if b=kf then te z e λy n=>h.9<kt/\∃w,w < m/\W (i+1) w (h++[y]) z n else ∃w,w < m/\W (i+1) w h z e)
def Fv(X:Cx)(l:TB)(H:Hp)(s:ku)(C:k0):Prop :=
 H C=kv/\C≠X.env.locals/\X.s₀.1.1.size<=C/\(∀x c,X.env.cells.lookup x=jr c->c≠C)/\(∀p∈X.pn++l,p.1≠C)/\∃m,s.1.Ns C m
theorem OU{pos':Pos}{use:Option (kn->Sem Unit)}(hc:X.calm=kf)(hi:PI X K Z B)(C:CompSt X.N X.env.scope d Y j)
  (inner:∀s H ex,PG (SA X d Y j s H ex) K g/\Yv (SA X d Y j s H ex) U tc/\PE (SA X d Y j s H ex) V te)
  (hs:∀x,hB Z X.env x=sn x) {σ:St}{H:Hp}{Q:VK}{QQ:uC}(I:Inv X l σ H s) (h:j6 B g tc te Y.9 j σ H Q)
  (fin:∀(D:k0) (f:Hp) (s6:ku) (F:k0),Inv X l σ f s6->Fv X l f s6 F->Q (.ref D) f->compPost (k4 X.prog X.w) X.A X.xe use QQ (.ref D) F (.ok .next) s6) :
  ko (k4 X.prog X.w) X.A (pR (.ListComp V [#[K,Z,U,0]] d pos) d X.env pos' (newList []) kb (g6 Z X.env) use) QQ X.xe s:=by
 refine wpAny_comprehension_free (use:=use) rfl hs (FX (C.cells I.ok)) C.kind C.names (GB (hi l s σ H _ I h) λv s1 h1=>GB h1 λitv s2 h2=>?_);let#[it,a,tn,J,E,e,I2,T,st2,f2,W,#[m0,w0],turn]:=h2;subst e;refine Q2 ?_;have I3:Inv X l σ E { s2 with heap:=s2.1.push { cls:=.type "list",data:=.seq ([]:LW).toArray } }:=I2.kept (t':=s2.toks) λb o e=>QH _ e;generalize hS:({ s2 with heap:=s2.1.push { cls:=.type "list",data:=.seq ([]:LW).toArray } }:ku)=s3 at I3;have sz3:s3.1.1.size=s2.1.1.size+1:=by rw[<- hS];exact WH ..
 have lst3:s3.1.PlainList s2.1.1.size ([]:LW).toArray:=#[0,by rw[<- hS];exact QR _ rfl]
 have old3:∀b o,s2.1.get? b=jr o->s3.1.get? b=jr o:=λb o e=>by rw[<- hS];exact QH _ e
 generalize hDd:s2.1.1.size=D at sz3 lst3;have fD:TJ X l E D:=by rw[<- hDd];exact I2.fpOk (QT _) (I2.hok.fresh (QT _))
 have fpl:∀b∈a,b<D:=λb hb=>by let#[o,e,_]:=T.obj _ _ st2 b hb;rw[<- hDd];exact QW e
 have hex:∀b∈D::a,TJ X l E b/\b<s3.1.1.size:=λb hb=>by rcases QL.mp hb with z|z;subst z;exact#[fD,by rw[sz3];exact QCY _];exact#[f2 b z,by rw[sz3];exact Wi (fpl b z)]
 refine QBc C.nocell (by intro y hy;simp at hy) (λh' hn hsb=>?_) C.kind;have J0:Inv (SA X d Y j s3 E (D::a)) [] (iJ Y.9 j σ) E { s3 with heap:=h',toks:=s3.toks+([]:List (Str×kn)).9 }:=VX I3 C hex hn hsb;have kept:∀b u,s3.1.get? b=jr u->h'.get? b=jr u:=λb u e=>hsb.extBut b u (Qo (QW e)) (QH _ e);let#[pg,pf,pl]:=inner s3 E (D::a);have loop:∀s4:ku,s4={ s3 with heap:=h',toks:=s3.toks+([]:List (Str×kn)).9 } ->
   mA (k4 X.prog X.w) X.A (.compLoop (.ListComp V [#[K,Z,U,0]] d pos) 0 (.ref it) (.ref D) (compEnvC d (OO X.env d.names []) s3.1.1.size X.env))
    (compPost (k4 X.prog X.w) X.A X.xe use QQ (.ref D) s3.1.1.size) s4:=by
  rintro s4 rfl;have exok:∀{f:Hp},(∀b∈D::a,f b=kv)->∀(pp:TB),(∀p∈pp,p.1∉a)->∀b∈a,TJ (SA X d Y j s3 E (D::a)) pp f b:=λ{f} hn pp hpp b hb=>by have g:=J0.ok.exf b (QE _ hb);exact#[hn b (QE _ hb),g.1,J0.ok.exfs b (QE _ hb),.inl (QE _ hb),g.2,λp G z=>hpp p (by simpa[SA]using G) (z▸hb)]
  have DX:=J0.ok.exf D QF;have Dfp:D∉a:=λz=>qT _ (fpl D z);refine rH (λn M=>∃i m f L k,Inv (SA X d Y j s3 E (D::a)) [] m f M/\tn i M.1/\(∀b∈D::a,f b=kv)/\lA L k/\M.1.PlainList D k.toArray/\W i n L m f) ?_ m0
   #[0,_,E,[],[],J0,T.keep _ _ _ (T.keep _ _ _ st2 λb hb o e=>old3 b o e) λb hb o e=>kept b o e,λb hb=>((hex b hb).1).1,.nil,lst3.at λo e=>kept _ _ e,w0]
  rintro n s5 ⟨i,P,H5,L,k,I5,st5,fr5,va5,ls5,w5⟩;let#[R,lo]:=id ls5;have pinD:∀{m:St}{f:Hp}{M:ku},Inv (SA X d Y j s3 E (D::a)) [] m f M->(∀b∈D::a,f b=kv)->M.1.get? D=jr { cls:=.type "list",dict:=kv,data:=.seq k.toArray R } ->
    Inv (SA X d Y j s3 E (D::a)) [(D,{ cls:=.type "list",dict:=kv,data:=.seq k.toArray R })] m f M:=λ{m f M} I' fr' e' =>
   I'.pins_of λp G=>by
    have e:p=(D,{ cls:=.type "list",dict:=kv,data:=.seq k.toArray R }):=by simpa using G
    subst e;exact#[e',fr' D QF,DX.1,J0.ok.exfs D QF,λv z=>by cases z]
  have S:∀p∈[(D,({ cls:=.type "list",dict:=kv,data:=.seq k.toArray R }:Obj))],p.1∉a:=λp G=>by
   have e:p=(D,{ cls:=.type "list",dict:=kv,data:=.seq k.toArray R }):=by simpa using G
   subst e;exact Dfp
  have I5':=pinD I5 fr5 lo;rcases turn i n L P H5 w5 with⟨stop,hz,qn⟩| ⟨go,step⟩
  refine GB (T.done (SA X d Y j s3 E (D::a)) rfl rfl rfl hc i _ s5 P H5 (λ_ _=>False) I5' (exok fr5 _ S) st5 stop) λr s6 #[hr,I6]=>?_;subst hr;let#[m6,hn6,_]:=I6.loc;have l6:s6.1.PlainList D k.toArray:=#[R,(I6.pin _ (QY _ (QJ.mpr rfl))).1]
  have I6':Inv (SA X d Y j s3 E (D::a)) [] P H5 s6:=I6.pins_of λp G=>by simp at G
  have Iout:Inv X l σ (FA H5 D (.lst L)) s6:=XX I3 hex QF I6' (fr5 D QF) va5 hz l6 (qe.refl _ _);have lC:H5 s3.1.1.size=none:=I6'.free;refine fin D _ s6 s3.1.1.size Iout #[?_,wy I3.lt,I3.sz,λx c e z=>?_,λp G z=>?_,m6,hn6] (qn D (fr5 D QF));rw[uA (λ(z:s3.1.1.size=D)=>i2 (hex D QF).2 (by rw[z];exact qT _))];exact lC;let#[v,q]:=I3.cell x c e;exact i2 q.lt (by rw[z];exact qT _);exact i2 (QW (I3.pin p G).1) (by rw[z];exact qT _);refine GB (T.item (SA X d Y j s3 E (D::a)) rfl rfl rfl hc i _ s5 P H5 (λ_ _=>False) I5' (exok fr5 _ S) st5 go) λr s6 #[u,hr,h6]=>?_;subst hr;refine GB h6 λ_ s7 #[x,H7,I7,r7,y7,st7,fr7]=>?_;have hD7:=(I7.pin _ (QY _ (QJ.mpr rfl)))
  have fr7':∀b∈D::a,H7 b=none:=λb hb=>by rcases QL.mp hb with z|z;subst z;exact hD7.2.1;exact fr7 b z
  have I7':=I7.pinned (exok fr7' _ S) (T.obj _ _ st7);have bk:∀{m:St}{f:Hp}{M:ku},Inv (SA X d Y j s3 E (D::a)) ([(D,{ cls:=.type "list",dict:=kv,data:=.seq k.toArray R })]++uN a s7.1) m f M ->
    M.1.get? D=jr { cls:=.type "list",dict:=kv,data:=.seq k.toArray R }/\tn (i+1) M.1/\(∀b∈D::a,f b=kv):=λ{m f M} I'=>by
   have hD:=I'.pin (D,{ cls:=.type "list",dict:=kv,data:=.seq k.toArray R }) (QY _ (Qm _ (QJ.mpr rfl)));refine#[hD.1,T.keep _ _ _ st7 λb hb o e=>(I'.pin (b,o) (QY _ (QY _ (gF hb e)))).1,λb hb=>?_];rcases QL.mp hb with z|z;subst z;exact hD.2.1;let#[o,e,_]:=T.obj _ _ st7 b z;exact(I'.pin (b,o) (QY _ (QY _ (gF z e)))).2.1
  refine GB (pg _ s7 P H7 x u _ I7' r7 (step x H7 y7)) λ_ s8 #[O,H8,I8,q8]=>?_;refine GB (pf _ s8 O H8 _ I8 q8) λok s9 #[H9,I9,q9]=>?_;cases ok with
  |false=>let#[m',hm,w']:=q9;let#[b1,b2,b3]:=bk I9;exact#[m',hm,i+1,O,H9,L,k,I9.pins_of λp G=>by simp at G,b2,b3,va5,#[R,b1],w']|true =>
   refine GB (pl _ s9 O H9 _ I9 q9) λy s10 #[yv,H10,I10,r10,hz,m',hm,w']=>?_;let#[b1,b2,b3]:=bk I10;have hlen:=va5.9;refine wpAny_list_append_plain (hsz:=by rw[QN];omega) (show s10.1.PlainList D k.toArray from#[R,b1]) λh11 hl11 hs11=>?_;refine#[m',hm,i+1,O,H10,L++[yv],k++[y],?_,T.keep _ _ _ b2 λb hb o e=>(hs11.2 b (λz=>Dfp (z▸hb))).trans e,b3,va5.append (.cons r10 .nil),by simpa using hl11,w'];have I10':Inv (SA X d Y j s3 E (D::a)) [] O H10 s10:=I10.pins_of λp G=>by simp at G
   exact I10'.turned (t':=s10.toks) (λb o hb e=>(hs11.2 b hb).trans e) (b3 D QF) DX.1 (.inl QF) DX.2 λp G=>by simp[SA]at G
 refine codeAny_compStart_list (loop _ rfl) (T.self X.A 0 _ _ _ (T.keep _ _ _ (T.keep _ _ _ st2 λb hb o e=>old3 b o e) λb hb o e=>kept b o e) (loop _ rfl))
theorem FN{σ:St}{H:Hp}{F:k0}(I:Inv X l σ H s)(f:Fv X l H s F){h':vu}(hs:qe F s.1 h'):Inv X l σ H { s with heap:=h' }:=by let#[u,z,y,x,h,_]:=f;exact I.turned (t':=s.toks) (λb o hb e=>(hs.2 b hb).trans e) u z (.inr y) x h
theorem jd(hc:X.calm=kf)(v:PI X K Z B)(C:CompSt X.N X.env.scope d Y j)
  (y:∀s H ex,PG (SA X d Y j s H ex) K g/\Yv (SA X d Y j s H ex) U tc/\PE (SA X d Y j s H ex) V te)
  (hs:∀x,hB Z X.env x=sn x:=by intro _;rfl):PE X (.ListComp V [#[K,Z,U,0]] d pos) (j6 B g tc te Y.9 j):=by
 intro l s a H Q I h;rw[eval_ListComp];refine OU hc v C y hs I h λD k b F w f q=>?_;let#[m,u]:=f.2.2.2.2.2;exact#[m,u,λe z=>#[.ref D,k,FN w f z,rfl,q]]
theorem Gc{cpos u:Pos}{i:Nat}{x:Str}(hc:X.calm=kf)(R:X.N.Nodup)(n:X.N[i]?=jr x)(p:X.env.scope.names.lookup x=jr .local)
  (P:PI X K Z B) (C:CompSt X.N X.env.scope d Y j)
  (y:∀s H ex,PG (SA X d Y j s H ex) K g/\Yv (SA X d Y j s H ex) U tc/\PE (SA X d Y j s H ex) V te)
  (hs:∀x,hB Z X.env x=sn x) (k:b8 (.ListComp V [#[K,Z,U,0]] d cpos) (jr (.Name x u)) pos.line X.env=sn kf) :
  PS X (.Assign [.Name x u] (.ListComp V [#[K,Z,U,0]] d cpos) pos) (Oj (j6 B g tc te Y.9 j) (XZ i)):=by
 intro l s σ H D0 I h;rw[exec_Assign_Name_used _ _ _ _ k];refine QC (QB5 (QC ?_));show ko _ X.A (do let _ <- pR (.ListComp V [#[K,Z,U,0]] d cpos) d X.env _ (newList []) kb (g6 Z X.env) (jr (ew (.Name x u) X.env))) _ _ s;refine QC (wC (OU (use:=jr (ew (.Name x u) X.env)) (QQ:=λ_ o=>SP X l D0 .next o) hc P C y hs I h λD H' J F I6 f q=>?_) (λ_ o M=>QK (QK M)) λ_ _ e=>e);show ko _ X.A (ew (.Name x u) X.env (.ref D)) _ _ J;refine QCG (lP I6 R n (.inl p) (v:=.ref D) rfl (λG I7 #[a,E,Q]=>?_) (.inr p));let#[f0,W,f2,r,S,m,O]:=f;have L:F≠a:=by rcases Q with z|z;rw[z];exact W;exact λe=>r x a z e.symm
 have w:G.1.Ns F m:=O.sameBut E L;exact#[m,w,λh' b=>#[_,H',FN I7 #[f0,W,f2,r,S,m,w] b,q]]
end
end L2
namespace L2.L3
open PySem PySem.Spec PyProof.Rows
def Kr(K:QA):R2:=λx y H Q=>match x,y with
 | .int i,.int j=>Q (.int (i+j)) H|.str a,.str b=>a.9+b.9<=kt/\Q (.str (a++b)) H|.ref a,.ref b=>∃z h,rC K H a z/\rC K H b h/\z.9+h.9<=kt/\∀p,H p=kv->Q (.ref p) (FA H p (.lst (z++h)))|_,_=>False
noncomputable def Iq:R2:=λx y H Q=>match x,y with
 | .int i,.int j=>Q (.int (i - j)) H|_,_=>False
noncomputable def ur(K:QA):R2:=λx y H Q=>match x,y with
 | .int i,.int j=>l0 i j/\Q (.int (i * j)) H|_,_=>False
noncomputable def Fg:R2:=λx y H Q=>match x,y with
 | .int i,.int j=>(0<j/\j<2 ^ 200)/\Q (.int (i / j)) H|_,_=>False
noncomputable def br:R2:=λx y H Q=>match x,y with
 | .int i,.int j=>0<j/\Q (.int (i % j)) H|_,_=>False
section
variable{X:Cx}
theorem op_add:IE X (h8 .Add) (Kr X.K):=by
 intro w s n H x y v u Q I g f h;cases x with
 |int i =>
  cases y with|int j=>exact _root_.L2.op_add w s n H _ _ v u Q I g f #[i,j,rfl,rfl,h]|_=>exact Qd h
 |str a =>
  cases y with|str b=>exact JW w s n H _ _ v u Q I g f #[a,b,rfl,rfl,h.1,h.2]|_=>exact Qd h
 |ref a =>
  cases y with
  |ref b =>
   let#[xs,ys,N,M,hz,q]:=h;cases g;cases f;let#[k,r,#[#[S,R,A,G],L,W,E,d1,p],z1]:=I.list N;let#[z,Y,#[#[B,l,m,e],J,Z,C,d2,o],z2]:=I.list M;simp only at E p C o;subst E p C o;have hl:=r.9;have O:=Y.9;refine concat_meets #[_,W,rfl] #[_,Z,rfl] noFill_list_add seq_list_add PySem.F.slot_list_add PySem.F.entry_list_add (PySem.F.args_list_add_2 _ _) (list_addW a b k.toArray z.toArray L J R l G e (by simp;omega)) #[W,Z,?_];have P:k.toArray++z.toArray=(k++z).toArray:=by simp
   rw[P];exact#[.ref _,_,I.lnew (t':=s.toks) (r.append Y) (by rw[QI];omega),rfl,q _ I.fresh]
  |_=>exact Qd h
 |_=>exact Qd h
theorem op_sub:IE X (h8 .Sub) Iq:=by
 intro z s w H x y v u Q I a k h;cases x with
 |int i =>
  cases y with|int j=>exact _root_.L2.op_sub z s w H _ _ v u Q I a k #[i,j,rfl,rfl,h]|_=>exact Qd h
 |_=>exact Qd h
theorem Yd:IE X (h8 .FloorDiv) Fg:=by
 intro z s a H x y v u Q I k w h;cases x with
 |int i =>
  cases y with
  |int j =>
   let#[t,rfl]:=k;let#[b,rfl]:=w;let#[#[f,e],q]:=h;refine floordiv_int () ?_ (.inl (PyProof.noPylong_of_log2 ?_));rw[Int.fdiv_eq_ediv_of_nonneg i ()];exact#[.int _,H,I.tok _,#[_,rfl],q];have:j.natAbs<2 ^ 200:=()
   have:=(Nat.log2_lt (show j.natAbs≠0 by omega)).mpr this;omega
  |_=>exact Qd h
 |_=>exact Qd h
theorem op_mod:IE X (h8 .Mod) br:=by
 intro z s w H x y v u Q I a k h;cases x with
 |int i =>
  cases y with|int j=>exact _root_.L2.op_mod z s w H _ _ v u Q I a k #[i,j,rfl,rfl,h.1,h.2]|_=>exact Qd h
 |_=>exact Qd h
theorem Vl:IE X (h8 .Mult) (ur X.K):=by
 intro z s a H x y v u Q I k w h;cases x with
 |int i =>
  cases y with|int j=>let#[t,rfl]:=k;let#[b,rfl]:=w;exact mul_int #[.int _,H,I.tok _,#[_,rfl],h.2] h.1|_=>exact Qd h
 |_=>exact Qd h
end
end L2.L3
namespace L2
open PySem PySem.Spec PyProof.Rows
section
variable{κ:Type}[DecidableEq κ]
section
variable{p:κ×V}{r kvs:List (κ×V)}{vs:List (κ×kn)}{u:kn}
noncomputable def iM(kvs:List (κ×V))(k:κ):Option V:=(kvs.find? λh=>decide (h.1=k)).map (·.2)
noncomputable def sW(kvs:List (κ×V))(k:κ)(v:V):List (κ×V) :=
 if(kvs.any λh=>decide (h.1=k))=kf then kvs.map (λh=>if h.1=k then(h.1,v) else h) else kvs++[(k,v)]
theorem aM{k:κ}(e:p.1=k):iM (p::r) k=jr p.2:=by simp[iM,wN,e]
theorem eM{k:κ}(e:¬ p.1=k):iM (p::r) k=iM r k:=by simp[iM,wN,e]
theorem ES(k:κ):∀kvs:List (κ×V),(kvs.any λh=>decide (h.1=k))=(iM kvs k).isSome
 |[]=>rfl|p::r=>by rw[WC];by_cases e:p.1=k;simp only[aM e,dT e,QCU,Option.isSome_some];rw[eM e,dF e,QAz];exact ES k r
theorem lU(kvs:List (κ×V))(k:κ)(v:V):(sW kvs k v).9<=kvs.9+1:=by unfold sW;split;rw[QD];omega;rw[QI,QO,wc];omega
theorem eV.isSome_eq{o:Option V}{u:Option kn}(r:eV o u):o.isSome=u.isSome:=by
 cases o with
 |none=>cases u with|none=>rfl|some _=>exact(show False from r).elim
 |some _=>cases u with|none=>exact(show False from r).elim|some _=>rfl
theorem KV.val(r:KV kvs vs)(k:κ):eV (iM kvs k) (ln vs k):=by
 unfold KV at r;induction r with
 |nil=>exact True.intro|@cons p q f x h t w =>
  let#[v,a]:=h;by_cases e:p.1=k;have y:q.1=k:=v.symm.trans e;have b:ln (q::x) k=jr q.2:=by simp[ln,wN,y]
  rw[aM e,b];exact a;have y:¬ q.1=k:=λz=>e (v.trans z);have b:ln (q::x) k=ln x k:=by simp[ln,wN,y]
  rw[eM e,b];exact w
theorem KV.any(r:KV kvs vs)(k:κ):(kvs.any λx=>decide (x.1=k))=vs.any λx=>decide (x.1=k):=by
 unfold KV at r;induction r with|nil=>rfl|cons h t y=>rw[WC,WC,y,h.1]
theorem KV.repl(r:KV kvs vs)(k:κ){y:V}(w:aA y u) :
  KV (kvs.map λx=>if x.1=k then(x.1,y) else x) (vs.map λx=>if x.1=k then(x.1,u) else x):=by
 unfold KV at r ⊢;induction r with|nil=>exact .nil|@cons p q g f h t a=>rw[QS,QS];refine .cons ?_ a;let#[v,b]:=h;by_cases e:p.1=k;rw[i0 e,i0 (v.symm.trans e)];exact#[v,w];rw[ii e,ii (λz=>e (v.trans z))];exact#[v,b]
theorem KV.put(r:KV kvs vs)(k:κ){y:V}(h:aA y u):KV (sW kvs k y) (stored vs k u):=by unfold sW stored;rw[r.any k];by_cases e:(vs.any λx=>decide (x.1=k))=kf;rw[i0 e,i0 e];exact r.repl k h;rw[ii e,ii e];exact Paired.snoc r #[rfl,h]
theorem KV.length(r:KV kvs vs):kvs.9=vs.length:=Q6 r
end
end
theorem BN{P:vx}{w:x0}{k:Key}{u:kn}(r:aA (kV k) u):(TD P w).is k u=true:=by
 cases k with|inl i=>let#[t,e]:=(show ∃t,u=Value.int i t from r);subst e;exact uU P w i t|inr x=>let#[t,e]:=(show ∃t,u=Value.str x t from r);subst e;exact xU P w x t
end L2
namespace L2.L3
open PySem PySem.Spec PyProof.Rows
section
variable{r kvs:List KE}{xs:List (NK×k0×kn)}
noncomputable abbrev KE:=NK×k0×V
noncomputable def fH(kvs:List KE)(k:NK):Option V:=(kvs.find? λp=>decide (p.1=k)).map (·.2.2)
def OM(kvs:List KE)(k:NK)(b:k0)(v:V):List KE :=
 if(fH kvs k).isSome=kf then kvs.map (λp=>if p.1=k then(p.1,p.2.1,v) else p) else kvs++[(k,b,v)]
noncomputable abbrev KD:List KE->List (NK×k0×kn)->Prop:=xb λ(p:NK×k0×V) (q:NK×k0×kn)=>p.1=q.1/\p.2.1=q.2.1/\aA p.2.2 q.2.2
theorem IS{p:KE}{k:NK}(e:p.1=k):fH (p::r) k=jr p.2.2:=by simp[fH,wN,e]
theorem jT{p:KE}{k:NK}(e:¬ p.1=k):fH (p::r) k=fH r k:=by simp[fH,wN,e]
theorem KD.val(r:KD kvs xs)(k:NK):eV (fH kvs k) ((ef xs k).map (·.2)):=by
 induction r with
 |nil=>exact True.intro|@cons p q a x h t v =>
  let#[u,_,w]:=h;by_cases e:p.1=k;have y:q.1=k:=u.symm.trans e;have b:ef (q::x) k=jr q.2:=by simp[ef,wN,y]
  rw[IS e,b];exact w;have y:¬ q.1=k:=λz=>e (u.trans z);have b:ef (q::x) k=ef x k:=by simp[ef,wN,y]
  rw[jT e,b];exact v
theorem KD.put(r:KD kvs xs)(k:NK)(b:k0){y:V}{u:kn}(v:aA y u):KD (OM kvs k b y) (Rt xs k b u):=by
 have e:(fH kvs k).isSome=(ef xs k).isSome:=by rw[(r.val k).isSome_eq,QAp]
 unfold OM Rt;rw[e];by_cases q:(ef xs k).isSome=kf;rw[i0 q,i0 q];clear e q;induction r with|nil=>exact .nil|@cons p q i g h t a=>rw[QS,QS];refine .cons ?_ a;let#[x,w,f]:=h;unfold putAt;by_cases e:p.1=k;rw[i0 e,i0 (x.symm.trans e)];exact#[x,w,v];rw[ii e,ii (λz=>e (x.trans z))];exact#[x,w,f]
 rw[ii q,ii q];exact Paired.snoc r #[rfl,rfl,v]
theorem mU(kvs:List KE)(k:NK)(b:k0)(v:V):(OM kvs k b v).9<=kvs.9+1:=by unfold OM;split;rw[QD];omega;rw[QI,QO,wc];omega
end
mutual
def yp(K:QA)(H:Hp):NK->V->Prop
 | .s x,v=>v=.str x|.t ks,v=>∃a h,v=.ref a/\CD K H a h/\KyVs K H ks h
def KyVs(K:QA)(H:Hp):List NK->LV->Prop
 |[],xs=>xs=[]|k::ks,xs=>∃x r,xs=x::r/\yp K H k x/\KyVs K H ks r
end
def xP(K:QA)(H:Hp)(b:k0)(k:NK):Prop:=yp K H k (.ref b)/\d8 k<=6
theorem uJ{P:vx}{w:x0}{A:y1}(h:A.units+60<gp):(bF P w).room A.in1:=by show A.in1.units+8<gp;rw[QA9];omega
def CG(K:QA)(H:Hp)(kvs:List KE):Prop:=∀p∈kvs,xP K H p.2.1 p.1
theorem Inv.big{X:Cx}{x:TB}{σ:St}{H:Hp}{s:ku}(I:Inv X x σ H s):gV<s.1.1.size:=by have h:k5<s.1.1.size:=(I.mod.glob.keeps I.bk).lt;exact QAV (by decide) h
section
variable{X:Cx}{y:TB}{σ:St}{H:Hp}{s:ku}{a b:k0}
mutual
theorem Zt(I:Inv X y σ H s):∀{k:NK}{x:V}{u:kn},yp X.K H k x->aA x u->m5 s.1 k u
 | .s z,x,u,e,r=>by cases(show x=.str z from e);exact r|.t ks,x,u,#[a,xs,e,q,p],r=>by subst e;cases r;let#[h,v,#[o,g,f,n,w],_]:=I.tuple q;exact#[a,h.toArray,rfl,#[o,g,f,n,w],by simpa using ky_vs I p v]
theorem ky_vs(I:Inv X y σ H s):∀{ks:List NK}{xs:LV}{us:LW},KyVs X.K H ks xs->lA xs us->NKvs s.1 ks us
 |[],xs,us,e,r=>by cases(show xs=[] from e);cases r;rfl|k::ks,xs,us,#[x,r,e,p,q],rv=>by
  subst e;cases rv with|cons h t=>exact#[_,_,rfl,Zt I p h,ky_vs I q t]
end
theorem sU{k:NK}(I:Inv X pins σ H s)(h:xP X.K H b k):(bF X.prog X.w).is s.1 k b:=#[Zt I h.1 rfl,h.2]
theorem eL{ep:Nat}{kvs:List KE}(I:Inv X pins σ H s)(e:H a=jr (.dT ep kvs))(hk:CG X.K H kvs):kvs.9<=kt/\(a==gV)=kb/\∃xs,KD kvs xs/\s.1.DictOfH (bF X.prog X.w) a xs:=by
 let#[z,y,xs,r,o,l,j,i,g,k,v]:=(show DA X.prog X.w H s.1 a (.dT ep kvs) from I.hok a _ e)
 refine#[z,y,xs,r,o,l,ep,j,i,g,k,?_,v];clear k v z e;induction r with
 |nil=>intro x h;exact nomatch h
 |@cons p q n m u t b=>intro x h;rcases QL.mp h with e|h;subst e;rw[<- u.1,<- u.2.1];exact sU I (hk p QF);exact b (λp f=>hk p (QE _ f)) x h
theorem LU{kvs:List (Key×V)}(I:Inv X pins σ H s)(e:H a=jr (.dK kvs)):kvs.9<=kt/\(a==gV)=kb/\∃vs,KV kvs vs/\s.1.DictOf (TD X.prog X.w) a vs :=
 show DA X.prog X.w H s.1 a (.dK kvs) from I.hok a _ e
end
theorem P9{X:Cx}{h:TB}{σ:St}{H:Hp}{s:ku}{a:k0}{ep:Nat}(I:Inv X h σ H s)(e:H a=jr (.dT ep [])):(a==gV)=kb/\s.1.DictOf (TD X.prog X.w) a []:=by
 let#[z,y,g,r,o,f,b,k,v,u,i]:=(show DA X.prog X.w H s.1 a (.dT ep []) from I.hok a _ e)
 cases r;have x:f=#[]:=by apply WJ.mp;simpa using u
 subst x;exact#[y,o,#[],ep,b,k,v,λe x=>by simp at x,.nil,Q7]
def kD:Key->zl
 | .inl i=>.int i|.inr x=>.str x
mutual
def tD:NK->zl
 | .s x=>.str x|.t h=>.tuple (tDs h)
def tDs:List NK->List zl
 |[]=>[]|k::ks=>tD k::tDs ks
end
theorem k9{a b:Key}(e:kD a=kD b):a=b:=by
 cases a with
 |inl i=>cases b with|inl j=>injection e with e;rw[e]|inr y=>exact nomatch (show j1 i=j0 y from e)
 |inr x=>cases b with
  |inl j=>exact nomatch (show j0 x=j1 j from e)
  |inr y=>injection e with e;rw[e]
mutual
theorem kW:∀{a b:NK},tD a=tD b->a=b
 | .s x,.s y,e=>by rw[PyData.str.inj e]|.s x,.t l,e=>QB8 e|.t k,.s y,e=>QB8 e|.t k,.t l,e=>by rw[tDs_inj (PyData.tuple.inj e)]
theorem tDs_inj:∀{a b:List NK},tDs a=tDs b->a=b
 |[],[],_=>rfl|[],_::_,e=>(nomatch e)
 |_::_,[],e=>(nomatch e)
 |x::xs,y::ys,e=>by have e:tD x::tDs xs=tD y::tDs ys:=e;injection e with e1 e2;rw[kW e1,tDs_inj e2]
end
def jL(K:QA)(H:Hp)(b:Bool)(o:HO)(ks:List zl)(vs:LV):Prop:=match b with
 |true=>∃x,∃h:List KE,o=.dT x h/\ks=h.map (λp=>tD p.1)/\vs=h.map (·.2.2)/\CG K H h/\(h.map (·.1)).Nodup|false=>(∃h:List (Key×V),h≠[]/\o=.dK h/\ks=h.map (λp=>kD p.1)/\vs=h.map (·.2)/\(h.map (·.1)).Nodup)∨∃x,o=.dT x []/\ks=[]/\vs=[]
theorem jL.len{K:QA}{H:Hp}{b:Bool}{o:HO}{ks:List zl}{vs:LV}(h:jL K H b o ks vs):ks.9=vs.length:=by
 cases b with|true=>let#[y,x,_,rfl,rfl,_]:=h;simp|false=>rcases h with⟨x,_,_,rfl,rfl,_⟩| ⟨_,_,rfl,rfl⟩<;>simp
def US(K:QA)(H:Hp)(a:k0)(y:V)(r:Option V):Prop:=match y with
 | .str z=>(∃h,H a=jr (.dK h)/\r=iM h (.inr z))∨∃x,H a=jr (.dT x [])/\r=kv|.ref b=>∃x h k,H a=jr (.dT x h)/\CG K H h/\xP K H b k/\r=fH h k|_=>False
def Yp(K:QA)(H:Hp)(a:k0)(y v:V)(Q:Hp->Prop):Prop:=match y with
 | .str z=>(∃h,H a=jr (.dK h)/\h.9<kt/\Q (FA H a (.dK (sW h (.inr z) v))))∨∃u,H a=jr (.dT u [])/\Q (FA H a (.dK [(.inr z,v)]))|.ref b=>∃u h k,H a=jr (.dT u h)/\CG K H h/\xP K H b k/\h.9<kt/\∀x,Q (FA H a (.dT x (OM h k b v)))|_=>False
theorem eP{v:V}{o:Option kn}(r:eV (jr v) o):∃w,o=jr w/\aA v w:=by
 cases o with|none=>exact(show False from r).elim|some w=>exact#[w,rfl,r]
section
variable{X:Cx}
section
variable{c:TB}{s:ku}{σ:St}{H:Hp}{a:k0}{u:kn}{o:Option V}{h':vu}{pos:Pos}
theorem Oe(O:X.A.units+66<gp):Ia X (λx y H Q=>∃a v,x=.ref a/\US X.K H a y (jr v)/\Q v H):=by
 intro n Y c s σ H x y v u Q I G C h hs;let#[a,r,rfl,g,q]:=h;cases G;cases y with
 |str z =>
  rcases g with⟨W,e,l⟩| ⟨M,e,l⟩
  rotate_left
  cases l;let#[_,L,F,f,m]:=LU I e;let#[i,B,w]:=eP (v:=r) (o:=ln F (.inr z)) (by rw[l];exact f.val _);exact qr (x:=i) m.typeIs QAe.lookup
   (wpAny_getItem_of (Q:=λr Z=>r=i/\EP X c σ Q r Z) (BN (k:=.inr z) C) m.mapOf B #[rfl,r,H,I.tok _,w,q]) hs
 |ref b =>
  let#[M,W,k,e,hk,N,l]:=g;cases C;let#[_,L,E,f,m]:=eL I e hk;let#[i,B,w]:=eP (v:=r) (o:=(ef E k).map (·.2)) (by rw[l];exact f.val _);let#[p,J,j]:=Option.map_eq_some_iff.mp B;refine qr (x:=i) m.typeIs QAe.lookup
   (wpAny_getItem_heap (Q:=λr Z=>r=i/\EP X c σ Q r Z) (uJ ()) (sU I N) m J ?_) hs
  exact#[j,r,H,I.tok _,by rw[j];exact w,q]
 |_=>exact Qd g
theorem Ae(r:X.A.units+66<gp){y:V}{Q:VK}(I:Inv X c σ H s)(f:aA y u)(g:US X.K H a y o)(q:Q (.bl o.isSome) H) :
  ko (k4 X.prog X.w) X.A (xk .In u (.ref a)) (EP X c σ Q) X.xe s:=by
 cases y with
 |str z =>
  rcases g with⟨i,e,l⟩| ⟨j,e,l⟩
  rotate_left
  subst l;let#[x,v]:=P9 I e;exact wpAny_in_of (BN (k:=.inr z) f) x v.mapOf #[.bl kb,H,I.tok _,rfl,q];let#[_,x,p,h,v]:=LU I e;refine wpAny_in_of (BN (k:=.inr z) f) x v.mapOf #[.bl o.isSome,H,I.tok _,?_,q];rw[<- (h.val (.inr z)).isSome_eq,<- l];rfl
 |ref b=>let#[j,i,k,e,hk,m,l]:=g;cases f;let#[_,x,n,h,v]:=eL I e hk;refine wpAny_in_heap (uJ ()) (sU I m) x v #[.bl o.isSome,H,I.tok _,?_,q];have q:=(h.val k).isSome_eq;rw[QAp]at q;rw[<- q,<- l];rfl|_=>exact Qd g
theorem GW(r:X.A.units+66<gp){y:V}{Q:VK}(I:Inv X c σ H s)(f:aA y u)(g:US X.K H a y o)(q:Q (.bl (!o.isSome)) H) :
  ko (k4 X.prog X.w) X.A (xk .NotIn u (.ref a)) (EP X c σ Q) X.xe s:=by
 cases y with
 |str z =>
  rcases g with⟨i,e,l⟩| ⟨j,e,l⟩
  rotate_left
  subst l;let#[x,v]:=P9 I e;exact nP (BN (k:=.inr z) f) x v.mapOf #[.bl kf,H,I.tok _,rfl,q];let#[_,x,p,h,v]:=LU I e;refine nP (BN (k:=.inr z) f) x v.mapOf #[.bl (!o.isSome),H,I.tok _,?_,q];rw[<- (h.val (.inr z)).isSome_eq,<- l];rfl
 |ref b=>let#[j,i,k,e,hk,m,l]:=g;cases f;let#[_,x,n,h,v]:=eL I e hk;refine wpAny_notIn_heap (uJ ()) (sU I m) x v #[.bl (!o.isSome),H,I.tok _,?_,q];have q:=(h.val k).isSome_eq;rw[QAp]at q;rw[<- q,<- l];rfl|_=>exact Qd g
theorem gS{t':Nat}{ob:HO}(I:Inv X c σ H s)(h:Op (H a))(hs:qe a s.1 h')(y:∃q,h'.get? a=jr q)(new:DA X.prog X.w (FA H a ob) h' a ob) :
  Inv X c σ (FA H a ob) { s with heap:=h',toks:=t' } :=
 I.write (x:=a) (e:=a) h (.inl rfl) (λb q hb z=>(hs.2 b hb).trans z) y new
theorem ON{t':Nat}{kvs:List KE}{xs:List (NK×k0×kn)}(I:Inv X c σ H s)(y:Op (H a))(v:(a==gV)=kb)(z:kvs.9<=kt)(h:KD kvs xs)
  (i:h'.DictOfH (bF X.prog X.w) a xs) (hs:qe a s.1 h'):∃ep,Inv X c σ (FA H a (.dT ep kvs)) { s with heap:=h',toks:=t' }:=by
 let#[q,g,ep,x,f,e,b,_,k]:=i;exact#[ep,gS I y hs #[q,x] #[z,v,xs,h,q,g,x,f,e,b,k]]
def setD(K:QA)(o y v:V)(H:Hp)(Q:Hp->Prop):Prop:=match o with
 | .ref a=>Yp K H a y v Q|_=>False
theorem lT(L:X.A.units+66<gp):jg X (setD X.K):=by
 intro c s σ H o y v G J u Q I Z m j h;cases o with
 |ref a =>
  cases Z;cases y with
  |str z =>
   rcases h with⟨f,e,l,q⟩| ⟨W,e,q⟩
   rotate_left
   let#[g,i]:=P9 I e;refine QBr (hsz:=Qt _) (BN (k:=.inr z) m) i λh' x hs=>#[_,?_,q]
   have r:∃q,h'.get? a=jr q:=let#[q,_,_,p,_]:=x;#[q,p]
   exact gS I (by rw[e];exact True.intro) hs r #[by simp;decide,g,_,.cons #[rfl,j] .nil,x];let#[n,g,F,w,i]:=LU I e;have hl:(sW f (.inr z) v).9<=sizeLine:=by have:=lU f (.inr z) v;omega
   refine QBr (hsz:=by rw[<- w.9];exact n) (BN (k:=.inr z) m) i λh' x hs=>#[_,?_,q]
   have r:∃q,h'.get? a=jr q:=let#[q,_,_,p,_]:=x;#[q,p]
   exact gS I (by rw[e];exact True.intro) hs r #[hl,g,_,w.put _ j,x]
  |ref b =>
   let#[W,f,k,e,hk,B,l,q]:=h;cases m;let#[n,g,E,w,i]:=eL I e hk;have hl:(OM f k b v).9<=sizeLine:=by have:=mU f k b v;omega
   refine wpAny_setItem_heap (hsz:=by rw[<- Q6 w];exact n) (uJ ()) (sU I B) i λh' x hs=>?_;let#[Y,C]:=ON (t':=_) I (by rw[e];exact True.intro) g hl (w.put k b j) x hs;exact#[_,C,q Y]
  |_=>exact Qd h
 |_=>exact Qd h
theorem Ch{P:vx}{w:x0}(h:vu)(hb:gV<h.1.size):DA P w H (h.push { cls:=.type "dict",data:=.dict #[] }) h.1.size (.dT 0 []) :=
 #[Qt _,beq_eq_false_iff_ne.mpr (qC (Qo hb)),[],.nil,_,#[],QR _ rfl,#[rfl,rfl,rfl],rfl,rfl,Q7]
theorem Ic:PE X (.Dict [] [] pos) (λ_ H Q=>∀p,H p=kv->Q (.ref p) (FA H p (.dT 0 []))):=λc s σ H Q I h =>
 wpAny_Dict_empty #[.ref s.1.1.size,_,I.laid (a:=s.1.1.size) (o:=.dT 0 []) (t':=s.toks) (λ_ _ q=>QH _ q) (QT _) (Ch s.1 (Inv.big I)),rfl,h _ (I.hok.fresh (QT _))]
theorem Ec(S:X.A.units+66<gp){k v:Expr}{l j:TE}(hk:PE X k l)(hv:PE X v j) :
  PE X (.Dict [jr k] [v] pos) (λσ H Q=>∀p,H p=kv->l σ (FA H p (.dT 0 [])) λy i=>j σ i λv h=>h p=jr (.dT 0 [])/\∃b ks,y=.ref b/\xP X.K h b ks/\∀ep,Q (.ref p) (FA h p (.dT ep [(ks,b,v)]))):=by
 intro c s σ H Q I q;have C:=I.hok.fresh (QT s.1.1.size);have M:=I.laid (a:=s.1.1.size) (o:=.dT 0 []) (h':=s.1.push { cls:=.type "dict",data:=.dict #[] }) (t':=s.toks) (λ_ _ q=>QH _ q) (QT _) (Ch s.1 (Inv.big I));refine wpAny_Dict_any rfl rfl (by simp) (by simp) (pairTrees_cons_walk (GB (hk c _ σ _ _ M (q _ C)) λu n #[y,i,L,Y,W]=>GB (hv c n σ i _ L W) λm P #[z,h,g,r,e,b,ks,F,G,Z]=>pairTrees_nil_walk ?_));subst F;cases Y;let#[R,E,O,x,J]:=eL g e (λp B=>nomatch B);cases x;show ko _ _ (forIn [(kx b,m)] PUnit.unit _) _ _ _;rw[QAB];refine QC (QC (wpAny_dictSet_heap (hsz:=Qt _) (show X.A.units+8<gp by omega) (sU g G) J λh' f hs=>QK ?_));show ko _ _ (forIn ([]:List (kn×kn)) _ _) _ _ _;rw[QBl];let#[w,N]:=ON (t':=_) (kvs:=[(ks,b,z)]) g (by rw[e];exact True.intro) E (by simp;decide) (.cons #[rfl,rfl,r] .nil) f hs;exact QK #[.ref _,_,N,rfl,Z w]
end
end
mutual
inductive Rep(K:QA)(H:Hp):V->zl->Prop where
 |non:Rep K H .non .none
 |bl (b:Bool):Rep K H (.bl b) (.bool b)
 |int (i:Int):Rep K H (.int i) (.int i)
 |str (x:Str):Rep K H (.str x) (.str x)
 |lst {a:k0}{xs:LV}{ds:List zl}:rC K H a xs->Reps K H xs ds->Rep K H (.ref a) (.list ds)
 |tup {a:k0}{xs:LV}{ds:List zl}:CD K H a xs->Reps K H xs ds->Rep K H (.ref a) (.tuple ds)
 |dct {b:Bool}{a:k0}{o:HO}{ks:List zl}{xs:LV}{ds:List zl}:H a=jr o->jL K H b o ks xs->Reps K H xs ds->Rep K H (.ref a) (.dict (ks.zip ds))
inductive Reps(K:QA)(H:Hp):LV->List zl->Prop where
 |nil:Reps K H [] []
 |cons {x:V}{d:zl}{xs:LV}{ds:List zl}:Rep K H x d->Reps K H xs ds->Reps K H (x::xs) (d::ds)
end
section
variable{K:QA}{H:Hp}{R:LV->List zl->Prop}{xs:LV}{ds:List zl}
theorem Rep.both{P:V->zl->Prop}(z:P .non .none)(v:∀b,P (.bl b) (.bool b))(int:∀i,P (.int i) (.int i))(str:∀x,P (.str x) (.str x))
    (lst:∀{a:k0}{xs:LV}{ds:List zl},rC K H a xs->Reps K H xs ds->R xs ds->P (.ref a) (.list ds))
    (tup:∀{a:k0}{xs:LV}{ds:List zl},CD K H a xs->Reps K H xs ds->R xs ds->P (.ref a) (.tuple ds))
    (dct:∀{b:Bool}{a:k0}{o:HO}{ks:List zl}{xs:LV}{ds:List zl},H a=jr o->jL K H b o ks xs->Reps K H xs ds->R xs ds->P (.ref a) (.dict (ks.zip ds)))
    (u:R [] []) (y:∀{x:V}{d:zl}{xs:LV}{ds:List zl},Rep K H x d->Reps K H xs ds->P x d->R xs ds->R (x::xs) (d::ds)) :
    (∀{x:V}{d:zl},Rep K H x d->P x d)/\∀{xs:LV}{ds:List zl},Reps K H xs ds->R xs ds :=
  #[λh=>Rep.rec (motive_1:=λx d _=>P x d) (motive_2:=λx d _=>R x d) z v int str @lst @tup @dct u @y h,
   λh=>Reps.rec (motive_1:=λx d _=>P x d) (motive_2:=λx d _=>R x d) z v int str @lst @tup @dct u @y h]
theorem Reps.ind(z:R [] [])(y:∀{x:V}{d:zl}{xs:LV}{ds:List zl},Rep K H x d->R xs ds->R (x::xs) (d::ds))(h:Reps K H xs ds):R xs ds :=
 (Rep.both (P:=λ_ _=>True) trivial (λ_=>trivial) (λ_=>trivial) (λ_=>trivial) (λ_ _ _=>trivial) (λ_ _ _=>trivial) (λ_ _ _ _=>trivial) z λh _ _ r=>y h r).2 h
theorem Reps.length(h:Reps K H xs ds):xs.9=ds.length:=Reps.ind (R:=λxs ds=>xs.9=ds.9) rfl (λ_ e=>o9 Nat.succ e) h
end
section
variable{X:Cx}{y:TB}{σ:St}{H:Hp}{s:ku}
mutual
theorem ET{h:vu}:∀{k:NK}{u:kn},m5 h k u->∃z,Reads h u (tD k) z
 | .s x,u,#[t,e]=>by subst e;exact#[_,.str x t]|.t ks,u,#[a,its,e,#[o,e1,c,n,d],q]=>by subst e;let#[z,v]:=nks_reads q;exact#[_,.tuple e1 c d v]
theorem nks_reads{h:vu}:∀{ks:List NK}{us:LW},NKvs h ks us->∃x,lj h us (tDs ks) x
 |[],us,e=>by cases(show us=[] from e);exact#[_,.nil]|k::ks,us,#[v,r,e,p,q]=>by subst e;let#[x,u]:=ET p;let#[bs,z]:=nks_reads q;exact#[_,.cons u z]
end
section
variable{kvs:List (Key×V)}{xs:List (NK×k0×kn)}{vs:List (Key×kn)}
theorem G6(I:Inv X pins σ H s){kvs:List KE}(r:KD kvs xs)(hk:CG X.K H kvs):∃z,lj s.1 (xs.map λx=>.ref x.2.1) (kvs.map λp=>tD p.1) z:=by
 induction r with|nil=>exact#[_,.nil]|@cons p x _ _ h t u=>let#[z,q]:=u λp v=>hk p (QE _ v);let#[bs,y]:=ET (sU I (hk p QF)).1;rw[h.2.1]at y;exact#[_,.cons y q]
theorem eT{P:vx}{w:x0}{es:List Er}(hk:KV kvs vs)(u:Pairs (TD P w) es vs):(∃v,lj s.1 (es.map (·.key)) (kvs.map λp=>kD p.1) v)/\es.map (·.val)=vs.map (·.2):=by
 unfold KV at hk;induction hk generalizing es with
 |nil=>cases u;exact#[#[_,.nil],rfl]|cons h t e =>
  cases u with
  |cons a b c =>
   let#[#[v,q],k]:=e c;refine#[?_,by rw[QS,QS,k,b]];rw[QS,QS];rw[<- h.1]at a;rcases EA a with⟨i,t,z,y⟩| ⟨x,t,z,y⟩
   rw[z,y];exact#[_,.cons (.int i t) q];rw[z,y];exact#[_,.cons (.str x t) q]
theorem Tb{kvs:List KE}(r:KD kvs xs):lA (kvs.map (·.2.2)) (xs.map (·.2.2)):=by
 induction r with|nil=>exact .nil|cons h _ x=>exact .cons h.2.2 x
theorem Sb(r:KV kvs vs):lA (kvs.map (·.2)) (vs.map (·.2)):=by
 induction r with|nil=>exact .nil|cons h _ x=>exact .cons h.2 x
theorem X4(I:Inv X pins σ H s){b:Bool}{a:k0}{o:HO}{ks:List zl}{xs:LV}(h:H a=jr o)(q:jL X.K H b o ks xs):∃ob es ep us,s.1.get? a=jr ob/\ob.cls=.type "dict"/\ob.dict=kv/\ob.data=.dict es ep/\(a==gV)=kb /\
  (∃j,lj s.1 (es.toList.map (·.key)) ks j)/\lA xs us/\es.toList.map (·.val)=us:=by
 cases b with
 |true=>let#[e,kvs,rfl,rfl,rfl,hk,_]:=q;let#[_,v,f,x,ob,es,ep,k,y,w,u,_]:=eL I h hk;refine#[ob,es,ep,_,k,y.1,y.2.1,w,v,?_,Tb x,?_];rw[u,Qb];exact G6 I x hk;rw[u,Qb];rfl|false =>
  rcases q with⟨kvs,_,rfl,rfl,rfl,_⟩| ⟨e,rfl,rfl,rfl⟩
  rotate_left
  let#[_,v,f,x,ob,es,ep,k,y,w,u,_]:=eL I h λ_ z=>nomatch z;cases x;exact#[ob,es,ep,[],k,y.1,y.2.1,w,v,#[_,by rw[u];exact .nil],.nil,by rw[u];rfl];let#[_,v,vs,x,ob,es,ep,k,y,w,_,u,_]:=LU I h;let#[i,g]:=eT (s:=s) x u;exact#[ob,es,ep,_,k,y.1,y.2.1,w,v,i,Sb x,g]
theorem Rep.reads2(I:Inv X pins σ H s):(∀{x:V}{d:zl},Rep X.K H x d->∀u,aA x u->∃y,Reads s.1 u d y)/\∀{xs:LV}{ds:List zl},Reps X.K H xs ds->∀us,lA xs us->∃y,lj s.1 us ds y:=by
 refine Rep.both (P:=λx d=>∀u,aA x u->∃y,Reads s.1 u d y) (R:=λxs ds=>∀us,lA xs us->∃y,lj s.1 us ds y) (λu r=>?_) (λb u r=>?_) (λi u r=>?_) (λx u r=>?_) (λh q v u r=>?_) (λh q v u r=>?_) (λ{b a o w xs ds} h q r v u l=>?_) (λus r=>?_) λ_ _ p m us r=>?_;cases r;exact#[_,.none];cases r;exact#[_,.bool b];let#[t,rfl]:=r;exact#[_,.int i t];let#[t,rfl]:=r;exact#[_,.str x t];cases r;let#[g,k,#[o,n,e,c,_,d],_]:=I.list h;let#[y,z]:=v _ k;exact#[_,.list e c d (by simpa using z)];cases r;let#[g,k,#[o,e,c,n,d],_]:=I.tuple h;let#[y,z]:=v _ k;exact#[_,.tuple e c d (by simpa using z)];cases l;let#[ob,L,M,us,C,B,J,A,G,#[y,W],Z,Y]:=X4 I h q;let#[bs,f]:=v _ Z;have hl:w.9=ds.length:=by rw[q.len,Reps.length r]
 have F:(w.zip ds).map (λx=>x.1)=w:=Wx (w4 hl);have E:(w.zip ds).map (λx=>x.2)=ds:=WK (w4 hl.symm);exact#[_,.dict C B A (by rw[F];exact W) (by rw[E,Y];exact f)];cases r;exact#[_,.nil];cases r with|cons r j=>let#[y,z]:=p _ r;let#[bs,f]:=m _ j;exact#[_,.cons z f]
theorem Rep.reads(I:Inv X pins σ H s){x:V}{d:zl}{u:kn}(h:Rep X.K H x d)(r:aA x u):∃y,Reads s.1 u d y:=(Rep.reads2 I).1 h u r
def JE(d:zl):Prop:=d.canLay0=kf/\d.depth<=64
noncomputable def rEq(K:QA)(neg:Bool):R2:=λx y H Q=>match x,y with
 | .int i,.int j=>Q (.bl (if neg then !decide (i=j) else decide (i=j))) H|.str a,.str b=>Q (.bl (if neg then !decide (a=b) else decide (a=b))) H|.bl a,.bl b=>Q (.bl (if neg then !decide (a=b) else decide (a=b))) H|x,y=>∃z h,Rep K H x z/\Rep K H y h/\JE z/\JE h/\Q (.bl (if neg then !PyData.eqv z h else Ql z h)) H
theorem op_eq(C:X.A.units+64<gp):IE X (xk .Eq) (rEq X.K kb):=by
 intro z s g H x y v u Q I o n h;have k:(∃f e,Rep X.K H x f/\Rep X.K H y e/\JE f/\JE e/\Q (.bl (if kb=kf then !PyData.eqv f e else Ql f e)) H)->ko (k4 X.prog X.w) X.A (xk .Eq v u) (EP X z g Q) X.xe s:=by rintro⟨f,e,m,l,⟨Z,B⟩,⟨Y,W⟩,q⟩;let#[E,r]:=m.reads I o;let#[bs,p]:=l.reads I n;exact SeqAt.compareEq_reads r p Z Y () #[.bl _,H,I,rfl,q]
 have sc:Jc x y=kf->Q (.bl (decide (x=y))) H->ko (k4 X.prog X.w) X.A (xk .Eq v u) (EP X z g Q) X.xe s:=λm l=>_root_.L2.op_eq z s g H x y v u Q I o n #[m,l];cases x with
 |int i =>
  cases y with|int j=>exact sc rfl (by simpa[rEq]using h)|_=>exact k h
 |str a =>
  cases y with|str b=>exact sc rfl (by simpa[rEq]using h)|_=>exact k h
 |bl a =>
  cases y with|bl b=>exact sc rfl (by simpa[rEq]using h)|_=>exact k h
 |_=>exact k h
theorem op_ne(C:X.A.units+64<gp):IE X (xk .NotEq) (rEq X.K kf):=by
 intro z s g H x y v u Q I o n h;have k:(∃f e,Rep X.K H x f/\Rep X.K H y e/\JE f/\JE e/\Q (.bl (if kf=kf then !PyData.eqv f e else Ql f e)) H)->ko (k4 X.prog X.w) X.A (xk .NotEq v u) (EP X z g Q) X.xe s:=by rintro⟨f,e,m,l,⟨Z,B⟩,⟨Y,W⟩,q⟩;let#[E,r]:=m.reads I o;let#[bs,p]:=l.reads I n;exact SeqAt.compareNe_reads r p Z Y () #[.bl _,H,I,rfl,q]
 have sc:Jc x y=kf->Q (.bl (!decide (x=y))) H->ko (k4 X.prog X.w) X.A (xk .NotEq v u) (EP X z g Q) X.xe s:=λm l=>_root_.L2.op_ne z s g H x y v u Q I o n #[m,l];cases x with
 |int i =>
  cases y with|int j=>exact sc rfl (by simpa[rEq]using h)|_=>exact k h
 |str a =>
  cases y with|str b=>exact sc rfl (by simpa[rEq]using h)|_=>exact k h
 |bl a =>
  cases y with|bl b=>exact sc rfl (by simpa[rEq]using h)|_=>exact k h
 |_=>exact k h
noncomputable def D1(f:Int->Int->Bool):R2:=λx y H Q=>match x,y with
 | .int i,.int j=>Q (.bl (f i j)) H|_,_=>False
theorem dR{w:fm}{f:Int->Int->Bool}(h0:IE X (xk w) (Vc λi j=>.bl (f i j))):IE X (xk w) (D1 f):=by
 intro z s k H x y v u Q I b a h;cases x with
 |int i =>
  cases y with|int j=>exact h0 z s k H _ _ v u Q I b a #[i,j,rfl,rfl,h]|_=>exact Qd h
 |_=>exact Qd h
noncomputable def inStr(b a:Str):Bool:=match a.cps.toList with
 |[c]=>decide (c∈b.cps.toList)|_=>!(qF b a 0 b.9 1).isEmpty
theorem ZU(b a:Str):inStr b a=!(qF b a 0 b.9 1).isEmpty:=by
 unfold inStr;split;rename_i c e;have x:a=#[(Q3 [c])]:=by
  let#[h]:=a;have:h=(Q3 [c]):=by apply WJ.mp;simpa using e
  rw[this]
 rw[x];exact(StrLaws.found_one b c).symm;rfl
def YT(K:QA)(neg:Bool):R2:=λx y H Q=>match y with
 | .str b=>match x with
  | .str a=>Q (.bl (if neg then !inStr b a else inStr b a)) H|_=>False
 | .ref p=>Rx K neg x (.ref p) H Q∨(∃d h,Rep K H x d/\(Rep K H (.ref p) (.list h)∨Rep K H (.ref p) (.tuple h))/\JE d/\JE (.list h)/\Q (.bl (if neg then !(h.any λy=>Ql y d) else h.any λy=>Ql y d)) H)∨(∃o,US K H p x o/\Q (.bl (if neg then !o.isSome else o.isSome)) H)|_=>False
theorem VP{ds:List zl}(h:JE (.list ds)):qz ds=kf/\wm ds<=63:=by let#[x,y]:=h;simp only[QAf]at x;simp only[QBP]at y;exact#[x,()]
theorem Mr(Y:X.A.units+66<gp):IE X (xk .In) (YT X.K kb):=by
 intro z s i H x y v u Q I e w h;cases y with
 |str b =>
  cases x with|str a=>refine A1 z s i H _ _ v u Q I e w #[a,b,rfl,rfl,?_];rw[<- ZU];simpa[YT]using h|_=>exact Qd h
 |ref p =>
  rcases h with h|⟨d,Z,r,k,l,n,q⟩| ⟨o,g,q⟩
  rotate_left 2
  cases w;exact Ae Y I e g q;exact E1 z s i H _ _ v u Q I e w h;let#[B,j]:=r.reads I e;let#[m,W]:=VP n;rcases k with k|k;let#[bs,f]:=k.reads I w;exact SeqAt.in_list_reads f j m l.1 () #[.bl _,H,I,rfl,q];let#[bs,f]:=k.reads I w;exact SeqAt.in_tuple_reads f j m l.1 () #[.bl _,H,I,rfl,q]
 |_=>exact Qd h
theorem V7(Y:X.A.units+66<gp):IE X (xk .NotIn) (YT X.K kf):=by
 intro z s i H x y v u Q I e w h;cases y with
 |str b =>
  cases x with|str a=>refine gR z s i H _ _ v u Q I e w #[a,b,rfl,rfl,?_];rw[<- ZU];simpa[YT]using h|_=>exact Qd h
 |ref p =>
  rcases h with h|⟨d,Z,r,k,l,n,q⟩| ⟨o,g,q⟩
  rotate_left 2
  cases w;exact GW Y I e g q;exact lR z s i H _ _ v u Q I e w h;let#[B,j]:=r.reads I e;let#[m,W]:=VP n;rcases k with k|k;let#[bs,f]:=k.reads I w;exact SeqAt.notIn_list_reads f j m l.1 () #[.bl _,H,I,rfl,q];let#[bs,f]:=k.reads I w;exact SeqAt.notIn_tuple_reads f j m l.1 () #[.bl _,H,I,rfl,q]
 |_=>exact Qd h
end
end
section
variable{X:Cx}
theorem hV:∀{bs:List Bool}{us:LW},lA (bs.map V.bl) us->∀(i:Nat) (v:kn),us[i]?=jr v->∃b,bs[i]?=jr b/\v=Value.bool b
 |[],_,.nil,i,v,h=>by simp at h|b::bs,_,.cons r t,0,v,h=>by simp at h;subst h;exact#[b,by simp,r]|b::bs,_,.cons r t,i+1,v,h=>by let#[c,y,x]:=hV (bs:=bs) t i v (by simpa using h);exact#[c,by simpa using y,x]
theorem C1(bs:List Bool):(Qj bs.9).any (λi=>bs.getD i kb)=bs.any id:=by
 rw[Qz,wx,wx];constructor;rintro⟨i,x,e⟩;have h:i<bs.length:=by simpa using x
 exact#[bs[i],WL h,by simpa[QCw,h]using e];rintro⟨b,hb,e⟩;let#[i,x,y]:=List.getElem_of_mem hb;exact#[i,by simpa using x,by simp[QCw,x,y];simpa using e]
def Yr(K:QA):LV->Hp->VK->Prop:=λh H Q=>match h with
 |[.ref a]=>∃bs:List Bool,rC K H a (bs.map V.bl)/\Q (.bl (bs.any id)) H|_=>False
theorem ba(l:X.calm=kf):OC X (.builtin "any") (Yr X.K):=by
 intro k s Z H f W Q I r h
 match f,h with
 |[.ref a],#[bs,hq,q] =>
  let#[u,rfl,j]:=iI r;cases j;let#[x,w,p,C]:=I.list hq;have hl:=w.9;rw[QD]at hl;refine call_any_walk (QAq p.isList ?_);have y:a<s.1.1.size:=by let#[o,n,e,_]:=p;exact QW e
  refine#[s.1.1.size,_,_,_,_,_,λi=>bs.getD i kb,rfl,Walks.list (A:=X.A.in1) (I.ok.hd l) s.1.1.size a (Qo y) x.toArray,#[#[_,QR _ rfl,rfl,rfl],?_],?_,?_];let#[o,n,e,c,d,sq]:=p;exact#[o,QH _ e,c,n,sq];intro i v B F G m z;let#[b,hb,rfl]:=hV w i v (by simpa using m);refine we ?_;have:bs.getD i kb=b:=by simp[QCw,hb]
  rw[<- this];exact z;intro E g hk;have Y:(Qj x.toArray.size).any (λi=>bs.getD i kb)=bs.any id:=by rw[QN,<- hl,C1]
  rw[Y];exact#[.bl _,H,I.kept (t':=g) (λb o e=>hk b o (by simp;exact Qo (QW e)) (QH _ e)),rfl,q]
def cr(K:QA):LV->Hp->VK->Prop:=λx H Q=>(∃z,x=[.str z]/\z.9<=kt/\Q (.int z.9) H)∨∃a h,x=[.ref a]/\(rC K H a h∨CD K H a h)/\Q (.int h.9) H
theorem xa:OC X (.builtin "len") (cr X.K):=λx s y H z u Q I r h=>h.elim (aS x s y H z u Q I r) (VJ x s y H z u Q I r)
noncomputable def cV:V->Option kn
 | .ty n=>jr (.type n)|.ref C=>jr (.ref C)|_=>kv
def jAY(K:QA)(H:Hp)(x:V)(t:kn):Prop:=(∃a h,x=.ref a/\rC K H a h/\t=.type "list")∨∃a h,x=.ref a/\CD K H a h/\t=.type "tuple"
def Bk(K:QA):LV->Hp->VK->Prop:=λy H Q=>match y with
 |[x,c]=>∃t h b,(TyOf K H x t∨jAY K H x t)/\cV c=jr h/\QBk K t h=jr b/\Q (.bl b) H|_=>False
theorem ua:OC X (.builtin "isinstance") (Bk X.K):=by
 intro m s Y H w Z Q I r h
 match w,h with
 |[x,c],#[t,cv,b,ty,hc,hk,q] =>
  let#[u,k,rfl,f,v]:=L5 r;have e:k=cv:=by
   cases c with|ty n=>have l:k=Value.type n:=v;have j:jr (Value.type n)=jr cv:=hc;rw[l];exact Qn j|ref C=>have l:k=kx C:=v;have j:jr (kx C)=jr cv:=hc;rw[l];exact Qn j|_=>cases hc
  subst e;rcases ty with ty|⟨a,w,rfl,i,rfl⟩| ⟨a,w,rfl,i,rfl⟩
  exact y4 I f ty hk λy=>#[.bl b,H,I.tok y,rfl,q]
  cases f;let#[g,p,#[o,n,e,c,_,d],_]:=I.list i;exact qN QAo I.kIn #[o,e,c] hk (λz=>nomatch z) λy=>#[.bl b,H,I.tok y,rfl,q]
  cases f;let#[g,p,#[o,e,c,n,d],_]:=I.tuple i;exact qN QB6 I.kIn #[o,e,c] hk (λz=>nomatch z) λy=>#[.bl b,H,I.tok y,rfl,q]
def Px(K:QA):V->Option Int->Option Int->Hp->VK->Prop:=λx h y H Q=>match x with
 | .str z=>z.9<=kt/\Q (.str (w8 z h y)) H|.ref a=>kr K (.ref a) h y H Q∨yr K (.ref a) h y H Q|_=>False
theorem ck:Vi X (Px X.K):=by
 intro y s m H x v C B Y W b Q I p hs r e h;cases x with
 |str z =>
  let#[t,rfl]:=p;let#[G,q]:=h;refine#["str",_,F.slot_str_getitem.lookup,QCu _ _ _,?_];have fin:∀l u:Option (Int×Tok),l.map (·.1)=Y->u.map (·.1)=W->s.1.IsSlice b l u kv->ko (k4 X.prog X.w) X.A (l5 (.str z t) (.ref b)) (EP X y m Q) X.xe s:=λl u L J Z=>by refine wpAny_getItem_str_slice Z rfl ?_;subst L J;exact post_val_or_str #[QU (Txt.slice_le z _ _) G,λM k=>#[.str (w8 z _ _),H,I.tok k,#[_,rfl],q]]
  let#[o,f,hc,g]:=hs;cases r with
  |none =>
   cases e with|none=>exact fin kv kv rfl rfl #[o,f,hc,g]|int j n=>exact fin kv (jr (j,n)) rfl rfl #[o,f,hc,g]
  |int i E =>
   cases e with|none=>exact fin (jr (i,E)) kv rfl rfl #[o,f,hc,g]|int j n=>exact fin (jr (i,E)) (jr (j,n)) rfl rfl #[o,f,hc,g]
 |ref a=>rcases h with h|h;exact rc y s m H _ v C B Y W b Q I p hs r e h;exact uk y s m H _ v C B Y W b Q I p hs r e h
 |_=>exact Qd h
end
section
variable{h h':vu}{j:k0}{z:Src}{k:Nat}{xs:Array kn}
inductive Src where
 |l (a:k0)|t (a:k0)
def Src.adr:Src->k0
 | .l a=>a|.t a=>a
def vE(h:vu)(j:k0):Src->Nat->Prop
 | .l a,k=>h.IsListIter j a k|.t a,k=>h.IsTupleIter j a k
def NB(h:vu):Src->Array kn->Prop
 | .l a,xs=>h.IsList a xs|.t a,xs=>h.IsTuple a xs
theorem vE.keep(x:vE h j z k)(e:∀o,h.get? j=jr o->h'.get? j=jr o):vE h' j z k:=by
 cases z with|l a=>let#[o,u,y]:=x;exact#[o,e o u,y]|t a=>let#[o,u,y]:=x;exact#[o,e o u,y]
theorem vE.obj(x:vE h j z k):∃o,h.get? j=jr o/\∀v,o.data≠.cell v:=by
 cases z with|l a=>let#[o,u,w,y]:=x;exact#[o,u,λv q=>by rw[y]at q;cases q]|t a=>let#[o,u,w,y]:=x;exact#[o,u,λv q=>by rw[y]at q;cases q]
theorem NB.ext{b:k0}(x:NB h z xs)(e:QAD b h h')(n:z.adr≠b):NB h' z xs:=by
 cases z with|l a=>exact QCj.extBut x e n|t a=>exact Heap.IsTuple.extBut x e n
theorem NB.lt(x:NB h z xs):z.adr<h.1.size:=by
 cases z with|l a=>let#[o,y,_]:=x;exact QW y|t a=>let#[o,y,_]:=x;exact QW y
theorem vE.lt(x:vE h j z k):j<h.1.size:=by let#[o,y,_]:=x.obj;exact QW y
end
section
variable{prog:vx}{w:x0}{A:y1}{E:uC}{s:ku}
section
variable{j t:k0}{k:Nat}{xs:Array kn}{x:kn}{Q:uC}{z:Src}
theorem Km(p:s.1.IsTupleIter j t k)(pt:s.1.IsTuple t xs)(a:xs[k]?=jr x)
  (q:∀h',h'.IsTupleIter j t (k+1)->qe j s.1 h'->Q x { s with heap:=h' }):ko (k4 prog w) A (qZ (.ref j)) Q E s:=by
 let#[ob,y,b,h]:=id p;let#[e,v,_,f,u]:=pt;unfold qZ;refine QC (qU (name:=QV "__next__") p.typeIs qm (qO qm p.typeIs WW ?_ (WR _)));show ko _ _ (ri (.ref j) 0 >>= _) _ _ _;refine QC (wY y h (x:=.ref t) rfl ?_);show ko _ _ (if(kx t==j2)=kf then _ else _) _ _ _;rw[ii (show ¬ (kx t==j2)=kf from QG)];show ko _ _ (ri (.ref j) 1 >>= _) _ _ _;refine QC (wY y h (x:=.int k 0) rfl ?_);show ko _ _ (seqItems? (.ref t) >>= _) _ _ _;refine QC (QAc v u ?_);simp only[qf,a];refine QC (QAg y h (by simp) (QK #[x,rfl,QK (q _ ?_ (qD ..))]));refine#[_,wU _ y (QBQ (WX h _)),(QCL ..).trans b,?_];rw[WX h];simp[hQ]
theorem CW(u:A.handled=kv)(p:s.1.IsTupleIter j t k)(pt:s.1.IsTuple t xs)(f:xs[k]?=kv)
  (q:∀h' e,QAD j s.1 h'->(∃o,h'.get? e=jr o/\o.cls=.type "StopIteration")->E (.ref e) { s with heap:=h' }):ko (k4 prog w) A (qZ (.ref j)) Q E s:=by
 let#[ob,y,l,h]:=id p;let#[g,b,_,i,v]:=pt;unfold qZ;refine QC (qU (name:=QV "__next__") p.typeIs qm (qO qm p.typeIs WW ?_ (WR _)));show ko _ _ (ri (.ref j) 0 >>= _) _ _ _;refine QC (wY y h (x:=.ref t) rfl ?_);show ko _ _ (if(kx t==j2)=kf then _ else _) _ _ _;rw[ii (show ¬ (kx t==j2)=kf from QG)];show ko _ _ (ri (.ref j) 1 >>= _) _ _ _;refine QC (wY y h (x:=.int k 0) rfl ?_);show ko _ _ (seqItems? (.ref t) >>= _) _ _ _;refine QC (QAc b v ?_);simp only[qf,f];refine QC (QCM (QC (QAg y h (by simp) ?_)));refine QC (m:=nt (.type "StopIteration") []) ?_;simp only[nt,ni];refine QC (Q2 ?made (by size_fits));refine QC (m:=h7 _ _) (QCk (a:=j2) (by first|rfl | (rw[h7];rfl)) ?arg);refine Q2 ?made2 (by size_fits);simp only[ro];refine QC (QB9 ?_);first|rw[show A.in1.handled=kv from u]|rw[u]
 refine QC (QK (QCl (q _ _ (((qD ..).extBut.push _).push _) #[_,QR _ rfl,rfl])))
theorem fe(p:vE s.1 j z k)(pt:NB s.1 z xs)(h:xs[k]?=jr x)
  (q:∀h',vE h' j z (k+1)->qe j s.1 h'->Q x { s with heap:=h' }):ko (k4 prog w) A (qZ (.ref j)) Q E s:=by
 cases z with|l a=>exact wpAny_nextOf_list_item p pt h q|t a=>exact Km p pt h q
theorem k8(y:A.handled=kv)(p:vE s.1 j z k)(pt:NB s.1 z xs)(h:xs[k]?=kv)
  (q:∀h' e,QAD j s.1 h'->(∃o,h'.get? e=jr o/\o.cls=.type "StopIteration")->E (.ref e) { s with heap:=h' }):ko (k4 prog w) A (qZ (.ref j)) Q E s:=by
 cases z with|l a=>exact wpAny_nextOf_list_end y p pt h q|t a=>exact CW y p pt h q
noncomputable def Src.it:Src->Obj
 | .l a=>{ cls:=.type "list_iterator",data:=.fields (Q3 [.ref a,.int 0 0]) }|.t a=>{ cls:=.type "tuple_iterator",data:=.fields (Q3 [.ref a,.int 0 0]) }
theorem u6(pt:NB s.1 z xs)(q:Q (.ref s.1.1.size) { s with heap:=s.1.push z.it }):ko (k4 prog w) A (lr (.ref z.adr)) Q E s:=by
 cases z with|l a=>exact QAq pt q|t a=>exact QCA pt q
theorem xc(h:vu)(z:Src):vE (h.push z.it) h.1.size z 0:=by
 cases z with|l a=>exact#[_,QR _ rfl,rfl,rfl]|t a=>exact#[_,QR _ rfl,rfl,rfl]
end
end
section
variable{prog:vx}{w:x0}{A:y1}{E:uC}{s:ku}
theorem pk{h h':vu}{b:k0}{z:Src}{xs:Array kn}(x:NB h z xs)(e:qe b h h')(n:z.adr≠b):NB h' z xs:=x.ext e.extBut n
end
section
variable{X:Cx}{w:TB}{σ:St}{H:Hp}{s:ku}{h':vu}
theorem _root_.L2.Inv.turnedL{t':Nat}{ch:List k0}(I:Inv X w σ H s)(k:∀b o,b∉ch->s.1.get? b=jr o->h'.get? b=jr o)(f:∀b∈ch,TJ X w H b):Inv X w σ H { s with heap:=h',toks:=t' }:=by
 have h:∀b u,H b=jr u->b∉ch:=λb u e z=>by rw[(f b z).1]at e;cases e
 have y:X.env.locals∉ch:=λz=>(f _ z).2.1 rfl;refine I.step (g':=s.gens) (d':=s.drawn) (ch:=ch) (λb hb=>?_) (λb o _ _ hc e _=>k b o hc e) (λb o _ _ hc e _=>#[o.slots,k b o hc e]) (λ_ _ _ _ n=>n)
  (λb o hc e=>#[o,k b o hc e]) (λ_ _ e=>e) (λ_ _ _ e=>e) (λ_ _ e=>e) (λm hm=>?_) (λb u e=>?_) I.bare
 let#[_,j,_,i,g,a]:=f b hb;exact#[i,j,g,a];let#[o,l,p,x,r]:=hm;exact#[o,l,p,k _ o y x,r];refine(I.hok b u e).stay (λc v hc q=>k c v ?_ q) (λ_ q=>q) λ_ _ q=>q;rcases hc with z|z;rw[z];exact h b u e;exact h c _ z
def c5(K:QA)(H:Hp):Src->LV->Prop
 | .l a,xs=>rC K H a xs|.t a,xs=>CD K H a xs
theorem _root_.L2.Inv.src(I:Inv X w σ H s){z:Src}{xs:LV}(h:c5 X.K H z xs):∃its:LW,lA xs its/\NB s.1 z its.toArray/\xs.9<=sizeLine:=by
 cases z with|l a=>let#[its,x,p,y]:=I.list h;exact#[its,x,p.isList,y]|t a=>let#[its,x,p,y]:=I.tuple h;exact#[its,x,p,y]
theorem _root_.L2.Inv.src_inj(I:Inv X w σ H s){z:Src}{xs x:LV}(h:c5 X.K H z xs)(h':c5 X.K H z x):xs=x:=by
 cases z with|l a=>exact I.list_inj h h'|t a=>exact I.tuple_inj h h'
theorem _root_.L2.Inv.pair{p:k0}{a b:kn}{x y:V}{t':Nat}(I:Inv X w σ H s)(k:∀b u,s.1.get? b=jr u->h'.get? b=jr u)(v:s.1.1.size<=p)(e:h'.get? p=jr { cls:=.type "tuple",data:=.seq (Q3 [a,b]) })(z:aA x a)(h:aA y b) :
  Inv X w σ (FA H p (.tup [x,y])) { s with heap:=h',toks:=t' } :=
 I.laid k v #[by rw[qB];show 2<=_;decide,[a,b],.cons z (.cons h .nil),_,e,rfl,_,rfl]
end
section
variable{prog:vx}{w:x0}{A:y1}{E:uC}{s:ku}
section
variable{it d:k0}{z:Obj}{es:Array Er}{i ep:Nat}{c u:kn}{Q:Option kn->ku->Prop}
theorem rD:W8 "dict_itemiterator"=true:=by decide +kernel
theorem fK(l:List String)(h:(l.contains "dict_itemiterator" || l.contains "object")=kb):(l.any λt=>[Value.type "dict_itemiterator",Value.type "object"].contains (.type t))=false:=by
 rw[QCH];intro t x;rw[Bool.or_eq_false_iff]at h;have v:t≠"dict_itemiterator":=λe=>by subst e;rw[Qq.mpr x]at h;cases h.1
 have y:t≠"object":=λe=>by subst e;rw[Qq.mpr x]at h;cases h.2
 simp[v,y]
theorem z8{e:Er}
  (m:eH s.1 it d i es.size ep c u) (X:s.1.get? d=jr z) (B:z.data=.dict es ep) (I:es[i]?=jr e)
  (q:∀h',pu h' it d (i+1) es.size ep e.key e.val s.1.1.size->h'.get? s.1.1.size=jr { cls:=.type "tuple",data:=.seq (Q3 [e.key,e.val]) } ->
   h'.1.size=s.1.1.size+1->(∀b o,b≠it->s.1.get? b=jr o->h'.get? b=jr o)->Q (jr (.ref s.1.1.size)) { s with heap:=h' }) :
  ko (k4 prog w) A (mm (.ref it)) Q E s:=by
 have F:s.TypeIs (.ref it) "dict_itemiterator":=#[_,m,rfl]
 show ko _ _ (bind _ _) _ _ _;refine QC (W9 (qU F qb (qO qb F Wn ?_ (Wj _))));show ko _ _ (bind _ _) _ _ _;refine QC (QK (QC (QC (QC (wB F (QK (QC (QAh m rfl ?_))))))));rw[rD];show ko _ _ (if(kx d==j2)=kf then _ else _) _ _ _;rw[ii (show ¬ (kx d==j2)=kf from QG)];show ko _ _ (wZ (.ref d) >>= _) _ _ _;refine QC (QK (QC (wI X B ?_)));rw[ii (show ¬ (((es.size:Nat):Int) != ((es.size:Nat):Int))=kf by simp)];refine QC (QK (QC (w9 X B ?_)));rw[ii (show ¬ (((ep:Nat):Int) != ((ep:Nat):Int))=kf by simp)];refine QK ?_;have h0:(if((i:Nat):Int)<0 then kv else es[((i:Nat):Int).toNat]?)=jr e:=by rw[ii (),qf];exact I
 simp only[h0];refine QC ?_;show ko _ _ (dy (.ref it) >>= _) _ _ _;refine QC (wB F (QK (QC (Wg F ?_))));rw[rD,i0 rfl];rw[show(List.any _ λt=>[Value.type "dict_itemiterator",Value.type "object"].contains (.type t))=kb from fK _ (by decide +kernel),ii QG];refine QC (wV m (by simp) λa h r=>?_);have h:eH a it d (i+1) es.size ep c u:=h;refine QC (qh ?_);have C:({ s with heap:=a }:ku).TypeIs (.ref it) "dict_itemiterator":=#[_,h,rfl]
 show ko _ _ (Builtin.Dict_items.isOneOf (.ref it) _ >>= _) _ _ _;refine QC (Wg C ?_);rw[fK _ (by decide +kernel),ii QG];refine QC (Wg C ?_);rw[fK _ (by decide +kernel),ii QG];show ko _ _ (ni [e.key,e.val] >>= _) _ _ _;refine QC (QBm ?_);have p:a.1.size=s.1.1.size:=r.1;have y:eH (a.push { cls:=.type "tuple",data:=.seq (Q3 [e.key,e.val]) }) it d (i+1) es.size ep c u:=QH _ h;show ko _ _ (Builtin.Dict_items.ownedTupleIsFree (.ref it) >>= _) _ _ _;refine QC ?_;show ko _ _ (ri (.ref it) 0 >>= _) _ _ _;refine QC (wY y rfl (x:=.none) rfl (QK ?_));rw[i0 rfl];show ko _ _ (ri (.ref it) 6 >>= _) _ _ _;refine QC (wY y rfl (x:=c) rfl ?_);refine QC (wY y rfl (x:=u) rfl ?_);refine QC (wV y (by simp) λM K l=>?_);refine QC (wV K (by simp) λL W j=>?_);refine QC (wV W (by simp) λJ Z g=>?_);refine QC (wV Z (by simp) λG Y f=>?_);refine QC (QCm (QK ?_));refine QK #[_,rfl,QK ?_];have k:it<a.1.size:=QW h;have pt:G.get? a.1.size=jr { cls:=.type "tuple",data:=.seq (Q3 [e.key,e.val]) } :=
  f.extBut _ _ (wy k) (g.extBut _ _ (wy k) (j.extBut _ _ (wy k) (l.extBut _ _ (wy k) (QR _ rfl))))
 have n:G.1.size=a.1.size+1:=by rw[f.1,g.1,j.1,l.1,WH]
 have v:pu G it d (i+1) es.size ep e.key e.val a.1.size:=Y;rw[p]at pt n v;have:=q G v pt n λb o hb x=>f.extBut _ _ hb (g.extBut _ _ hb (j.extBut _ _ hb (l.extBut _ _ hb (QH _ (r.extBut _ _ hb x)))));show Q (jr (.ref a.1.size)) _;rw[p];exact this
theorem rR(f:A.handled=kv)
  (h:eH s.1 it d i es.size ep c u) (x:s.1.get? d=jr z) (y:z.data=.dict es ep) (g:es[i]?=kv)
  (q:∀h',QAD it s.1 h'->Q kv { s with heap:=h' }) :
  ko (k4 prog w) A (mm (.ref it)) Q E s:=by
 have v:s.TypeIs (.ref it) "dict_itemiterator":=#[_,h,rfl]
 show ko _ _ (bind _ _) _ _ _;refine QC (W9 (qU v qb (qO qb v Wn ?_ (Wj _))));show ko _ _ (bind _ _) _ _ _;refine QC (QK (QC (QC (QC (wB v (QK (QC (QAh h rfl ?_))))))));rw[rD];show ko _ _ (if(kx d==j2)=kf then _ else _) _ _ _;rw[ii (show ¬ (kx d==j2)=kf from QG)];show ko _ _ (wZ (.ref d) >>= _) _ _ _;refine QC (QK (QC (wI x y ?_)));rw[ii (show ¬ (((es.size:Nat):Int) != ((es.size:Nat):Int))=kf by simp)];refine QC (QK (QC (w9 x y ?_)));rw[ii (show ¬ (((ep:Nat):Int) != ((ep:Nat):Int))=kf by simp)];refine QK ?_;have h0:(if((i:Nat):Int)<0 then kv else es[((i:Nat):Int).toNat]?)=none:=by rw[ii (),qf];exact g
 simp only[h0];refine QC ?_;show ko _ _ (dy (.ref it) >>= _) _ _ _;refine QC (wB v (QK ?_));rw[rD,i0 rfl];refine QC (wV h (by simp) λj e k=>?_);refine QC (m:=nt (.type "StopIteration") []) ?_;simp only[nt,ni];refine QC (Q2 ?made (by size_fits));refine QC (m:=h7 _ _) (QCk (a:=j2) (by first|rfl | (rw[h7];rfl)) ?arg);refine Q2 ?made2 (by size_fits);simp only[ro];refine QC (QB9 ?_);first|rw[show A.in1.handled=kv from f]|rw[f]
 refine QC (QK (QCl ?_));refine QC (Wt (T:="StopIteration") (b:=kf) #[_,QR _ rfl,rfl] (by kernel_rfl) ?_);rw[i0 rfl];exact QK (q _ ((k.extBut.push _).push _))
theorem b9{v:k0}{Q:uC}(hv:s.1.IsItemsView v d)(h:s.1.get? d=jr z)(x:z.data=.dict es ep)
  (q:Q (.ref s.1.1.size) { s with heap:=s.1.push { cls:=.type "dict_itemiterator",data:=.fields (Q3 [.none,.bool kb,.ref d,.int 0 0,.int es.size 0,.int ep 0,.none,.none]) } }) :
  ko (k4 prog w) A (lr (.ref v)) Q E s:=by
 have a:=Heap.IsItemsView.typeIs hv;let#[u,y,b,k]:=id hv;refine QCN a QBD (qO QBD a F.entry_dict_items_iter ?_ (F.args_dict_items_iter_1 _));show ko _ _ (bind _ _) _ _ _;refine QC (QK (QC ?_));show ko _ _ (bind _ _) _ _ _;refine QC (wY y k rfl (QK (QC ?_)));show ko _ _ (bind _ _) _ _ _;refine QC (wI h x (QC (w9 h x ?_)));simp only[rD,if_true];refine Q2 (QK #[_,rfl,"dict_itemiterator",_,#[_,QR _ rfl,rfl],qb.lookup,q]) (show _<=kt+2 by simp[Builtin.Dict_items.ownedTupleFields,qB])
theorem IX{Q:uC}(h:s.1.get? d=jr z)(x:z.cls=.type "dict")(v:(d==gV)=kb)
  (q:Q (.ref s.1.1.size) { s with heap:=s.1.push { cls:=.type "dict_items",data:=.fields (Q3 [.ref d]) } }):ko (k4 prog w) A (d3 (.builtin "dict.items") [.ref d]) Q E s:=by
 have y:s.TypeIs (.ref d) "dict":=#[_,h,x]
 refine qO F.slot_dict_items y F.entry_dict_items ?_ (F.args_dict_items_1 _);show ko _ _ (bind _ _) _ _ _;refine QC ?_;show ko _ _ (bind _ _) _ _ _;refine QC (Wo y ?_);refine QK ?_;show ko _ _ ((if(d==gV)=kf then _ else _) >>= _) _ _ _;rw[v,ii QG];exact QC (QK (QC (Q2 (QK #[_,rfl,q]) (show _<=kt+2 by simp[qB]))))
theorem C0{κ:Type}[DecidableEq κ]{h:rn prog w κ}{d a:k0}{xs:List (κ×k0×kn)}{k:κ}{v:kn}{Q:uC}(W:h.room A)(f:h.is s.1 k a)(hm:s.1.DictOfH h d xs)(hsz:xs.9<=kt)
  (C:∀p,ef xs k=jr p->Q p.2 { s with toks:=s.toks+h.draws k })
  (B:ef xs k=kv->∀h',h'.DictOfH h d (Rt xs k a v)->qe d s.1 h'->Q v { s with heap:=h',toks:=s.toks+h.draws k }) :
  ko (k4 prog w) A (n7 d (.ref a) v) Q E s:=by
 let#[o,es,ep,m,hc,l,X,r,Y]:=id hm;have F:es.size=xs.length:=by have:=o9 qQ X;simpa using this
 unfold n7;refine qh (QC (h.pyHash W f (QC (wpAny_dictFind_heap W f m l X r Y (λq=>?_) λj p K=>?_))));have b:=atKey_none_of_get q;have n:=not_mem_keys_of_get q;refine QC (QCM (QC (wpAny_updateDictKeys m l (QK (B b _ ?_ (qD ..))) () (by simp))));refine#[_,_,ep+1,wU _ m (Obj.isFreed_of_dict (QBd l _)),Obj.ExactDict.mapDictKeys hc _,QBd l _,?_,?_,?_];rw[QCn b];simp[X,fy];rw[QCn b];intro x g;rcases Qh.mp g with g|g;exact h.keeps (r x g) m l (qD ..);rw[QJ.mp g];exact h.keeps f m l (qD ..);rw[QCn b,QM];exact qy.mpr #[Y,by simp,λx g y Z e=>by rw[QS,wT,QJ]at Z;rw[e,Z]at g;exact n g];have b:=atKey_of_get Y K;have G:es[j]?=jr (fy h (k,p)):=by
  have:es.toList[j]?=jr (fy h (k,p)):=by rw[X,QX,K];rfl
  simpa using this
 refine QC (wI m l ?_);rw[G];exact QC (QCM (QK (C p b)))
theorem fV{κ:Type}[DecidableEq κ]{h:rn prog w κ}{d a:k0}{xs:List (κ×k0×kn)}{k:κ}{v:kn}{Q:uC}(b:h.room A.in1)(x:h.is s.1 k a)(hm:s.1.DictOfH h d xs)(hsz:xs.9<=kt)(g:(d==gV)=kb)
  (l:∀p,ef xs k=jr p->Q p.2 { s with toks:=s.toks+h.draws k })
  (j:ef xs k=kv->∀h',h'.DictOfH h d (Rt xs k a v)->qe d s.1 h'->Q v { s with heap:=h',toks:=s.toks+h.draws k }) :
  ko (k4 prog w) A (d3 (.builtin "dict.setdefault") [.ref d,.ref a,v]) Q E s:=by
 have y:s.TypeIs (.ref d) "dict":=Heap.DictOfH.typeIs hm;refine qO F.slot_dict_setdefault y F.entry_dict_setdefault ?_ (F.args_dict_setdefault_3 _ _ _);show ko _ _ (bind _ _) _ _ _;refine QC ?_;show ko _ _ (bind _ _) _ _ _;refine QC (Wo y ?_);refine QK ?_;show ko _ _ (if(d==gV)=kf then _ else _) _ _ _;rw[g,ii QG];exact QC (C0 b x hm hsz (λp e=>QK #[_,rfl,l p e]) λf h' n m=>QK #[_,rfl,j f h' n m])
end
end
def yM(K:QA):V->LV->Hp->VK->Prop:=λx z H Q=>∃a b v w h k,x=.ref a/\z=[.ref b,v]/\H a=jr (.dT w h)/\CG K H h/\xP K H b k/\h.9<kt /\
   (∀u,fH h k=jr u->Q u H)/\(fH h k=kv->∀y,Q v (FA H a (.dT y (OM h k b v))))
theorem J3{X:Cx}(P:X.A.units+66<gp):Ta X "dict.setdefault" (yM X.K):=by
 intro m s J H x M v O Q I o r h;let#[a,b,y,S,f,k,rfl,rfl,e,hk,E,l,Z,Y]:=h;cases o;let#[u,N,rfl,q,g]:=L5 r;cases q;let#[W,n,L,w,F]:=eL I e hk;have hl:(OM f k b y).9<=sizeLine:=by have:=mU f k b y;omega
 refine fV (uJ ()) (sU I E) F (by rw[<- Q6 w];exact W) n (λp B=>?_) λC R j hs=>?_;have z:=w.val k;rw[B]at z;cases ev:fH f k with|none=>rw[ev]at z;exact(show False from z).elim|some u=>rw[ev]at z;exact#[u,H,I.tok _,z,Z u ev]
 have z:=w.val k;rw[C]at z;cases ev:fH f k with|some u=>rw[ev]at z;exact(show False from z).elim|none=>let#[i,G]:=ON (t':=_) I (by rw[e];exact True.intro) n hl (w.put k b g) j hs;exact#[y,_,G,g,Y ev i]
def jAz(ep n:Nat)(a:k0):It :=
  #[λi H=>∃h p,H a=jr (.dT ep h)/\h.9=n/\h[i]?=jr p,
   λi H v x=>∃q p,H q=kv/\v=.ref q/\x=FA H q (.tup [.ref p.2.1,p.2.2])/\∀h,H a=jr (.dT ep h)->h[i]?=jr p,
   λi H=>∃h,H a=jr (.dT ep h)/\h.9=n/\n<=i]
theorem IH{α h:Type}{R:α->h->Prop}:∀{l:List α}{m:List h}{i:Nat}{x:α},xb R l m->l[i]?=jr x->∃y,m[i]?=jr y/\R x y
 |_,_,i,_,.nil,e=>by simp at e|_,_,0,_,.cons r _,e=>by simp at e;subst e;exact#[_,rfl,r]|_,_,i+1,x,.cons _ t,e=>by let#[y,u,z]:=IH (i:=i) (x:=x) t (by simpa using e);exact#[y,by simpa using u,z]
theorem EV{P:vx}{w:x0}{K:QA}{es:List Expr}{kk:Nat}{pp:Pos}{a it:k0}{n ep:Nat}:Turn0 P w K (.Tuple es kk pp) (jAz ep n a) [it] it (λi h=>∃ok Y,eH h it a i n ep ok Y) where
 mem:=by simp
 obj:=λi h st b hb=>by let#[ok,Y,st]:=st;rw[QJ]at hb;subst hb;exact#[_,st,λv q=>by cases(show Data.fields _=Data.cell v from q)]
 keep:=λi h h' st k=>by let#[ok,Y,st]:=st;exact#[ok,Y,k it (by simp) _ st]
 item:=by
  intro X J C L hc i Z s σ H E I A st G;subst J C L;let#[j,p,e,F,ep]:=G;let#[ok,Y,st]:=st;let#[z,y,xs,r,o,u,N,h2,M,B,h5]:=(show DA X.prog X.w H s.1 a (.dT _ j) from I.hok a _ e)
  have l:u.size=n:=by have:=o9 qQ B;rw[QD,Qp]at this;rw[this,<- Q6 r,F]
  let#[q,hq,rq]:=IH r ep;have he:u[i]?=jr (fy (bF X.prog X.w) q):=by
   have:u.toList[i]?=jr (fy (bF X.prog X.w) q):=by rw[B,QX,hq];rfl
   simpa using this
  subst l;refine z8 st N M he λh' b1 b3 b4 b5=>#[_,rfl,wpAny_letOwnedTupleGo_items b1 λm c1 sb=>?_]
  have hp:=I.hok.fresh (QT s.1.1.size);have W:it<s.1.1.size:=QW st;have g:∀b∈[it],b<s.1.1.size:=λb hb=>by rw[QJ]at hb;subst hb;exact W
  have kept:∀b o,b∉[it]->s.1.get? b=jr o->m.get? b=jr o:=λb o hb q=>by rw[QJ]at hb;exact(sb.2 b hb).trans (b5 b o hb q)
  have f:m.get? s.1.1.size=jr { cls:=.type "tuple",data:=.seq (Q3 [.ref q.2.1,q.2.2]) }:=(sb.2 _ (wy W)).trans b3;have I1:=I.pair (x:=.ref p.2.1) (y:=p.2.2) (h':=s.1.push { cls:=.type "tuple",data:=.seq (Q3 [.ref q.2.1,q.2.2]) }) (t':=s.toks) (λb o e=>QH _ e) (QT _) (QR _ rfl) (show kx q.2.1=kx p.2.1 by rw[rq.2.1]) rq.2.2;have I2:=I1.turnedL (h':=m) (t':=s.toks) (ch:=[it]) (λb o hb e=>by
   rcases QBe e with⟨q1,q2⟩| q;subst q1 q2;exact f;exact kept b o hb q) λb hb=>by
   let#[f0,S,f2,R,Q,O]:=A b hb;exact#[by rw[uA (Qo (g b hb))];exact f0,S,f2,R,Q,O]
  refine#[.ref s.1.1.size,_,I2,rfl,#[s.1.1.size,p,hp,rfl,rfl,λkvs' g1=>?_],#[_,_,c1],λb hb=>?_];rw[e]at g1;cases g1;exact ep;rw[uA (Qo (g b hb))];exact(A b hb).1
 done:=by
  intro X J C L hc i Z s σ H E I A st G;subst J C L;let#[j,e,F,ep]:=G;let#[ok,Y,st]:=st;let#[z,y,xs,r,o,u,N,h2,M,B,h5]:=(show DA X.prog X.w H s.1 a (.dT _ j) from I.hok a _ e)
  have l:u.size=n:=by have:=o9 qQ B;rw[QD,Qp]at this;rw[this,<- Q6 r,F]
  subst l;let#[f0,S,f2,R,Q,O]:=A it (by simp);exact rR (I.ok.hd hc) st N M (QBE ep) λh' eb=>#[rfl,I.turned (t':=s.toks) (λb o hb e=>eb b o hb e) f0 S R Q O]
section
variable{prog:vx}{w:x0}{A:y1}{E:uC}{s:ku}
section
variable{d it:k0}{h:Obj}{es:Array Er}{ep i:Nat}{Q:Option kn->ku->Prop}
theorem EG:W8 "dict_keyiterator"=false:=by decide +kernel
theorem Re{Q:uC}(u:(d==gV)=kb)(x:s.1.get? d=jr h)(hc:h.cls=.type "dict")(y:h.data=.dict es ep)
  (q:Q (.ref s.1.1.size) { s with heap:=s.1.push { cls:=.type "dict_keyiterator",data:=.fields (Q3 [.ref d,.int 0 0,.int es.size 0,.int ep 0]) } }) :
  ko (k4 prog w) A (lr (.ref d)) Q E s:=by
 have z:s.TypeIs (.ref d) "dict":=#[_,x,hc]
 refine QCN z QCe (qO QCe z F.entry_dict_iter ?body (F.args_dict_iter_1 _))
 case body =>
  show ko _ _ (bind _ _) _ _ _;refine QC ?sl
  case sl =>
   show ko _ _ (bind _ _) _ _ _;refine QC (Wo z (QK ?go))
   case go =>
    have e:Wp d=sn PUnit.unit:=by unfold Wp;rw[u];rfl
    show ko _ _ (Wp d >>= _) _ _ _;rw[e];refine QC (QK (QC (wI x y (QC (w9 x y (QC (Q2 (QK #[_,rfl,"dict_keyiterator",_,#[_,QR _ rfl,rfl],qg.lookup,?_]))))))));simpa[hQ]using q
theorem de{e:Er}
  (u:s.1.IsKeyIter it d i es.size ep) (z:s.1.get? d=jr h) (v:h.data=.dict es ep) (f:es[i]?=jr e)
  (q:∀h',h'.IsKeyIter it d (i+1) es.size ep->qe it s.1 h'->Q (jr e.key) { s with heap:=h' }) :
  ko (k4 prog w) A (mm (.ref it)) Q E s:=by
 have k:=u.typeIs;let#[g,a,b,x]:=id u;show ko _ _ (bind _ _) _ _ _;refine QC (W9 (qU k qg (qO qg k Wz ?_ (Wq _))));show ko _ _ (bind _ _) _ _ _;refine QC (QK (QC (QC (QC (wG k (QK (QC (QAh a x ?_))))))));rw[EG];show ko _ _ (if(kx d==j2)=kf then _ else _) _ _ _;rw[ii (show ¬ (kx d==j2)=kf from QG)];show ko _ _ (wZ (.ref d) >>= _) _ _ _;refine QC (QK (QC (wI z v ?_)));rw[ii (show ¬ (((es.size:Nat):Int) != ((es.size:Nat):Int))=kf by simp)];refine QC (QK (QC (w9 z v ?_)));rw[ii (show ¬ (((ep:Nat):Int) != ((ep:Nat):Int))=kf by simp)];refine QK ?_;have h0:(if((i:Nat):Int)<0 then kv else es[((i:Nat):Int).toNat]?)=jr e:=by rw[ii (),qf];exact f
 simp only[h0];refine QC ?_;show ko _ _ (dy (.ref it) >>= _) _ _ _;refine QC (wG k (QK (QC (QBR k ?_))));rw[EG];show ko _ _ (setField (.ref it) 1 _ >>= _) _ _ _;refine QC (QAg a x (by simp) ?_);have y:(s.1.update it (Obj.mapFields (·.setIfInBounds 1 (hQ ((i:Int)+1))))).IsKeyIter it d (i+1) es.size ep :=
  #[_,wU _ a (QBQ (WX x _)),(QCL ..).trans b,by rw[WX x];simp[hQ]]
 refine QC (qh (QC (QBR (s:={ s with heap:=s.1.update it (Obj.mapFields (·.setIfInBounds 1 (hQ ((i:Int)+1)))) }) y.typeIs ?_)));show ko _ _ (sn e.key) _ _ _;exact QK (QK #[_,rfl,QK (q _ y (qD ..))])
theorem NT(e:A.handled=kv)
  (y:s.1.IsKeyIter it d i es.size ep) (x:s.1.get? d=jr h) (u:h.data=.dict es ep) (f:es[i]?=kv)
  (q:∀h',QAD it s.1 h'->Q kv { s with heap:=h' }) :
  ko (k4 prog w) A (mm (.ref it)) Q E s:=by
 have v:=y.typeIs;let#[j,k,g,z]:=id y;show ko _ _ (bind _ _) _ _ _;refine QC (W9 (qU v qg (qO qg v Wz ?_ (Wq _))));show ko _ _ (bind _ _) _ _ _;refine QC (QK (QC (QC (QC (wG v (QK (QC (QAh k z ?_))))))));rw[EG];show ko _ _ (if(kx d==j2)=kf then _ else _) _ _ _;rw[ii (show ¬ (kx d==j2)=kf from QG)];show ko _ _ (wZ (.ref d) >>= _) _ _ _;refine QC (QK (QC (wI x u ?_)));rw[ii (show ¬ (((es.size:Nat):Int) != ((es.size:Nat):Int))=kf by simp)];refine QC (QK (QC (w9 x u ?_)));rw[ii (show ¬ (((ep:Nat):Int) != ((ep:Nat):Int))=kf by simp)];refine QK ?_;have h0:(if((i:Nat):Int)<0 then kv else es[((i:Nat):Int).toNat]?)=none:=by rw[ii (),qf];exact f
 simp only[h0];refine QC ?_;show ko _ _ (dy (.ref it) >>= _) _ _ _;refine QC (wG v (QK ?_));rw[EG];show ko _ _ (setField (.ref it) 0 .none >>= _) _ _ _;refine QC (QAg k z (by simp) ?_);refine QC (m:=nt (.type "StopIteration") []) ?_;simp only[nt,ni];refine QC (Q2 ?made (by size_fits));refine QC (m:=h7 _ _) (QCk (a:=j2) (by first|rfl | (rw[h7];rfl)) ?arg);refine Q2 ?made2 (by size_fits);simp only[ro];refine QC (QB9 ?_);first|rw[show A.in1.handled=kv from e]|rw[e]
 refine QC (QK (QCl ?_));refine QC (Wt (T:="StopIteration") (b:=kf) #[_,QR _ rfl,rfl] (by kernel_rfl) ?_);rw[i0 rfl];exact QK (q _ (((qD ..).extBut.push _).push _))
end
end
noncomputable def jA1(ep n:Nat)(a:k0):It :=
  #[λi H=>∃h p,H a=jr (.dT ep h)/\h.9=n/\h[i]?=jr p,
   λi H v x=>x=H/\∀h,H a=jr (.dT ep h)->∃p,h[i]?=jr p/\v=.ref p.2.1,
   λi H=>∃h,H a=jr (.dT ep h)/\h.9=n/\n<=i]
theorem O0{P:vx}{w:x0}{K:QA}{S:Expr}{a it:k0}{n ep:Nat}:Turn P w K S (jA1 ep n a) [it] it (λi h=>h.IsKeyIter it a i n ep) where
 mem:=by simp
 obj:=λi h st b hb=>by let#[o,e,c,d]:=st;rw[QJ]at hb;subst hb;exact#[o,e,λv z=>by rw[d]at z;cases z]
 keep:=λi h Y st k=>st.at λo e=>k it (by simp) o e
 item:=by
  intro X B Z C hc i u s Q H E I l st A;subst B Z C;let#[f,p,e,W,ep]:=A;let#[z,y,R,r,o,x,G,h2,F,m,h5]:=(show DA X.prog X.w H s.1 a (.dT _ f) from I.hok a _ e)
  have g:x.size=n:=by have:=o9 qQ m;rw[QD,Qp]at this;rw[this,<- Q6 r,W]
  let#[q,hq,rq]:=IH r ep;have he:x[i]?=jr (fy (bF X.prog X.w) q):=by
   have:x.toList[i]?=jr (fy (bF X.prog X.w) q):=by rw[m,QX,hq];rfl
   simpa using this
  subst g;let#[O,N,f2,M,L,J]:=l it (by simp);refine de st G F he λY j sb=>?_;have I1:Inv X u Q H { s with heap:=Y }:=I.turned (t':=s.toks) (λb o hb e=>(sb.2 b hb).trans e) O N M L J;let#[oi,ei,ci,di]:=id j;exact#[_,rfl,go_of (s:={ s with heap:=Y }) ei ci di (by decide) #[.ref p.2.1,H,I1,show kx q.2.1=kx p.2.1 by rw[rq.2.1],#[rfl,λks hk=>by rw[e]at hk;cases hk;exact#[p,ep,rfl]],j,λb hb=>(l b hb).1]]
 done:=by
  intro X B Z C hc i u s Q H E I l st A;subst B Z C;let#[f,e,W,ep]:=A;let#[z,y,R,r,o,x,G,h2,F,m,h5]:=(show DA X.prog X.w H s.1 a (.dT _ f) from I.hok a _ e)
  have g:x.size=n:=by have:=o9 qQ m;rw[QD,Qp]at this;rw[this,<- Q6 r,W]
  subst g;let#[O,N,f2,M,L,J]:=l it (by simp);exact NT (I.ok.hd hc) st G F (QBE ep) λY eb=>#[rfl,I.turned (t':=s.toks) (λb o hb e=>eb b o hb e) O N M L J]
 self:=λ_ _ _ _ _ st h=>wpAny_pyIter_keyiter st h
open PySem.SeqAt
open AutoSeq1 (wpAny_loadPart')
open MeetsSeq MeetsSeq2 MeetsSeq3
noncomputable def Dp:LS->LS->Bool
 |[],[]=>kb|[],_::_=>kf|_::_,[]=>kb|x::a,y::b=>if(x==y)=kf then Dp a b else decide (x.cps.toList<y.cps.toList)
theorem eQ{vs:LW}{z:LS}(h:tv vs z):vs.9=z.9/\∀(i:Nat) (x:Str),z[i]?=jr x->∃t:Tok,vs[i]?=jr (Value.str x t):=by
 induction h with
 |nil=>exact#[rfl,λi x e=>by simp at e]|cons y t _ u =>
  refine#[by rw[QO,QO,u.1],λi x e=>?_];cases i with|zero=>simp at e;subst e;exact#[t,rfl]|succ i=>simp at e;simpa using u.2 i x e
theorem C3(l b:k0)(v x:Array kn)(n B:Nat)(L X:Option k0)(W o:Array (Option kn))(a ts:LS)(I:tv v.toList a)(G:tv x.toList ts)(k:Nat) :
  ∀i:Nat,v.size - i=k->i<=v.size->i<=x.size->Meets (Builtin.«list.__eq__.loop» #[[.ref l,.ref b,hQ i,hQ 0],[]])
   (λA R s=>s.1.get? l=jr { cls:=.type "list",dict:=L,data:=.seq v n,slots:=W }/\s.1.get? b=jr { cls:=.type "list",dict:=X,data:=.seq x B,slots:=o } /\
    R (.ok (.ret (.bool (Dp (a.drop i) (ts.drop i))))) s):=by
 let#[S,Q]:=eQ I;let#[O,N]:=eQ G;rw[Qp]at S O;induction k with
 |zero =>
  intro i hk F p e w A R s h;let#[E,g,d,Z,K]:=s;let#[hl,hb,h]:=h;wp_walk using qJ hl,qJ hb;have m:v[((i:Nat):Int).toNat]?=none:=by simp;omega
  rw[m];wp_walk using qJ hl,qJ hb;have Y:a.drop i=[]:=by simp;omega
  rw[Y]at h;have f:Dp [] (ts.drop i)=decide (v.size<x.size):=by
   cases z:ts.drop i with
   |nil =>
    have:ts.9<=i:=by simpa using z
    exact(dF ()).symm
   |cons y r =>
    have:i<ts.length:=by by_cases c:i<ts.9;exact c;rw[Wh ()]at z;cases z
    exact(dT ()).symm
  rw[f]at h;exact h
 |succ k C =>
  intro i hk F p e w A R s h;let#[E,g,d,Z,K]:=s;let#[hl,hb,h]:=h;wp_walk using qJ hl,qJ hb;have j:i<a.length:=()
  let#[t,ev]:=Q i a[i] (Qf j);have m:v[((i:Nat):Int).toNat]?=jr (.str a[i] t):=by simpa using ev
  rw[m];have Y:a.drop i=a[i]::a.drop (i+1):=QAi j;rw[Y]at h;by_cases c:i<ts.9;let#[u,J]:=N i ts[i] (Qf c);have f:x[((i:Nat):Int).toNat]?=jr (.str ts[i] u):=by simpa using J
  have M:ts.drop i=ts[i]::ts.drop (i+1):=QAi c;rw[M]at h;have h:R (.ok (.ret (.bool (if(a[i]==ts[i])=kf then Dp (a.drop (i+1)) (ts.drop (i+1)) else decide (a[i].cps.toList<ts[i].cps.toList))))) _:=h;rw[f];refine QC (EqAt.str_str a[i] t ts[i] u e w _ _ ?_);have hc:((i:Int)+1)=((i+1:Nat):Int):=by push_cast;rfl
  cases q:(a[i]==ts[i]) with|true=>rw[q,i0 rfl]at h;wp_walk;rw[hc];exact#[QA2 plain_eq_loop _,QAE entry_eq_loop (by rw[WE plain_eq_loop _];exact C (i+1) () () () e w A R _ #[hl,hb,h])]|false=>rw[q,ii QG]at h;wp_walk using qJ hl,qJ hb;rw[m,f];show ko _ _ (xk .Lt (.str a[i] t) (.str ts[i] u) >>= _) _ _ _;refine QC (PySem.P.lt_str ?_);exact QK h
  have f:x[((i:Nat):Int).toNat]?=none:=by simp;omega
  rw[f];wp_walk using qJ hl,qJ hb;rw[Wh (show ts.9<=i by omega)]at h;have:decide (v.size<x.size)=false:=dF ();have h:R (.ok (.ret (.bool kb))) _:=h;rw[<- this]at h;exact h
theorem P3(l b:k0)(y x:Array kn)(n e:Nat)(f v:Option k0)(a z:Array (Option kn))(k ts:LS)(j:tv y.toList k)(i:tv x.toList ts) :
  Meets (Builtin.«list.__lt__» #[[.ref l,.ref b],[]])
   (λA R s=>s.1.get? l=jr { cls:=.type "list",dict:=f,data:=.seq y n,slots:=a }/\s.1.get? b=jr { cls:=.type "list",dict:=v,data:=.seq x e,slots:=z } /\
    R (.ok (.ret (.bool (Dp k ts)))) s):=by
 intro u w A R s h;let#[p,g,d,m,o]:=s;let#[hl,hb,h]:=h;have q:=AutoSeq1.sub_list_list;wp_walk using qJ hl,qJ hb;exact#[QA2 plain_eq_loop _,QAE entry_eq_loop (by rw[WE plain_eq_loop _];exact C3 l b y x n e f v a z k ts j i _ 0 rfl (Qt _) (Qt _) u w A R _ #[hl,hb,h])]
section
variable{prog:vx}{w:x0}{A:y1}{E:uC}{s:ku}
theorem YW{l b:k0}{y x:Array kn}{n a:Nat}{e u:Option k0}{k z:Array (Option kn)}{v ts:LS}{Q:Bool->ku->Prop}(f:A.units<gp)(hl:s.1.get? l=jr { cls:=.type "list",dict:=e,data:=.seq y n,slots:=k })(hb:s.1.get? b=jr { cls:=.type "list",dict:=u,data:=.seq x a,slots:=z })
  (i:tv y.toList v) (g:tv x.toList ts) (h:Q (Dp v ts) s):ko (k4 prog w) A (keyLt' ac (.ref l) (.ref b)) Q E s:=by
 rw[keyLt'_oneType,oneLt'_eq];simp only[if_true];refine QC (wpAny_cRoomFor f (QC (wpAny_callSpecialIfBound?_slot (T:="list") #[_,hl,rfl] F.slot_list_lt ?_)));refine QBY F.slot_list_lt #[_,hl,rfl] F.entry_list_lt (F.args_list_lt_2 _ _) (P3 l b y x n a e u k z v ts i g) #[hl,hb,?_];exact we h
end
end L2.L3
namespace L2.L3
open PySem PySem.Spec PyProof.Rows PySem.W
def jD{α:Type}(n:Nat)(P:α->Prop):KasT α->Prop
 | .ret a=>P a|.ask i j k=>i<n/\j<n/\∀b,jD n P (k b)
theorem jD.bnd{α x:Type}{n:Nat}{P:α->Prop}{R:x->Prop}{f:α->KasT x}(y:∀a,P a->jD n R (f a)):∀{t:KasT α},jD n P t->jD n R (t.bind f)
 | .ret a,h=>y a h|.ask i j k,#[h1,h2,h]=>#[h1,h2,λb=>jD.bnd y (h b)]
theorem jD.wp{α:Type}{n:Nat}{P:α->Prop}{x:Nat->Nat->(Bool->ku->Prop)->ku->Prop}{Q:α->ku->Prop}{s:ku}(y:∀i j,i<n->j<n->∀C:Bool->ku->Prop,(∀b,C b s)->x i j C s)(z:∀a,P a->Q a s):∀{t:KasT α},jD n P t->t.kasWp x Q s
 | .ret a,h=>z a h|.ask i j k,#[h1,h2,h]=>y i j h1 h2 _ λb=>jD.wp y z (h b)
def Pm(n:Nat)(p:Array Nat):Prop:=p.Perm (Q3 (Qj n))
section
variable{n:Nat}
section
variable{p:Array Nat}
theorem Pm.lt(h:Pm n p)(h0:0<n)(i:Nat):p.getD i 0<n:=by
 by_cases c:i<p.size;have e:p.getD i 0=p[i]:=by simp[QBZ,c]
 rw[e];have m:p[i]∈p.toList:=by simp
 have:=(Q4.mp h).mem_iff.mp m;simpa using this;have e:p.getD i 0=0:=by simp[QBZ,c]
 rw[e];exact h0
theorem Pm.rev(h:Pm n p)(i j:Nat):Pm n (kas_rev p i j):=(mirror_perm _ _ _ _).trans h
theorem ZS{p:Array Nat}(h:Pm n p)(h0:0<n):∀(f m:Nat),jD n (λ_=>True) (kas_asc p f m)
 |0,m=>trivial|f+1,m=>#[h.lt h0 _,h.lt h0 _,λb=>by
  cases b with|true=>exact trivial|false=>exact ZS h h0 f (m+1)]
theorem DJ(h0:0<n):∀(f:Nat) {p:Array Nat}(h:Pm n p) (m q:Nat),jD n (λr=>Pm n r.1) (kas_desc f p m q)
 |0,p,h,m,q=>h|f+1,p,h,m,q=>#[h.lt h0 _,h.lt h0 _,λb=>by
  cases b with
  |true=>show jD n _ (if q > 0 then _ else _);split;exact DJ h0 f (h.rev _ _) _ _;exact DJ h0 f h _ _|false =>
   refine#[h.lt h0 _,h.lt h0 _,λb=>?_];cases b with|true=>exact h|false=>exact DJ h0 f h _ _]
theorem xQ(h0:0<n)(h:Pm n p)(a b:Nat):jD n (λr=>Pm n r.2) (kas_tail3 a b p):=by refine jD.bnd (f:=λm=>.ret (m,kas_rev p 0 a)) (λm _=>?_) (ZS (h.rev _ _) h0 _ _);exact h.rev _ _
theorem CJ(h0:0<n)(h:Pm n p)(a b:Nat):jD n (λr=>Pm n r.2) (kas_descPart a b p):=by refine jD.bnd (λr x=>?_) (DJ h0 _ h _ _);split;exact xQ h0 (Pm.rev x _ _) _ _;exact xQ h0 x _ _
theorem R4(h0:0<n)(h:Pm n p)(b:Nat):jD n (λr=>Pm n r.2) (kas_count b p):=by
 refine jD.bnd (λm _=>?_) (ZS h h0 _ _);split;exact h;split
 ·refine#[h.lt h0 _,h.lt h0 _,λc=>?_]
  cases c with|true=>exact h|false=>exact CJ h0 (h.rev _ _) _ _
 exact CJ h0 h _ _
theorem RK(h0:0<n){p:Array Nat}(h:Pm n p)(k:Nat):∀(f l r:Nat),jD n (λ_=>True) (kas_place p k f l r)
 |0,l,r=>trivial|f+1,l,r=>by
  show jD n _ (if l ≥ r then _ else _);split;exact trivial;refine#[h.lt h0 _,h.lt h0 _,λb=>?_];cases b with|true=>exact RK h0 h k f _ _|false=>exact RK h0 h k f _ _
theorem IZ(h0:0<n):∀(f:Nat) {p:Array Nat}(h:Pm n p) (k:Nat),jD n (Pm n) (kas_bin f p k)
 |0,p,h,k=>h|f+1,p,h,k=>jD.bnd (λl _=>IZ h0 f ((bubble_perm _ _ _).trans h) _) (RK h0 h _ _ _ _)
theorem Ba(h0:0<n):jD n (Pm n) (kas_sort n):=by refine jD.bnd (λr h=>?_) (R4 h0 (QAF _) _);split;exact IZ h0 _ h _;exact h
end
end
theorem RG{α:Type}(vs:List α)(d:α):(Qj vs.9).map (λi=>vs.getD i d)=vs:=by apply qu;intro i;rw[QX];by_cases c:i<vs.9;rw[wO c];simp[c];rw[Q0 (by simp;omega),Q0 ()];rfl
section
variable{prog:vx}{w:x0}{A:y1}{E:uC}{s:ku}
section
variable{vs:LW}{R:Array Nat->Prop}{l:k0}{Q:uC}
theorem Ct{M:Model}{Q:th->ku->Prop}(k:2<=vs.9)(z:∀v∈vs,s.TypeIs v "list")(h:Q ac s):ko M A (Ar vs.toArray) Q E s:=by
 cases vs with
 |nil=>simp at k|cons v r =>
  rw[keyKind'_eq,QCO,map_eq_pure_bind];refine QC (QC (kas_mapM (r:=kv) _ (λu y e q=>?_) (QK ?_)));rw[kas_first_eq];exact QC (QBN (z u y) (QK q));rw[ii (by simp),ii (by simp),oneTypeOnly'_eq,QCO,map_eq_pure_bind];refine QC (QC (QC (kas_mapM (r:=.type "list") _ (λu y e q=>QBN (z u y) q) (QK ?_))));have b:((v::r).map λ_=>Value.type "list").toArray[0]?=jr (.type "list"):=by simp
  have a:(((v::r).map λ_=>Value.type "list").toArray.all λx=>x==Value.type "list")=true:=by simp only[List.all_toArray,List.all_map,qA];intro _ _;rfl
  rw[b];simp only[a,if_true];exact QK (QK h)
theorem Lm{κ:th}{a:k0}{n:Nat}{P:PySem.Fin->ku->Prop}(m:s.1.get? a=jr (tj "list" vs.toArray n))(W:vs.9<64)
  (kind:2<=vs.9->∀u:vu,(∀b o,b≠a->s.1.get? b=jr o->u.get? b=jr o)->∀Q:th->ku->Prop,Q κ { s with heap:=u }->ko (k4 prog w) A (Ar vs.toArray) Q E { s with heap:=u })
  (h:2<=vs.9->∀u:vu,(∀b o,b≠a->s.1.get? b=jr o->u.get? b=jr o)->(kas_sort vs.9).kasWp (kas_ask prog w A κ vs) (λp s'=>s'={ s with heap:=u }/\Pm vs.9 p/\R p) { s with heap:=u })
  (B:vs.9<2->R (Q3 (Qj vs.9)))
  (k:∀p:Array Nat,Pm vs.9 p->R p->P (.done (.ret .none)) { s with heap:=sortedHeap s.1 a vs (p.toList.map λi=>vs.getD i j2).toArray }):ko (k4 prog w) A (Builtin.«list.sort» #[[.ref a],[]]) P E s:=by
 have S:a<s.1.1.size:=QW m;have F:=qD s.1 a (Q8 λ_=>(#[]:Array kn));obtain⟨q,j⟩:∃q,(s.1.update a (Q8 λ_=>(#[]:Array kn))).get? a=jr (tj "list" #[] q):=#[_,QAG m λ_=>#[]]
 have g:(((s.1.update a (Q8 λ_=>(#[]:Array kn))).push (tj "tuple" vs.toArray 0)).push (tj "list" #[] 0)).get? a=jr (tj "list" #[] q):=QH _ (QH _ j);have kept:∀b o,b≠a->s.1.get? b=jr o->(((s.1.update a (Q8 λ_=>(#[]:Array kn))).push (tj "tuple" vs.toArray 0)).push (tj "list" #[] 0)).get? b=jr o:=λb o hb e=>QH _ (QH _ ((F.2 b hb).trans e));rw[list_sort_plain];refine QC (QCX m rfl (QC (WY m rfl ?_ (by rw[QN];omega) (Qt _))));refine QC (QBs j rfl (QC (QBm ?_ (by show vs.9<=_;omega))));refine QC (QA3 (qh ?_) (Qt _));show ko (k4 prog w) A _ P E { s with heap:=((s.1.update a (Q8 λ_=>(#[]:Array kn))).push (tj "tuple" vs.toArray 0)).push (tj "list" #[] 0) };dsimp only;have fin:∀p:Array Nat,Pm vs.9 p->R p->ko (k4 prog w) A (do
   let x:=(<- seqEpoch a) != q
   QA4 (.ref a) λ_=>(p.toList.map λi=>vs.getD i j2).toArray
   if x then rule "list.sort.modified";raiseError "ValueError" "list modified during sort"
   ret .none) P E { s with heap:=((s.1.update a (Q8 λ_=>(#[]:Array kn))).push (tj "tuple" vs.toArray 0)).push (tj "list" #[] 0) }:=λp X Z=>by
  have hl:p.toList.9=vs.length:=by have:=X.size_eq;simpa using this
  refine QC (QBs g rfl (QC (WY g rfl ?_ (Qt _) (by rw[QN,QD];omega))));simp only[bne_self_eq_false,Qv,if_false];exact QK (k p X Z)
 by_cases K:vs.9<2;have z:vs.toArray.size<2:=by rw[QN];exact K
 rw[i0 z,i0 z];refine QC (QK ?_);rw[QCo];refine QC (QK ?_);have e:(arrOf (QCP general' (vs.toArray.zip vs.toArray) #[] 7 kv)).map (·.2)=vs.toArray:=by show(vs.toArray.zip vs.toArray).map (·.2)=_;apply WJ.mp;simp[WK]
 dsimp only;rw[e];have r:=fin (Q3 (Qj vs.9)) (QAF _) (B K);rw[show((Q3 (Qj vs.9)).toList.map λi=>vs.getD i j2)=vs from RG vs j2]at r;exact r;have z:¬ vs.toArray.size<2:=by rw[QN];exact K
 rw[ii z,ii z];refine QC (kind () _ kept _ ?_);have C:QCP κ (vs.toArray.zip vs.toArray) #[] 7 kv=kas_st κ (aj vs) (Q3 (Qj vs.9)):=by have e:=kas_range (aj vs);rw[pairsOf_size]at e;show QCP κ (aj vs) #[] 7 kv=QCP κ ((Q3 (Qj vs.9)).map (kas_item (aj vs))) #[] 7 kv;rw[e]
 have h:=h () _ kept;rw[kas_ask_eq]at h;have v:=kas_runs (prog:=prog) (w:=w) (A:=A) (E:=E) (Q:=λ_ y s'=>∃p:Array Nat,p.size=vs.9/\arrOf y=p.map (kas_item (aj vs))/\ir y=kv/\s'={ s with heap:=((s.1.update a (Q8 λ_=>(#[]:Array kn))).push (tj "tuple" vs.toArray 0)).push (tj "list" #[] 0) }/\Pm vs.9 p/\R p)
  () W (λI y s' O N M L=>#[I,O,N,M,L]) h
 rw[<- C]at v;refine QC (wC v ?_ λ_ _ e=>e);rintro⟨⟨⟩,y⟩ s' ⟨p,X,Y,J,rfl,G,Z⟩;dsimp only;have f:(arrOf y).map (·.2)=Q3 (p.toList.map λi=>vs.getD i j2):=by apply WJ.mp;rw[Y,Array.map_map,Array.toList_map];exact wP λi _=>by show(kas_item (aj vs) i).2=_;rw[kas_item_eq]
 rw[f,J];exact fin p G Z
theorem XY{κ:th}(hl:s.1.IsList l vs.toArray)(e:vs.9<64)
  (kind:2<=vs.9->∀h:vu,(∀b o,s.1.get? b=jr o->h.get? b=jr o)->∀Q:th->ku->Prop,Q κ { s with heap:=h }->ko (k4 prog w) A.in1.in1 (Ar vs.toArray) Q E { s with heap:=h })
  (x:2<=vs.9->∀h:vu,(∀b o,s.1.get? b=jr o->h.get? b=jr o)->(kas_sort vs.9).kasWp (kas_ask prog w A.in1.in1 κ vs) (λp s'=>s'={ s with heap:=h }/\Pm vs.9 p/\R p) { s with heap:=h })
  (g:vs.9<2->R (Q3 (Qj vs.9)))
  (k:∀p:Array Nat,Pm vs.9 p->R p->Q (.ref (s.1.1.size+1)) { s with heap:=a9 s.1 vs (p.toList.map λi=>vs.getD i j2).toArray }):ko (k4 prog w) A (d3 (.builtin "sorted") [.ref l]) Q E s:=by
 refine Calls.call_function_entry kind_sorted plain_sorted entry_sorted (args_sorted1 _) ?_;unfold Builtin.«sorted»;refine QC (m:=checkCount "sorted" 1 1 _) (QK (QC (collect_list hl ?_ ())));refine QC (QA3 ?_ (by show vs.9<=_;omega));have z:((s.1.push (tj "list" #[] 0)).update s.1.1.size (Q8 (·++vs.toArray))).1.size=s.1.1.size+1:=by rw[QCf,size_push']
 have u:(((s.1.push (tj "list" #[] 0)).update s.1.1.size (Q8 (·++vs.toArray))).push (tj "list" vs.toArray 0)).get? (s.1.1.size+1)=jr (tj "list" vs.toArray 0):=by rw[<- z];exact QR _ rfl
 have v:∀b o,s.1.get? b=jr o->(((s.1.push (tj "list" #[] 0)).update s.1.1.size (Q8 (·++vs.toArray))).push (tj "list" vs.toArray 0)).get? b=jr o:=λb o q=>by have a:b<s.1.1.size:=QW q;refine QH _ ?_;rw[Heap.get?_update_ne _ _ _ _ (Qo a)];exact QH _ q
 show ko _ _ _ _ _ { s with heap:=((s.1.push (tj "list" #[] 0)).update s.1.1.size (Q8 (·++vs.toArray))).push (tj "list" vs.toArray 0) };rw[z];refine QC (qh (qO ai #[_,u,rfl] ah ?body (args_list_sort _)))
 case body=>have j:∀h:vu,(∀b o,b≠s.1.1.size+1->(((s.1.push (tj "list" #[] 0)).update s.1.1.size (Q8 (·++vs.toArray))).push (tj "list" vs.toArray 0)).get? b=jr o->h.get? b=jr o)->∀b o,s.1.get? b=jr o->h.get? b=jr o:=λh y b o q=>y b o (Qo (Wi (QW q))) (v b o q);exact Lm (s:={ s with heap:=((s.1.push (tj "list" #[] 0)).update s.1.1.size (Q8 (·++vs.toArray))).push (tj "list" vs.toArray 0) }) u e (λf h y=>kind f h (j h y)) (λf h y=>x f h (j h y)) g λp n r=>#[_,rfl,QK #[_,rfl,k p n r]]
theorem Mc{p:Array Nat}(h:Pm vs.9 p):(p.toList.map λi=>vs.getD i j2).Perm vs:=by refine((Q4.mp h).map λi=>vs.getD i j2).trans ?_;show((Qj vs.9).map λi=>vs.getD i j2).Perm vs;rw[RG]
theorem bc(hl:s.1.IsList l vs.toArray)(f:vs.9<64)(Y:∀v∈vs,∃b o,v=.ref b/\s.1.get? b=jr o/\o.cls=.type "list")
  (g:∀h:vu,(∀b o,s.1.get? b=jr o->h.get? b=jr o)->∀x∈vs,∀y∈vs,∀C:Bool->ku->Prop,(∀k,C k { s with heap:=h })->ko (k4 prog w) A.in1.in1 (keyLt' ac x y) C (λ_ _=>False) { s with heap:=h })
  (k:∀out:LW,out.Perm vs->Q (.ref (s.1.1.size+1)) { s with heap:=a9 s.1 vs out.toArray }):ko (k4 prog w) A (d3 (.builtin "sorted") [.ref l]) Q E s:=by
 refine XY (κ:=ac) (R:=λ_=>True) hl f (λm h z Q q=>Ct m (λv hv=>?_) q) (λm h z=>?_) (λ_=>trivial) λp u _=>k _ (Mc u);let#[b,o,rfl,e,c]:=Y v hv;exact#[o,z b o e,c];have r:∀i,i<vs.9->vs.getD i j2∈vs:=λi a=>by
  have:vs.getD i j2=vs[i]:=by simp[a]
  rw[this];exact WL _
 exact jD.wp (λi j a X C Z=>g _ z _ (r i a) _ (r j X) C Z) (λp u=>#[rfl,u,trivial]) (Ba (n:=vs.9) ())
end
end
def MH{α:Type}(n:Nat)(lt:Nat->Nat->Bool)(P:α->Prop):KasT α->Prop
 | .ret a=>P a|.ask i j k=>(i<n/\j<n/\i≠j)/\MH n lt P (k (lt i j))
theorem MH.bnd{α x:Type}{n:Nat}{lt:Nat->Nat->Bool}{P:α->Prop}{R:x->Prop}{f:α->KasT x}(y:∀a,P a->MH n lt R (f a)):∀{t:KasT α},MH n lt P t->MH n lt R (t.bind f)
 | .ret a,h=>y a h|.ask _ _ _,#[h1,h]=>#[h1,MH.bnd y h]
theorem MH.imp{α:Type}{n:Nat}{lt:Nat->Nat->Bool}{P R:α->Prop}(x:∀a,P a->R a):∀{t:KasT α},MH n lt P t->MH n lt R t
 | .ret a,h=>x a h|.ask _ _ _,#[h1,h]=>#[h1,MH.imp x h]
theorem MH.wp{α:Type}{n:Nat}{lt:Nat->Nat->Bool}{P:α->Prop}{x:Nat->Nat->(Bool->ku->Prop)->ku->Prop}{Q:α->ku->Prop}{s:ku}(y:∀i j,i<n->j<n->i≠j->∀C:Bool->ku->Prop,C (lt i j) s->x i j C s)(z:∀a,P a->Q a s):∀{t:KasT α},MH n lt P t->t.kasWp x Q s
 | .ret a,h=>z a h|.ask i j _,#[#[h1,h2,h3],h]=>y i j h1 h2 h3 _ (MH.wp y z h)
def lJ(lt:Nat->Nat->Bool)(a b:Nat):Prop:=lt b a=kb
structure Ord(lt:Nat->Nat->Bool):Prop where
 asy:∀a b,lt a b=kf->lt b a=kb
 tr:∀a b c,lJ lt a b->lJ lt b c->lJ lt a c
def gD(p:Array Nat)(i:Nat):Nat:=p.getD i 0
theorem BU{p q:Array Nat}{i j:Nat}(h:p[i]?=q[j]?):gD p i=gD q j:=by unfold gD;rw[QAH,QAH,h]
def Up(lt:Nat->Nat->Bool)(p:Array Nat)(k:Nat):Prop:=∀i j,i<=j->j<k->lJ lt (gD p i) (gD p j)
def Dn(lt:Nat->Nat->Bool)(p:Array Nat)(k:Nat):Prop:=∀i j,i<=j->j<k->lJ lt (gD p j) (gD p i)
theorem Pm.two{n:Nat}{p:Array Nat}(h:Pm n p){a b:Nat}(u:a<n)(hb:b<n)(y:a≠b):p.getD a 0<n/\p.getD b 0<n/\p.getD a 0≠p.getD b 0:=by
 have hs:p.size=n:=by have:=h.size_eq;simpa using this
 have h0:0<n:=()
 refine#[h.lt h0 a,h.lt h0 b,λe=>?_];have nd:p.toList.Nodup:=(Q4.mp h).nodup_iff.mpr (by simpa using QCg);have x:∀i,i<n->p.toList[i]?=jr (p.getD i 0):=λi z=>by rw[wz,QAj ()];simp[QBZ,hs,z]
 exact y ((QCQ (by rw[Qp];omega) nd).mp ((x a u).trans ((o9 jr e).trans (x b hb).symm)))
section
variable{lt:Nat->Nat->Bool}{p:Array Nat}
theorem EQ{i j:Nat}(h:j<=p.size)(k:Nat):gD (kas_rev p i j) k=if i<=k/\k<j then gD p (i+j - 1 - k) else gD p k:=by have:=getElem?_mirror_all (xs:=p) (i:=i) h k;split;rename_i c;rw[i0 c]at this;exact BU this;rename_i c;rw[ii c]at this;exact BU this
theorem YX{a b k:Nat}(hb:b<=p.size)(hk:Dn lt p k)(e:∀x y,a<=x->x<b->a<=y->y<b->lJ lt (gD p x) (gD p y))(w:b<=k):Dn lt (kas_rev p a b) k:=λi j v z=>by rw[EQ hb,EQ hb];by_cases u:a<=i/\i<b;rw[i0 u];by_cases h:a<=j/\j<b;rw[i0 h];exact e _ _ () () () ();rw[ii h];exact hk _ _ () z;rw[ii u];by_cases h:a<=j/\j<b;rw[i0 h];exact hk _ _ () ();rw[ii h];exact hk _ _ v z
theorem Hj{k:Nat}(hk:k<=p.size)(h:Dn lt p k):Up lt (kas_rev p 0 k) k:=λi j y x=>by rw[EQ hk,EQ hk,i0 (),i0 ()];exact h _ _ () ()
theorem aa{k d:Nat}(hs:k<p.size)(h:d<=k)(i:Nat):gD (bubble p k d) i=if i=k - d then gD p k else if k - d<i/\i<=k then gD p (i - 1) else gD p i:=by have:=getElem?_bubble hs d h i;split;rename_i c;rw[i0 c]at this;exact BU this;rename_i c;rw[ii c]at this;split;rename_i c2;rw[i0 c2]at this;exact BU this;rename_i c2;rw[ii c2]at this;exact BU this
end
section
variable{n:Nat}{lt:Nat->Nat->Bool}(o:Ord lt){p:Array Nat}
include o
theorem Ord.re(a:Nat):lJ lt a a:=by
 unfold lJ;cases h:lt a a with|false=>rfl|true=>exact(o.asy a a h).symm.trans h |>.symm▸rfl
theorem Ord.le{a b:Nat}(h:lt a b=kf):lJ lt a b:=o.asy a b h
theorem O5:Up lt p 1:=λi j x h=>by
 obtain rfl:i=j:=()
 exact o.re _
theorem Eb{k:Nat}(z:1<=k)(h:Up lt p k)(l:lJ lt (gD p (k - 1)) (gD p k)):Up lt p (k+1):=λi j x y=>by
 by_cases e:j<k;exact h i j x e;obtain rfl:j=k:=()
 by_cases e:i=j;subst e;exact o.re _;exact o.tr _ _ _ (h i (j - 1) () ()) l
theorem JJ{k:Nat}(z:1<=k)(h:Dn lt p k)(l:lJ lt (gD p k) (gD p (k - 1))):Dn lt p (k+1):=λi j x y=>by
 by_cases e:j<k;exact h i j x e;obtain rfl:j=k:=()
 by_cases e:i=j;subst e;exact o.re _;exact o.tr _ _ _ l (h i (j - 1) () ())
theorem BW(h:Pm n p)(h0:0<n):∀(f m:Nat),1<=m->m+f<=n->Up lt p m->MH n lt (λr=>m<=r/\r<=m+f/\Up lt p r/\(r<m+f->lt (gD p r) (gD p (r - 1))=kf)) (kas_asc p f m)
 |0,m,h1,h2,u=>#[QT _,QT _,u,λz=>i2 z ()]|f+1,m,h1,h2,u=>by
  refine#[h.two () () (),?_];cases c:lt (p.getD m 0) (p.getD (m - 1) 0) with|true=>exact#[QT _,(),u,λ_=>c]|false=>have y:=BW h h0 f (m+1) () () (Eb o h1 u c);show MH n lt _ (kas_asc p f (m+1));rw[show m+1+f=m+(f+1) by omega]at y;exact MH.imp (λr x=>#[(),x.2.1,x.2.2.1,x.2.2.2]) y
theorem vM(h0:0<n):∀(f:Nat) {p:Array Nat}(m q:Nat),Pm n p->q+1<=m->m+f<=n->Dn lt p m->(∀x y,m - (q+1)<=x->x<m->m - (q+1)<=y->y<m->lJ lt (gD p x) (gD p y)) ->
  MH n lt (λr=>Pm n r.1/\r.2.2+1<=r.2.1/\r.2.1<=n/\Dn lt r.1 r.2.1/\∀x y,r.2.1 - (r.2.2+1)<=x->x<r.2.1->r.2.1 - (r.2.2+1)<=y->y<r.2.1->lJ lt (gD r.1 x) (gD r.1 y)) (kas_desc f p m q)
 |0,p,m,q,h,hq,hm,d,al=>#[h,hq,(),d,al]|f+1,p,m,q,h,hq,hm,d,al=>by
  have hs:p.size=n:=by have:=h.size_eq;simpa using this
  refine#[h.two () () (),?_];cases c:lt (p.getD m 0) (p.getD (m - 1) 0) with
  |true =>
   have l:lJ lt (gD p m) (gD p (m - 1)):=o.le c;show MH n lt _ (if q > 0 then kas_desc f (kas_rev p (m - (q+1)) m) (m+1) 0 else kas_desc f p (m+1) 0);have one:∀{p:Array Nat}(x y:Nat),m+1 - (0+1)<=x->x<m+1->m+1 - (0+1)<=y->y<m+1->lJ lt (gD p x) (gD p y):=λx y k v w u=>by
    obtain rfl:x=y:=()
    exact o.re _
   split;refine vM h0 f (m+1) 0 (h.rev _ _) () () ?_ one;exact YX () (JJ o () d l) (λx y k v w u=>al x y k v w u) ();exact vM h0 f (m+1) 0 h () () (JJ o () d l) one
  |false =>
   refine#[h.two () () (),?_];cases e:lt (p.getD (m - 1) 0) (p.getD m 0) with
   |true=>exact#[h,hq,show m<=n by omega,d,al]|false =>
    have i:lJ lt (gD p (m - 1)) (gD p m):=c;have b:lJ lt (gD p m) (gD p (m - 1)):=e;refine vM h0 f (m+1) (q+1) h () () (JJ o () d b) λx y k v w u=>?_;have a:∀x,m - (q+1)<=x->x<m+1->lJ lt (gD p x) (gD p m)/\lJ lt (gD p m) (gD p x):=λx g j=>by by_cases z:x=m;subst z;exact#[o.re _,o.re _];exact#[o.tr _ _ _ (al x (m - 1) g () () ()) i,o.tr _ _ _ b (al (m - 1) x () () g ())]
    exact o.tr _ _ _ (a x () v).1 (a y () u).2
theorem GT(h:Pm n p)(h0:0<n){a:Nat}(x:1<=a)(y:a<=n)(d:Dn lt p a):MH n lt (λr=>Pm n r.2/\r.1<=n/\Up lt r.2 r.1) (kas_tail3 a n p):=by
 have hs:p.size=n:=by have:=h.size_eq;simpa using this
 refine MH.bnd (f:=λm=>.ret (m,kas_rev p 0 a)) (λm hm=>?_) (BW o (h.rev 0 a) h0 (n - a) a x () (Hj () d));exact#[h.rev _ _,(),hm.2.2.1]
theorem rL(h:Pm n p)(h0:0<n){a:Nat}(e:1<=a)(b:a+1<=n)(d:Dn lt p (a+1)):MH n lt (λr=>Pm n r.2/\r.1<=n/\Up lt r.2 r.1) (kas_descPart a n p):=by
 refine MH.bnd (λr w=>?_) (vM o h0 (n - (a+1)) (a+1) 0 h () () d λx y l j i g=>?_);let#[z,f,v,u,k]:=w;have hs:r.1.size=n:=by have:=z.size_eq;simpa using this
 split;exact GT o (z.rev _ _) h0 () v (YX () u k (QT _));exact GT o z h0 () v u;obtain rfl:x=y:=()
 exact o.re _
theorem T7(h:Pm n p)(h0:0<n):MH n lt (λr=>Pm n r.2/\r.1<=n/\Up lt r.2 r.1) (kas_count n p):=by
 have hs:p.size=n:=by have:=h.size_eq;simpa using this
 refine MH.bnd (λm hm=>?_) (BW o h h0 (n - 1) 1 (QT _) () (O5 o));let#[v,g,u,st]:=hm;split;exact#[h,(),u];rename_i z;have z:m≠n:=λe=>z (by rw[e];exact beq_self_eq_true _);have st:=st ();have l:lJ lt (gD p m) (gD p (m - 1)):=o.le st;split;rename_i g1;refine#[h.two () () (),?_];cases c:lt (p.getD 0 0) (p.getD (m - 1) 0) with|true=>exact#[h,(),u]|false=>have c:lJ lt (gD p (m - 1)) (gD p 0):=c;have k:∀x y,x<m->y<m->lJ lt (gD p x) (gD p y):=λx y q a=>o.tr _ _ _ (u x (m - 1) () ()) (o.tr _ _ _ c (u 0 y () a));refine rL o (h.rev _ _) h0 v () (YX () (JJ o v (λi j _ w=>k j i w ()) l) (λx y _ f _ b=>k x y f b) ())
 obtain rfl:m=1:=()
 refine rL o h h0 (QT _) () (JJ o (QT _) (λi j s w=>?_) l);obtain rfl:i=j:=()
 exact o.re _
theorem sN(h:Pm n p){k:Nat}(hk:k<n)(u:Up lt p k):∀(f l r:Nat),l<=r->r<=k->r - l<=f->(∀i,i<l->lJ lt (gD p i) (gD p k))->(∀i,r<=i->i<k->lJ lt (gD p k) (gD p i))->MH n lt (λl=>l<=k/\(∀i,i<l->lJ lt (gD p i) (gD p k))/\∀i,l<=i->i<k->lJ lt (gD p k) (gD p i)) (kas_place p k f l r)
 |0,l,r,h1,h2,h3,h4,h5=>#[(),h4,λi x hk=>h5 i () hk]|f+1,l,r,h1,h2,h3,h4,h5=>by
  show MH n lt _ (if l ≥ r then _ else _);split;exact#[(),h4,λi x hk=>h5 i () hk];refine#[h.two hk () (),?_];cases c:lt (p.getD k 0) (p.getD ((l+r) / 2) 0) with|true=>exact sN h hk u f _ _ () () () h4 λi x hk=>o.tr _ _ _ (o.le c) (u _ _ x hk)|false=>exact sN h hk u f _ _ () () () (λi x=>o.tr _ _ _ (u i ((l+r) / 2) () ()) c) h5
theorem UW(h0:0<n):∀(f:Nat) {p:Array Nat}(k:Nat),Pm n p->k+f=n->Up lt p k->MH n lt (λr=>Pm n r/\Up lt r n) (kas_bin f p k)
 |0,p,k,h,hk,u=>#[h,by rw[<- hk];exact u]|f+1,p,k,h,hk,u=>by
  have hs:p.size=n:=by have:=h.size_eq;simpa using this
  refine MH.bnd (λl hl=>?_) (sN o h () u k 0 k (Qt _) (QT _) () (λi y=>i2 y ()) λi y hk=>i2 hk ());let#[e,b,a]:=hl;refine UW h0 f (k+1) ((bubble_perm _ _ _).trans h) () λi j y g=>?_;rw[aa () (),aa () (),show k - (k - l)=l by omega];by_cases w:i=l;rw[i0 w];by_cases x:j=l;rw[i0 x];exact o.re _;rw[ii x,i0 ()];exact a _ () ();rw[ii w];by_cases x:j=l;rw[i0 x,ii ()];exact b _ ();rw[ii x];by_cases v:l<i/\i<=k;rw[i0 v,i0 ()];exact u _ _ () ();rw[ii v];by_cases z:l<j/\j<=k;rw[i0 z];exact u _ _ () ();rw[ii z];exact u _ _ y ()
theorem bZ(h0:0<n):MH n lt (λr=>Pm n r/\Up lt r n) (kas_sort n):=by
 refine MH.bnd (λr y=>?_) (T7 o (QAF _) h0);let#[x,z,h]:=y;split;by_cases c:1<=r.1
 ·rw[Nat.max_eq_left c]
  exact UW o h0 _ _ x () h
 rw[Nat.max_eq_right ()];exact UW o h0 _ _ x () (O5 o);rw[show r.1=n by omega]at h;exact#[x,h]
end
open PySem.SeqAt
structure Tot{α:Type}(lt:α->α->Bool):Prop where
 asy:∀a b,lt a b=kf->lt b a=kb
 tr:∀a b c,lt b a=kb->lt c b=kb->lt c a=kb
 eq:∀a b,lt a b=kb->lt b a=kb->a=b
noncomputable def M3{α:Type}[DecidableEq α](lt:α->α->Bool):List α->List α->Bool
 |x::a,y::b=>if x=y then M3 lt a b else lt x y|[],_::_=>kf|_,[]=>kb
section
variable{α:Type}[DecidableEq α]{lt:α->α->Bool}(t:Tot lt)
include t
theorem rh:∀a b:List α,M3 lt a b=kf->M3 lt b a=kb
 |x::a,y::b,h=>by unfold M3 at h ⊢;by_cases e:x=y;subst e;rw[i0 rfl]at h ⊢;exact rh a b h;rw[ii e]at h;rw[ii (qC e)];exact t.asy _ _ h|[],_::_,_=>rfl|[],[],h=>by cases h|_::_,[],h=>by cases h
theorem lu:∀a b:List α,M3 lt a b=kb->M3 lt b a=kb->a=b
 |x::a,y::b,h,k=>by unfold M3 at h k;by_cases e:x=y;subst e;rw[i0 rfl]at h k;rw[lu a b h k];rw[ii e]at h;rw[ii (qC e)]at k;exact i2 (t.eq _ _ h k) e|[],_::_,h,_=>by cases h|[],[],_,_=>rfl|_::_,[],_,h=>by cases h
theorem bu:∀a b c:List α,M3 lt b a=kb->M3 lt c b=kb->M3 lt c a=kb
 |x::a,y::b,z::c,h,k=>by unfold M3 at h k ⊢;by_cases e:y=x;subst e;rw[i0 rfl]at h;by_cases u:z=y;subst u;rw[i0 rfl]at k ⊢;exact bu a b c h k;rw[ii u]at k ⊢;exact k;rw[ii e]at h;by_cases u:z=y;subst u;rw[ii e];exact h;rw[ii u]at k;rw[ii λv:z=x=>e (t.eq _ _ h (by rw[v]at k;exact k))];exact t.tr _ _ _ h k|[],[],[],_,_=>rfl|[],_,_::_,_,_=>rfl|_::_,_,[],h,k=>by
  rename_i b;cases b with|nil=>cases h|cons _ _=>cases k
 |_::_,[],_::_,h,_=>by cases h|[],_::_,[],_,h=>by cases h
theorem du:Tot (M3 lt):=#[rh t,bu t,lu t]
end
def ly(x y:Str):Bool:=decide (x.cps.toList<y.cps.toList)
theorem K6:Tot ly where
 asy a b h:=dF (QAI.mpr (List.le_of_lt (ot h)))
 tr a b c h k:=dF (QAI.mpr (List.le_trans (QAI.mp (oa h)) (QAI.mp (oa k))))
 eq a b h k:=by have:=List.le_antisymm (QAI.mp (oa k)) (QAI.mp (oa h));let#[#[a]]:=a;let#[#[b]]:=b;cases this;rfl
inductive Ky where
 |i (n:Int)|s (x:Str)
 deriving DecidableEq
def Ky.kd:Ky->Nat
 | .i _=>0|.s _=>1
noncomputable def kw:Ky->Ky->Bool
 | .i a,.i b=>decide (a<b)|.s a,.s b=>ly a b|a,b=>decide (a.kd<b.kd)
theorem Rp:Tot kw where
 asy a b h:=by cases a<;>cases b<;>first|exact K6.asy _ _ h|rfl | (cases h;done)|exact dF (by have:=ot h;omega)
 tr a b c h k:=by cases a<;>cases b<;>first | (cases h;done) | (cases c<;>first | (cases k;done)|rfl|exact K6.tr _ _ _ h k|exact dF (by have:=oa h;have:=oa k;omega))
 eq a b h k:=by cases a<;>cases b<;>first | (cases h;done) | (cases k;done)|exact o9 _ (K6.eq _ _ h k)|exact o9 _ (by have:=oa h;have:=oa k;omega)
def Cp:List Ky->List Ky->Bool:=M3 kw
def Om(a b:List Ky):Prop:=Cp b a=kb
theorem M6:Tot Cp:=du Rp
theorem Ge{a b:List (List Ky)}(p:a.Perm b)(z:a.Pairwise Om)(hb:b.Pairwise Om):a=b:=p.eq_of_pairwise (λx y _ _ h k=>M6.eq x y k h) z hb
def G8(h:List (List Ky))(i j:Nat):Bool:=Cp (h.getD i []) (h.getD j [])
theorem F8(x:List (List Ky)):Ord (G8 x):=#[λ_ _ h=>M6.asy _ _ h,λ_ _ _ h k=>M6.tr _ _ _ h k]
def dv(x:List (List Ky)):Prop:=∃k h,k<2/\∀r∈x,r.map Ky.kd=k::h
def Aa(h:vu)(v:kn):Ky->Prop
 | .i n=>∃t,v=.int n t|.s x=>∃t,v=.str x t
def GJ(h:vu)(v:kn)(r:List Ky):Prop:=∃a o n x,v=.ref a/\h.get? a=jr o/\o.cls=.type "tuple"/\o.data=.seq (Q3 x) n/\xb (Aa h) x r
theorem Aa.keep{h h':vu}{v:kn}{k:Ky}(t:Aa h v k):Aa h' v k:=by
 cases k with|_=>exact t
theorem GJ.keep{h h':vu}(y:∀b o,h.get? b=jr o->h'.get? b=jr o){v:kn}{r:List Ky}(t:GJ h v r):GJ h' v r:=by let#[a,o,n,x,e,g,c,d,p]:=t;exact#[a,o,n,x,e,y _ _ g,c,d,L2.Paired.mapP p λ_ _ t=>t.keep]
section
variable{prog:vx}{w:x0}{A:y1}{E:uC}{s:ku}{v u:kn}{k l:Ky}
section
variable{Q:Bool->ku->Prop}{vs:LW}{X:List (List Ky)}
theorem Vt(hv:Aa s.1 v k)(y:Aa s.1 u l)(e:k.kd=l.kd)(z:A.units+1<gp):EqAt A s v u (decide (k=l)):=by
 cases k<;>cases l<;>first|cases e|skip
 let#[t,rfl]:=hv;let#[x,rfl]:=y;rename_i a b;rw[show decide (Ky.i a=Ky.i b)=(a==b) from Qz.mpr (by rw[o2,beq_iff_eq];exact#[λh=>(by cases h;rfl),λh=>h▸rfl])];exact EqAt.int_int a t b x;let#[t,rfl]:=hv;let#[x,rfl]:=y;rename_i a b;rw[show decide (Ky.s a=Ky.s b)=(a==b) from Qz.mpr (by rw[o2,beq_iff_eq];exact#[λh=>(by cases h;rfl),λh=>h▸rfl])];exact EqAt.str_str a t b x
theorem Kt{c:Bool}(hv:Aa s.1 v k)(h:Aa s.1 u l)(e:k.kd=l.kd)(y:A.units<gp)(q:Q (kw k l) s):ko (k4 prog w) A (oneLt' c v u) Q E s:=by
 cases k<;>cases l<;>first|cases e|skip
 let#[t,rfl]:=hv;let#[x,rfl]:=h;cases c;exact kat_one _ _ (QBt q);exact oneLt_int q;let#[t,rfl]:=hv;let#[x,rfl]:=h;cases c;exact kat_one _ _ (PySem.P.lt_str q);exact oneLt_str q
theorem LY{Q:Bool->ku->Prop}(h:A.units+1<gp):∀{vs us:LW}{r r':List Ky}{i:Nat},xb (Aa s.1) vs r->xb (Aa s.1) us r'->r.map Ky.kd=r'.map Ky.kd->Q (Cp r r') s->KatLex prog w A kf kb Q (vs.zip us) i s
 |_,_,_,_,_,.nil,.nil,_,q=>kat_nil q|_,_,_,_,_,.nil,.cons _ _,e,_=>by cases e|_,_,_,_,_,.cons _ _,.nil,e,_=>by cases e|_,_,k::r,l::r',i,.cons hv p,.cons hu p',e,q=>by injection e with e1 e2;refine kat_cons (Vt hv hu e1 h prog w _ _ ?_);have q:Q (if k=l then Cp r r' else kw k l) s:=q;by_cases c:k=l;rw[i0 c]at q;rw[dT c];exact kat_yes (LY h p p' e2 q);rw[ii c]at q;rw[dF c];exact kat_no (Kt hv hu e1 (Nat.lt_of_succ_lt h) q)
theorem Xk{r r':List Ky}(y:A.units+1<gp)(hv:GJ s.1 v r)(z:GJ s.1 u r')(e:r.map Ky.kd=r'.map Ky.kd)(q:Q (Cp r r') s):ko (k4 prog w) A (keyLt' (ax kf) v u) Q E s:=by let#[a,o,n,vs,rfl,g,_,d,p]:=hv;let#[b,m,Y,x,rfl,f,_,j,h]:=z;refine kat_lt g d f j ?_;have W:=Q6 p;have Z:=Q6 h;have i:=o9 qQ e;rw[QD,QD]at i;rw[show decide (vs.toArray.size<x.toArray.size)=kb from dF (by rw[QN,QN];omega)];exact LY y p h e q
theorem U6{Q:th->ku->Prop}(F:xb (GJ s.1) vs X)(b:dv X)(L:2<=vs.9)(q:Q (ax kf) s):ko (k4 prog w) A (Ar vs.toArray) Q E s:=by
 let#[k,b,hk,hs]:=b;have key:∀{vs:LW}{X:List (List Ky)},xb (GJ s.1) vs X->(∀r∈X,r.map Ky.kd=k::b)->∃fs,KatTups s.1 vs fs/\fs.9=vs.9/\∀f∈fs,∃y,y.kd=k/\Aa s.1 f y:=by
  intro vs X h;induction h with
  |nil=>exact λ_=>#[[],.nil,rfl,λ_ z=>(nomatch z)]
  |@cons v r I G h _ Y =>
   intro hs;let#[fs,K,W,Z]:=Y λr C=>hs r (QE _ C);let#[a,o,n,ws,rfl,g,c,d,p]:=h;have e:=hs r QF;cases p with|nil=>cases e|@cons f y _ _ m _=>injection e with e _;refine#[f::fs,.cons g c d (by simp) K,o9 (·+1) W,λx B=>?_];rcases QL.mp B with rfl|z;exact#[y,e,m];exact Z x z
 let#[fs,j,J,i]:=key F hs;by_cases c:k=0;exact kat_kind (T:=.type "int") j () (λv hv=>by let#[y,e,z]:=i v hv;cases y<;>first | (let#[t,rfl]:=z;exact .of_pure rfl)|cases e.trans c) (by decide) q;exact kat_kind (T:=.type "str") j () (λv hv=>by
  let#[y,e,z]:=i v hv;have e:y.kd=1:=()
  cases y<;>first | (let#[t,rfl]:=z;exact .of_pure rfl)|cases e) (by decide) q
theorem VE{α x:Type}{R:α->x->Prop}{d:α}{e:x}:∀{l:List α}{m:List x},xb R l m->∀i,i<l.9->R (l.getD i d) (m.getD i e)
 |_,_,.nil,i,h=>i2 h (QCp _)|_,_,.cons r _,0,_=>r|_,_,.cons _ t,i+1,h=>VE t i (wQ h)
theorem uc{l:k0}{Q:uC}(m:A.units+3<gp)(hl:s.1.IsList l vs.toArray)(b:vs.9<64)(h:xb (GJ s.1) vs X)(x:dv X)
  (k:∀p:Array Nat,Pm vs.9 p->Up (G8 X) p vs.9->Q (.ref (s.1.1.size+1)) { s with heap:=a9 s.1 vs (p.toList.map λi=>vs.getD i j2).toArray }):ko (k4 prog w) A (d3 (.builtin "sorted") [.ref l]) Q E s:=by
 have Z:=Q6 h;have o:=F8 X;refine XY (κ:=ax kf) (R:=λp=>Up (G8 X) p vs.9) hl b (λf e y Q q=>U6 (s:={ s with heap:=e }) (L2.Paired.mapP h λ_ _ t=>GJ.keep y t) x f q) (λf e y=>?_) (λf i j z a=>?_) k;refine MH.wp (lt:=G8 X) (λi j z a Y C n=>?_) (λp h=>#[rfl,h]) (bZ o ());let#[k,x,hk,hs]:=x;have g:∀i,i<vs.9->(X.getD i []).map Ky.kd=k::x:=λi z=>hs _ (by rw[QAQ,Qf ()];exact WL _);exact Xk (s:={ s with heap:=e }) (r:=X.getD i []) (r':=X.getD j []) (show A.units+1+1+1<gp from m) ((VE h i z).keep y) ((VE h j a).keep y) ((g i z).trans (g j a).symm) n;obtain rfl:i=j:=()
 exact o.re _
end
end
section
variable{prog:vx}{w:x0}{A:y1}
theorem Ib{x:List (List Ky)}{p:Array Nat}{n:Nat}(hs:p.size=n)(u:Up (G8 x) p n):(p.toList.map λi=>x.getD i []).Pairwise Om:=by
 refine QAr.mpr (QAk.mpr λi j z y v=>?_);rw[Qp]at z y;have:=u i j () ();have e:∀i (h:i<p.size),gD p i=p.toList[i]:=λi h=>by unfold gD;simp[QBZ,h]
 rw[e i z,e j y]at this;exact this
theorem En(Z:A.handled=kv)(j:k0)(z:Src)(m:z.adr≠j)(y:Array kn)(c:Nat) :
  Draws prog w A j [j,z.adr] (c+y.size) (λi v=>∃k,i=c+k/\y[k]?=jr v) (λi h=>∃k,i=c+k/\vE h j z k/\NB h z y) where
 live:=λ_ _ #[_,_,p,_]=>let#[o,e,_]:=p.obj;#[o,e]
 frame:=λ_ h f #[k,e,p,q] u=>#[k,e,p.keep λo x=>u j (by simp) o x,by
  cases z with|l a=>exact QCj.at q λo x=>u a (by simp[Src.adr]) o x|t a=>let#[o,Y,X]:=q;exact#[o,u a (by simp[Src.adr]) o Y,X]]
 item:=λi s Q E W #[k,e,p,q] n=>by
  have hk:k<y.size:=()
  exact fe p q (x:=y[k]) (by simp[hk]) λf g b=>n _ f s.toks #[k,e,by simp[hk]] #[k+1,(),g,pk q b m] b
 done:=λs Q E #[k,e,p,q] r=>by
  have hk:k=y.size:=()
  exact k8 Z p q (by simp[hk]) r
theorem jo(r:A.handled=kv)(j:k0)(z:Src)(y:Array kn)(n k:Nat)(v:y[k]?=kv) :
  Draws prog w A j [j,z.adr] n (λ_ _=>False) (λi h=>i=n/\vE h j z k/\NB h z y) where
 live:=λ_ _ #[_,p,_]=>let#[o,e,_]:=p.obj;#[o,e]
 frame:=λ_ h Y #[e,p,q] u=>#[e,p.keep λo x=>u j (by simp) o x,by
  cases z with|l a=>exact QCj.at q λo x=>u a (by simp[Src.adr]) o x|t a=>let#[o,m,g]:=q;exact#[o,u a (by simp[Src.adr]) o m,g]]
 item:=λi s Q E b #[e,_,_] X=>i2 b ()
 done:=λs Q E #[_,p,q] f=>k8 r p q v f
def jA2(K:QA)(z:Src)(c:Nat):It :=
  #[λi H=>∃h x,c5 K H z h/\h[i]?=jr x,
   λi H v y=>∃p x,H p=kv/\v=.ref p/\y=FA H p (.tup [.int ((c+i:Nat):Int),x])/\∀h,c5 K H z h->h[i]?=jr x,
   λi H=>∃h,c5 K H z h/\h.9<=i]
def nY(e j:k0)(z:Src)(c i:Nat)(h:vu):Prop:=(∃x,IsEnum h e j ((c+i:Nat):Int) x)/\vE h j z i
theorem R0{P:vx}{K:QA}{es:List Expr}{kk:Nat}{pp:Pos}{e j:k0}{z:Src}{c:Nat}(L:e≠j)(n2:z.adr≠e)(n3:z.adr≠j) :
  Turn P w K (.Tuple es kk pp) (jA2 K z c) [e,j] e (nY e j z c) where
 mem:=by simp
 obj:=λi h st b hb=>by let#[#[a,g],n]:=st;simp only[QL,WM,or_false]at hb;rcases hb with rfl|rfl;exact#[_,g,λv q=>by cases(show Data.fields _=Data.cell v from q)];exact n.obj
 keep:=λi h h' st k=>by let#[#[a,g],n]:=st;exact#[#[a,k e (by simp) _ g],n.keep λo x=>k j (by simp) o x]
 item:=by
  intro X O M Q hc i r s σ H E I B st N;subst O M Q;let#[xs,x,C,ex]:=N;let#[f,J,F,_]:=I.src C;let#[u,hu,ru]:=J.get ex;let#[#[a,g],n]:=st;have hi:i<f.toArray.size:=by have:=(Qg.mp hu).1;simpa using this
  refine wpAny_pyNext_enum_itemD (En (show X.A.in1.handled=kv from I.ok.hd hc) j z n3 f.toArray c) g #[i,rfl,n,F] () L (by simp[L,qC n2]) λy h' W #[k,ek,hy] b1 b2 b3 b4 b5=>?_;have ek:k=i:=()
  subst ek;have ey:y=u:=by
   have:f.toArray[k]?=jr u:=by simpa using hu
   rw[this]at hy;exact(Qn hy).symm
  subst ey;refine#[_,rfl,wpAny_letOwnedTupleGo_enum b1 λp c1 G=>?_];let#[k2,Z,b2,b2']:=b2;have Z:k2=k+1:=()
  subst Z;have hp:=I.hok.fresh (QT s.1.1.size);have Y:e<s.1.1.size:=QW g;have m:∀b∈[e,j],b<s.1.1.size:=λb hb=>by simp only[QL,WM,or_false]at hb;rcases hb with rfl|rfl;exact Y;exact n.lt
  have kept:∀b o,b∉[e,j]->s.1.get? b=jr o->p.get? b=jr o:=λb o hb q=>by simp only[QL,WM,or_false,not_or]at hb;exact(G.2 b hb.1).trans (b5 b o hb.1 hb.2 q)
  have l:p.get? s.1.1.size=jr { cls:=.type "tuple",data:=.seq (Q3 [.int ((c+k:Nat):Int) W,y]) }:=(G.2 _ (wy Y)).trans b3;have I1:=I.pair (x:=.int ((c+k:Nat):Int)) (h':=s.1.push { cls:=.type "tuple",data:=.seq (Q3 [.int ((c+k:Nat):Int) W,y]) }) (t':=W+1) (λb o e=>QH _ e) (QT _) (QR _ rfl) #[_,rfl] ru;have I2:=I1.turnedL (h':=p) (t':=W+1) (ch:=[e,j]) (λb o hb e=>by
   rcases QBe e with⟨q1,q2⟩| q;subst q1 q2;exact l;exact kept b o hb q) λb hb=>by
   let#[f0,f1,f2,f3,S,R]:=B b hb;exact#[by rw[uA (Qo (m b hb))];exact f0,f1,f2,f3,S,R]
  refine#[.ref s.1.1.size,_,I2,rfl,#[s.1.1.size,x,hp,rfl,rfl,λxs' g1=>?_],#[#[y,?_],b2.keep λo q=>(G.2 _ (qC L)).trans q],λb hb=>?_];rw[I.src_inj g1 C];exact ex;have:(((c+(k+1):Nat)):Int)=((c+k:Nat):Int)+1:=()
  rw[this];exact c1;rw[uA (Qo (m b hb))];exact(B b hb).1
 done:=by intro X O M Q hc i r s σ H E I B st N;subst O M Q;let#[xs,C,en]:=N;let#[f,J,F,_]:=I.src C;let#[#[a,g],n]:=st;have l1:=J.9;let#[f0,f1,f2,f3,S,R]:=B j (by simp);exact wpAny_pyNext_enum_endD (jo (show X.A.in1.handled=kv from I.ok.hd hc) j z f.toArray 0 i (by simp;omega)) g #[rfl,n,F] λh' eb=>#[rfl,I.turned (t':=s.toks) (λb o hb e=>eb b o hb e) f0 f1 f3 S R]
 self:=λ_ _ _ _ _ st h=>by let#[#[a,g],_]:=st;exact QCR g h
end
theorem T6{prog:vx}{w:x0}{A}{x:Bool}{Q:Bool->ku->Prop}{E}{s:ku}(h:∀b,Q b s):ko (k4 prog w) A (sn x) Q E s:=QK (h x)
theorem K4(z:Src)(xs:Array kn):Meets (Builtin.«enumerate.__new__» #[[.type "enumerate",.ref z.adr],[]]) (λ_ R s=>NB s.1 z xs /\
   R (.ok (.ret (.ref (s.1.push z.it).1.size))) { s with heap:=(s.1.push z.it).push { cls:=.type "enumerate",data:=.fields (Q3 [.none,.bool kb,.ref s.1.1.size,hQ 0,.none,.none]) } }) :=
 .of_wp λy w A R s h=>by let#[e,g,d,v,a]:=s;let#[k,h]:=h;have u:=sub_enumerate;have x:NB (Shared.heap #[e,g,d,v,a]) z xs:=k;wp_walk;refine wpAny_stack_any λst=>T6 λb=>?_;cases b<;>(wp_walk using u6 x;exact#[_,rfl,h])
section
variable{prog:vx}{w:x0}{A:y1}{E:uC}{s:ku}
theorem HZ{h:vu}{z:Src}{n:Int}:IsEnum ((h.push z.it).push { cls:=.type "enumerate",data:=.fields (Q3 [.none,.bool kb,.ref h.1.size,hQ n,.none,.none]) }) (h.1.size+1) h.1.size n .none:=by have:=QR (h.push z.it) (o:={ cls:=.type "enumerate",data:=.fields (Q3 [.none,.bool kb,.ref h.1.size,hQ n,.none,.none]) }) rfl;rw[WH]at this;exact this
theorem jY{z:Src}{xs:Array kn}{Q:uC}(y:NB s.1 z xs)
  (h:∀h',nY (s.1.1.size+1) s.1.1.size z 0 0 h'->(∀c o,s.1.get? c=jr o->h'.get? c=jr o)->Q (.ref (s.1.1.size+1)) { s with heap:=h' }):ko (k4 prog w) A (d3 (.type "enumerate") [.ref z.adr]) Q E s:=by
 refine callType_new PySem.F.called_enumerate (by decide) (PySem.F.typeCall_enumerate_1 _) (PySem.F.newCall_enumerate_1 _) (λobj=>PySem.F.args_object_init_2 obj _) PySem.F.entry_enumerate_new (K4 z xs) #[y,?_];show _/\_;rw[WH];exact#[#[_,HZ,rfl],h _ #[#[.none,HZ],(xc s.1 z).keep λo e=>QH _ e] λc o x=>QH _ (QH _ x)]
end
theorem jBP{a b:Nat}(h:a≠b):((a:k0)≠(b:k0)):=h
theorem B2:nc (.type "list_reverseiterator") "__len__"=sn none:=by rw[mu,QBS];kernel_rfl
theorem n9:nc (.type "list_reverseiterator") "__length_hint__"=sn (jr (.builtin "list_reverseiterator.__length_hint__")):=by rw[mu,QBS];kernel_rfl
section
variable{d:vx}{a:x0}{u:y1}{g:uC}{h:ku}{f:uC}
noncomputable abbrev se:Obj:={ cls:=.type "list",data:=.seq #[] }
theorem vP{j l:k0}{xs:Array kn}(Q:u.handled=kv)(N:l≠j)(J:h.1.IsRevIter j l ((xs.size:Int) - 1))(B:h.1.IsList l xs)(P:xs.size<=kt)
  (k:∀s' r c,(∀b o,b≠j->h.1.get? b=jr o->s'.1.get? b=jr o)->s'.gens=h.gens->s'.drawn=h.drawn->s'.os=h.os ->
   s'.1.get? h.1.1.size=jr { cls:=.type "list",dict:=kv,data:=.seq r c,slots:=#[] }->ItemsOf (λi v=>xs[xs.size - 1 - i]?=jr v) r xs.size->f (.ref h.1.1.size) s') :
  ko (k4 d a) u (d3 (.type "list") [.ref j]) f g h:=by
 have W:=(Walks.listRev (prog:=d) (w:=a) (A:=u.in1.in1) Q j l N xs).toS;have ty:∀{i:Nat}{q:ku},(i<=xs.size/\q.1.IsRevIter j l ((xs.size:Int) - 1 - (i:Int))/\q.1.IsList l xs)->q.TypeIs (.ref j) "list_reverseiterator":=λz=>z.2.1.typeIs;let#[oj,H,_]:=id J;let#[ol,S,_]:=id B;have E:=QW H;have C:=QW S;generalize hn:h.1.1.size=n at E C k;have K:n∉[j,l]:=λz=>by rcases QL.mp z with z|z;exact qT _ (z▸E);exact qT _ (QJ.mp z▸C)
 have O:n≠j:=λz=>K (z▸QF);refine callType_codes (Q₁:=λp q=>p=.ref n/\q={ h with heap:=h.1.push se }) F.called_list (F.typeCall_list_1 _) F.entry_list_init (code_list_new _ #[by rw[hn],rfl]) ?_;rintro p q ⟨rfl,rfl⟩;have Y:(h.1.push se).get? n=jr se:=hn▸QR _ rfl;refine#[#[_,Y,rfl],F.args_list_init_2 _ _,?_];show ko _ u.in1.in1 (do let Z <- QBF (.ref n);QA4 (.ref n) (λ_=>#[]);letGo Z.toList.reverse;WA (.ref n) (.ref j) .none) _ _ _;unfold QBF;refine QC (QC (QAc Y rfl (QK (QC (m:=updateSeq n λ_=>#[]) (wpAny_updateSeq Y rfl (QC (QCm ?_)))))));have e1:=wU (Q8 λ_=>(#[]:Array kn)) Y rfl;have I:∀b o,b≠n->h.1.get? b=jr o->((h.1.push se).update n (Q8 λ_=>(#[]:Array kn))).get? b=jr o:=λb o z e=>(We _ _ (qC z)).trans (QH _ e);have L:0<=xs.size/\h.1.IsRevIter j l ((xs.size:Int) - 1 - ((0:Nat):Int))/\h.1.IsList l xs:=#[Qt _,by simpa using J,B]
 have s:=W.frame 0 h _ h.toks L (QT _) λb hb o e=>I b o (λz=>K (z▸hb)) e;have M:Builtin.List.listSameRef (.ref n) (.ref j)=false:=beq_eq_false_iff_ne.mpr O;unfold WA Builtin.List.listLengthHint;refine QC (QBN (ty s) ?_);rw[ii (by simp only[M];decide)];refine QC (W.self 0 _ _ _ s (QC (qh (QC (QBK (ty s) B2 ?_)))));show ko _ _ (specialOf (.ref j) (QV "__length_hint__") >>= _) _ _ _;refine QC (QBK (ty s) n9 ?_);generalize hx:("list_reverseiterator.__length_hint__":String)=x
 wp_delta
 rw[show splitId x=jr ("list_reverseiterator","__length_hint__") by rw[<- hx];decide +kernel];subst hx;refine QC (Wt (b:=kf) (ty s) (by rw[isSubtype_type];kernel_rfl) (QK ?_));rw[ii (by decide)];refine QK #[QA2 F.plain_extend_loop _,codeAny_extend_loopS W P _ K _ xs.size 0 _ _ _ rfl (Qt _) s e1 (ItemsOf.nil _) ?_];intro s' r c X R it;refine#[rfl,k s' r c (λb o z e=>?_) X.gens X.drawn X.os R it];have G:b<n:=hn▸QW e;exact X.1 b o (λm=>(QL.mp m).elim (λy=>qT _ (y▸G)) λy=>z (QJ.mp y)) (I b o (Qo G) e)
end
def rW(K:QA)(x:V)(H:Hp)(Q:VK):Prop:=∃p h,x=.ref p/\rC K H p h/\∀l,H l=kv->Q (.ref l) (FA H l (.lst h.reverse))
theorem j4{its:LW}{x:Array kn}(h:ItemsOf (λi v=>its.toArray[its.toArray.size - 1 - i]?=jr v) x its.toArray.size):x.toList=its.reverse:=by
 let#[y,z]:=h;have y:x.toList.9=its.length:=y;refine List.ext_getElem (by rw[y,wM]) λi a b=>?_;have:=z i x[i] (QAj a);have e:its[its.9 - 1 - i]?=jr x[i]:=by simpa only[List.getElem?_toArray,QN]using this
 rw[Qf ()]at e;rw[List.getElem_reverse];exact(Qn e).symm
section
variable{X:Cx}{a:Expr}{ta:TE}{v p2 pos y:Pos}
theorem ul(hc:X.calm=kf)(g1:Gl X "list")(g2:Gl X "reversed")(P:X.mg "list"=kv)(O:X.mg "reversed"=kv)(ha:PE X a ta)(st:x2 [a] X.env=(kb,g6 a X.env)::x2 [] X.env) :
  PE X (.Call (.Name "list" v) [.Call (.Name "reversed" p2) [a] [] y] [] pos) λσ H Q=>ta σ H λx E=>rW X.K x E Q:=by
 intro g s σ H Q I h;refine wE (gE I g1 P PyProof.Rows.boot_list ?_);refine qS ?_ rfl rfl;show ko _ _ (lv ((kb,g6 (.Call (.Name "reversed" p2) [a] [] y) X.env)::[])) _ _ s;refine wR ?_;refine wE (gE I g2 O QAR ?_);refine qS ?_ st rfl;rw[st];show ko _ _ (lv ((kb,g6 a X.env)::[])) _ _ s;refine wR (GB (ha g s σ H _ I h) λu f #[x,E,l,J,p,F,e,hq,q]=>WB ?_);subst e;cases J;let#[k,W,L,S]:=l.list hq;have C:=W.9;have hl:=L.isList;refine QCB hl (WB ?_);let#[ol,n,_]:=id hl;have lt:=QW n;have M:p≠f.1.1.size:=Qo lt;have hd:X.A.handled=none:=l.ok.hd hc;have r:(f.1.push (P0 p ((k.toArray.size:Int) - 1))).IsList p k.toArray:=hl.at λo e=>QH _ e;have m:(f.1.push (P0 p ((k.toArray.size:Int) - 1))).IsRevIter f.1.1.size p ((k.toArray.size:Int) - 1 - ((0:Nat):Int)):=#[_,QR _ rfl,rfl,by simp[P0]]
 refine vP hd (by exact M) (by simpa using m) r (by rw[QN];omega) λZ j c' N e1 e2 e3 Y i=>?_;have ea:=j4 i;have R:∀b o,f.1.get? b=jr o->Z.1.get? b=jr o:=λb o e=>N b o (λz=>qT _ (z▸QW e)) (QH _ e);let#[B,gs,dr,G,oo]:=Z;cases e1;cases e2;cases e3;refine#[.ref (f.1.push (P0 p ((k.toArray.size:Int) - 1))).1.size,_,l.laid (t':=G) (h':=B) R (by rw[WH];omega) (show DA X.prog X.w _ B _ (.lst F.reverse) from#[by rw[wM];exact S,j.toList,c',by rw[ea];exact W.reverse,Y]),rfl,q _ (l.hok.fresh (by rw[WH];omega))]
end
noncomputable def jAx(K:QA)(a:k0)(n:Nat):It :=
 #[λi H=>i<n/\∃h x,rC K H a h/\h[n - 1 - i]?=jr x,λi H x y=>y=H/\∀h,rC K H a h->h[n - 1 - i]?=jr x,λi _=>n<=i]
theorem T5{P:vx}{w:x0}{K:QA}{L:Expr}(a it:k0)(n:Nat):Turn P w K L (jAx K a n) [it] it (λi h=>i<=n/\h.IsRevIter it a ((n:Int) - 1 - (i:Int))) where
 mem:=by simp
 obj:=λi h st b hb=>by
  have e:b=it:=by simpa using hb
  subst e;let#[_,o,e,c,d]:=st;exact#[o,e,λv z=>by rw[d]at z;cases z]
 keep:=λi h m st k=>#[st.1,st.2.at λo e=>k it (by simp) o e]
 item:=by intro X r q Y hc i f s F H E I l st j;subst r q Y;let#[hi,xs,x,J,G]:=j;let#[Q,N,p,hz]:=I.list J;let#[u,S,O]:=N.get G;let#[C,B,f2,A,W,Z]:=l it (by simp);have y:=st.2;rw[show(n:Int) - 1 - (i:Int)=((n - 1 - i:Nat):Int) by omega]at y;refine wpAny_pyNext_rev_item y p.isList (x:=u) (by simpa using S) λm g M=>?_;have I1:Inv X f F H { s with heap:=m }:=I.turned (t':=s.toks) (λb o hb e=>(M.2 b hb).trans e) C B A W Z;let#[o,e,c,d]:=id g;rw[show((n - 1 - i:Nat):Int) - 1=(n:Int) - 1 - ((i+1:Nat):Int) by omega]at g;exact#[u,rfl,go_of (s:={ s with heap:=m }) e c d (by decide) #[x,H,I1,O,#[rfl,λys R=>by rw[I.list_inj R J];exact G],#[hi,g],λb hb=>(l b hb).1]]
 done:=by intro X r q Y hc i f s F H E I l st j;subst r q Y;let#[C,B,f2,A,W,Z]:=l it (by simp);have j:n<=i:=j;have y:=st.2;rw[show(n:Int) - 1 - (i:Int)=-1 by have:=st.1;omega]at y;exact wpAny_pyNext_rev_end (I.ok.hd hc) y λm eb=>#[rfl,I.turned (t':=s.toks) (λb o hb e=>eb b o hb e) C B A W Z]
 self:=λ_ _ _ _ _ st h=>QBf st.2 h
inductive Bi where
 |len|any|min|sorted|tuple
 deriving DecidableEq
inductive Mt where
 |append|pop|setd|extend|index|reverse
 deriving DecidableEq
inductive ItK where
 |val|rng1|enum|itm|rev
 deriving DecidableEq
inductive Tg where
 |nm (i:Nat)|tp (is:LN)
 deriving DecidableEq
set_option genSizeOf false in
set_option genInjectivity false in
inductive PX where
 |var (i:Nat)|int (i:Int)|str (x:Str)|bl (b:Bool)|non
 |glo (x:Str)|bty (x:Str) (n:String)
 |bin (op:g7) (a b:PX)
 |cmp (op:fm) (a b:PX)
 |and (a b:PX)|or (a b:PX)|not (a:PX)|ife (c a b:PX)
 |call (f:Str) (as:PX)
 |bi (f:Bi) (as:PX)|isi (a c:PX)
 |mt (m:Mt) (o as:PX)
 |idx (a b:PX)|slc (a lo hi:PX)|nop
 |lst (as:PX)|tup (as:PX)|dnew (b:Bool)|dsp (a b:PX)
 |comp (mask:List Bool) (tgs:LS) (tg:Tg) (ik:ItK) (its cond elt:PX)
 |anil|acons (a as:PX)|ng (i:Int)|lrv (a:PX)
structure Ev where
 sp:Str->Sp
 va:Str->V
structure W3 where
 e:TE
 t:TT
 a:TA
def never:W3:=#[λ_ _ _=>False,λ_ _ _=>False,λ_ _ _=>False]
def MF(K:QA)(x:V)(H:Hp)(Q:Bool->Hp->Prop):Prop:=match x with
 | .bl b=>Q b H|.int i=>Q (i != 0) H|.non=>Q kb H|.str z=>z.9<=kt/\Q ((z.9:Int) != 0) H|x=>∃k,Io K x H k/\Q k H
def Ua(x:V)(H:Hp)(Q:Bool->Hp->Prop):Prop:=match x with
 | .bl b=>Q b H|_=>False
def Pf(K:QA):g7->R2
 | .Add=>Kr K|.Sub=>Iq|.Mult=>ur K|.FloorDiv=>Fg|.Mod=>br|_=>λ_ _ _ _=>False
noncomputable def YZ(neg:Bool):R2:=λx y H Q=>match y with
 | .non=>Q (.bl (if neg then !decide (x=.non) else decide (x=.non))) H|.bl c=>∃b,x=.bl b/\Q (.bl (if neg then !decide (b=c) else decide (b=c))) H|_=>False
def E9(K:QA):fm->R2
 | .Eq=>rEq K kb|.NotEq=>rEq K kf|.Lt=>D1 λi j=>decide (i<j)|.LtE=>D1 λi j=>decide (i<=j)|.Gt=>D1 λi j=>decide (j<i)|.GtE=>D1 λi j=>decide (j<=i)|.In=>YT K kb|.NotIn=>YT K kf|.Is=>YZ kb|.IsNot=>YZ kf
def G1(K:QA):R2:=λx y H Q=>match x,y with
 | .str z,.int i=>z.9<=kt/\∃c,PC z.cps.toList i=jr c/\Q (.str #[(Q3 [c])]) H|.ref a,.int i=>∃h v,(rC K H a h∨CD K H a h)/\PC h i=jr v/\Q v H|.ref a,.str z=>∃v,US K H a (.str z) (jr v)/\Q v H|.ref a,.ref b=>∃v,US K H a (.ref b) (jr v)/\Q v H|_,_=>False
def jBW(K:QA)(H:Hp)(x:V):Ky->Prop
 | .i n=>x=.int n|.s z=>x=.str z
def gv(K:QA)(H:Hp)(x:V)(r:List Ky):Prop:=∃a h,x=.ref a/\CD K H a h/\xb (jBW K H) h r
def OY(K:QA):LV->Hp->VK->Prop:=λf H Q=>∃p,f=[.ref p]/\((∃w:LS,rC K H p (w.map V.str)/\w.9<64/\∀l y,H l=kv->y.Perm w->ak y=kf->Q (.ref l) (FA H l (.lst (y.map V.str)))) ∨
   (∃h,rC K H p h/\h.9<64/\(∀x∈h,∃a,∃w:LS,x=.ref a/\rC K H a (w.map V.str))/\∀l e,H l=kv->e.Perm h->Q (.ref l) (FA H l (.lst e))) ∨
   (∃b:LJ,rC K H p (b.map V.int)/\b.9<64/\∀l (u:LJ),H l=kv->u.Perm b->u.Pairwise (·<=·)->Q (.ref l) (FA H l (.lst (u.map V.int)))) ∨
   (∃(R:V->List Ky->Prop) (h:LV) (k:List (List Ky)),(rC K H p h/\xb R h k/\∀x r,R x r->gv K H x r)/\h.9<64/\dv k/\∀l v z,H l=kv->xb R v z->z.Perm k->z.Pairwise Om->Q (.ref l) (FA H l (.lst v))))
def N6(K:QA):LV->Hp->VK->Prop:=λx H Q=>∃p h,x=[.ref p]/\rC K H p h/\∀l,H l=kv->Q (.ref l) (FA H l (.tup h))
def Ru(K:QA):Bi->LV->Hp->VK->Prop
 | .len=>cr K|.any=>Yr K|.sorted=>OY K|.min=>λh H Q=>∃i j,h=[.int i,.int j]/\Q (.int (if j<i then j else i)) H|.tuple=>N6 K
def Dg:V->LV->Hp->VK->Prop:=λx y H Q=>∃l i h k v,x=.ref l/\y=[.int i]/\H l=jr (.lst h)/\HS h.9 i=jr k/\h[k]?=jr v/\Q v (FA H l (.lst (h.eraseIdx k)))
def Gg:V->LV->Hp->VK->Prop:=λx z H Q=>∃l b y h,x=.ref l/\z=[.ref b]/\H l=jr (.lst y)/\H b=jr (.lst h)/\y.9+h.9<=kt/\Q .non (FA H l (.lst (y++h)))
def O6:V->LV->Hp->VK->Prop:=λx u H Q=>∃z y i h,x=.str z/\u=[.str y]/\qF z y 0 z.9 1=i::h/\Q (.int (i:Int)) H
def Xe(K:QA):Mt->V->LV->Hp->VK->Prop
 | .append=>PY|.pop=>Dg|.setd=>yM K|.reverse=>JT|.index=>O6|.extend=>Gg
noncomputable def Mt.ty:Mt->String
 | .append=>"list"|.pop=>"list"|.setd=>"dict"|.reverse=>"list"|.index=>"str"|.extend=>"list"
def dN(x:V)(H:Hp)(Q:Option Int->Hp->Prop):Prop:=match x with
 | .int i=>Q (jr i) H|_=>False
inductive Item where
 |one (v:V)|tup (vs:LV)
def mC(K:QA):ItK->LV->Hp->(List Item->(Hp->Prop)->Hp->Prop)->Prop
 | .val,[.ref a],H,R=>(∃h,rC K H a h/\R (h.map .one) (λH=>rC K H a h) H)∨(∃h,CD K H a h/\R (h.map .one) (λH=>CD K H a h) H)∨(∃y,∃x:List KE,H a=jr (.dT y x)/\R (x.map λp=>.one (.ref p.2.1)) (λH=>H a=jr (.dT y x)) H)|.rng1,[.int j],H,R=>(-(2 ^ 62)<=j/\j<2 ^ 62)/\R ((Qj j.toNat).map λ(i:Nat)=>.one (.int (i:Int))) (λ_=>True) H|.enum,[.ref a],H,R=>∃z h,Src.adr z=a/\c5 K H z h/\R (h.zipIdx.map λp=>.tup [.int (p.2:Int),p.1]) (λH=>c5 K H z h) H|.rev,[.ref a],H,R=>∃h,rC K H a h/\R (h.reverse.map .one) (λH=>rC K H a h) H|.itm,[.ref a],H,R=>∃y,∃x:List KE,H a=jr (.dT y x)/\R (x.map λp=>.tup [.ref p.2.1,p.2.2]) (λH=>H a=jr (.dT y x)) H|_,_,_,_=>False
noncomputable def bB:LN->LV->St->Option St
 |[],[],σ=>jr σ|i::is,v::vs,σ=>bB is vs (σ.set i (jr v))|_,_,_=>kv
def NE(K:QA):Tg->TG
 | .nm i=>λv x H Q=>Q (x.set i (jr v)) H|.tp z=>λv x H Q=>match v with
  | .ref p=>∃y h,CD K H p y/\bB z y x=jr h/\Q h H|_=>False
def bindI(K:QA)(z:Tg):Item->St->Hp->(St->Hp->Prop)->Prop
 | .one v=>NE K z v|.tup y=>λx H Q=>match z with
  | .tp w=>∀u,Same H u->∃h,bB w y x=jr h/\Q h u|.nm i=>∀p,H p=kv->Q (x.set i (jr (.ref p))) (FA H p (.tup y))
def Vu(K:QA)(xs:List Item)(st:Hp->Prop)(bind:Item->St->Hp->(St->Hp->Prop)->Prop)(tc:TT)(te:TE)(σ:St)(H:Hp)(Q:VK):Prop :=
 ∃W:Nat->LV->Hp->Prop,W 0 [] H/\(∀i h H,i<=xs.9->W i h H->st H) /\
  (∀i x h H,xs[i]?=jr x->W i h H->bind x σ H λz u=>tc z u λb v=>if b=kf then te z v λy w=>h.9<kt/\W (i+1) (h++[y]) w else W (i+1) h v) /\
  ∀h u,W xs.9 h u->h.9<=kt/\∀p,u p=kv->Q (.ref p) (FA u p (.lst h))
structure Yields(J:It)(xs:List Item)(st:Hp->Prop):Prop where
 go:∀i H,st H->i<xs.9->J.go i H
 yld:∀i H x H',st H->i<xs.9->J.yld i H x H'->∃it,xs[i]?=jr it/\match it with
  | .one v=>x=v/\H'=H|.tup vs=>∃p,H p=kv/\x=.ref p/\H'=FA H p (.tup vs)
 stop:∀i H,st H->xs.9<=i->J.stop i H
def Xu(J:It)(g:TG)(tc:TT)(te:TE)(k:St)(l:Hp)(Q:VK):Prop:=∃W:Nat->Nat->LV->St->Hp->Prop,(∃m,W 0 m [] k l) /\
 ∀i m h v u,W i m h v u->(J.stop i u/\h.9<=kt/\∀p,u p=kv->Q (.ref p) (FA u p (.lst h))) ∨
  (J.go i u/\∀x e,J.yld i u x e->g x v e λz j=>tc z j λb a=>if b=kf then te z a λy f=>h.9<kt/\∃w,w < m/\W (i+1) w (h++[y]) z f else ∃w,w < m/\W (i+1) w h z a)
def V0(K:QA)(xs:List Item)(st:Hp->Prop)(x:Tg)(tc:TT)(te:TE)(h:St)(H:Hp)(Q:VK):Prop:=∀J,Yields J xs st->Xu J (NE K x) tc te h H Q
def isNop:PX->Bool
 | .nop=>kf|_=>kb
def wp(K:QA)(Γ:Ev):PX->XK->W3
 | .var i,E=>let e:TE:=λh H Q=>match h[i]? with
   |some (jr v)=>Q v H|_=>False
  #[e,λh H Q=>e h H λx z=>MF K x z Q,never.a]
 | .int i,E=>#[λ_ H Q=>Q (.int i) H,λ_ H Q=>Q (i != 0) H,never.a]|.str x,E=>#[λ_ H Q=>Q (.str x) H,never.t,never.a]|.bl b,E=>#[λ_ H Q=>Q (.bl b) H,λ_ H Q=>Q b H,never.a]|.non,E=>#[λ_ H Q=>Q .non H,λ_ H Q=>Q kb H,never.a]|.glo x,E=>#[λ_ H Q=>Q (Γ.va x) H,λ_ H Q=>MF K (Γ.va x) H Q,never.a]|.bty _ n,E=>#[λ_ H Q=>Q (.ty n) H,never.t,never.a]|.bin op a b,E=>let e:TE:=λh H Q=>(wp K Γ a E).e h H λx z=>(wp K Γ b E).e h z λy w=>Pf K op x y w Q
  #[e,λh H Q=>e h H λx z=>MF K x z Q,never.a]
 | .cmp op a b,E=>let e:TE:=λh H Q=>(wp K Γ a E).e h H λx z=>(wp K Γ b E).e h z λy w=>E9 K op x y w Q
  #[e,λh H Q=>e h H λx z=>Ua x z Q,never.a]
 | .and a b,E=>#[λh H Q=>(wp K Γ a E).e h H λx z=>Ua x z λc w=>if c=kf then(wp K Γ b E).e h w Q else Q (.bl kb) w,
   λh H Q=>(wp K Γ a E).t h H λc z=>if c=kf then(wp K Γ b E).t h z Q else Q kb z,never.a]
 | .or a b,E=>#[λh H Q=>(wp K Γ a E).e h H λx z=>Ua x z λc w=>if c=kf then Q (.bl kf) w else(wp K Γ b E).e h w Q,
   λh H Q=>(wp K Γ a E).t h H λc z=>if c=kf then Q kf z else(wp K Γ b E).t h z Q,never.a]
 | .not a,E=>#[λh H Q=>(wp K Γ a E).e h H λx z=>MF K x z λc w=>Q (.bl (!c)) w,λh H Q=>(wp K Γ a E).t h H λc z=>Q (!c) z,never.a]|.ife c a b,E=>#[λh H Q=>(wp K Γ c E).t h H λk z=>if k=kf then(wp K Γ a E).e h z Q else(wp K Γ b E).e h z Q,never.t,never.a]|.call f as,E=>let e:TE:=λh H Q=>(wp K Γ as E).a h H λj z=>Γ.sp f j z Q E
  #[e,λh H Q=>e h H λx z=>MF K x z Q,never.a]
 | .bi f as,E=>let e:TE:=λh H Q=>(wp K Γ as E).a h H λj z=>Ru K f j z Q
  #[e,λh H Q=>e h H λx z=>MF K x z Q,never.a]
 | .isi a c,E=>let e:TE:=λh H Q=>(wp K Γ a E).e h H λx z=>(wp K Γ c E).e h z λy w=>Bk K [x,y] w Q
  #[e,λh H Q=>e h H λx z=>MF K x z Q,never.a]
 | .mt m o as,E=>let e:TE:=λh H Q=>(wp K Γ o E).e h H λx z=>j5 K m.ty x z/\(wp K Γ as E).a h z λj w=>Xe K m x j w Q
  #[e,λh H Q=>e h H λx z=>MF K x z Q,never.a]
 | .idx a b,E=>let e:TE:=λh H Q=>(wp K Γ a E).e h H λx z=>(wp K Γ b E).e h z λy w=>G1 K x y w Q
  #[e,λh H Q=>e h H λx z=>MF K x z Q,never.a]
 | .slc a lo hi,E=>#[λh H Q=>(wp K Γ a E).e h H λx z =>
   (if isNop lo=kf then λ(R:Option Int->Hp->Prop)=>R kv z else λR=>(wp K Γ lo E).e h z λl w=>dN l w R) λl w =>
   (if isNop hi=kf then λ(R:Option Int->Hp->Prop)=>R kv w else λR=>(wp K Γ hi E).e h w λu q=>dN u q R) λu q=>Px K x l u q Q,never.t,never.a]
 | .nop,E=>never|.lst as,E=>#[λh H Q=>(wp K Γ as E).a h H λg z=>g.9<=kt/\∀p,z p=kv->Q (.ref p) (FA z p (.lst g)),never.t,never.a]|.tup as,E=>#[λh H Q=>(wp K Γ as E).a h H λg z=>g.9<=kt/\∀p,z p=kv->Q (.ref p) (FA z p (.tup g)),never.t,never.a]|.comp mask tgs tg ik its cond elt,E=>#[λh H Q=>(wp K Γ its E).a h H λj z=>mC K ik j z λg st w =>
   V0 K g st tg (if isNop cond=kf then λ_ H Q=>Q kf H else(wp K Γ cond (λ_ _ _=>False)).t) (wp K Γ elt (λ_ _ _=>False)).e (iJ tgs.9 mask h) w Q,never.t,never.a]
 | .dnew b,E=>#[λ_ H Q=>∀p,H p=kv->Q (.ref p) (FA H p (.dT 0 [])),never.t,never.a]|.dsp a b,E=>#[λh H Q=>∀p,H p=kv->(wp K Γ a E).e h (FA H p (.dT 0 [])) λy z=>(wp K Γ b E).e h z λv w=>w p=jr (.dT 0 [])/\∃b r,y=.ref b/\xP K w b r/\∀s,Q (.ref p) (FA w p (.dT s [(r,b,v)])),never.t,never.a]|.ng i,E=>#[λh H Q=>Q (.int (-i)) H,never.t,never.a]|.lrv a,E=>#[λh H Q=>(wp K Γ a E).e h H λx z=>rW K x z Q,never.t,never.a]|.anil,E=>#[never.e,never.t,λ_ H Q=>Q [] H]|.acons a as,E=>#[never.e,never.t,λh H Q=>(wp K Γ a E).e h H λx z=>(wp K Γ as E).a h z λg w=>Q (x::g) w]
structure Glob where
 ev:Ev
 fn:Str->Prop
 val:Str->Prop
 no:Str->Prop
noncomputable def Bi.nm:Bi->Str
 | .len=>"len"|.any=>"any"|.sorted=>"sorted"|.min=>"min"|.tuple=>"tuple"
noncomputable def Mt.nm:Mt->Str
 | .append=>"append"|.pop=>"pop"|.setd=>"setdefault"|.reverse=>"reverse"|.index=>"index"|.extend=>"extend"
def At(G:Glob):ItK->Prop
 | .val=>True|.rng1=>G.no "range"|.enum=>G.no "enumerate"|.rev=>G.no "reversed"|.itm=>True
def AA(G:Glob):PX->Prop
 | .glo x=>G.val x|.bty x n=>G.no x/\gl x=jr (.type n)|.bin _ a b | .cmp _ a b | .and a b | .or a b | .idx a b | .acons a b | .dsp a b=>AA G a/\AA G b
 | .not a | .lst a | .tup a=>AA G a
 | .lrv a=>G.no "list"/\G.no "reversed"/\AA G a|.ife a b c | .slc a b c=>AA G a/\AA G b/\AA G c
 | .call f y=>G.fn f/\AA G y|.bi f y=>G.no f.nm/\AA G y|.isi a c=>G.no "isinstance"/\AA G a/\AA G c|.mt _ o y=>AA G o/\AA G y|.comp _ _ _ v z h u=>At G v/\AA G z/\AA G h/\AA G u|_=>True
structure SC where
 N:LS
 sc:hZ
def dC:Expr->Bool
 | .Starred _ _=>kb|_=>kf
noncomputable def Fj(S:SC)(i:Nat)(x:Str):Bool :=
 S.N[i]?==jr x&&(S.sc.names.lookup x==jr .local||S.sc.names.lookup x==jr .cell||S.sc.names.lookup x==jr .free)&&x != "__debug__" && x != "__classdict__"
noncomputable def Mm(S:SC)(i:Nat)(x:Str):Bool:=S.N[i]?==jr x&&S.sc.names.lookup x==jr .local
noncomputable def UU(S:SC)(x:Str):Bool:=S.sc.names.lookup x==jr .globalImplicit&&x != "__debug__" && x != "__name__"
def SZ(S:SC)(h:hZ)(y:LS)(x:List Bool):SC:=#[y++VB x 0 S.N,MM h S.sc]
def gK:LS->Bool
 |[]=>kf|x::r=>!r.contains x&&gK r
def T9(S:SC)(h:hZ)(z:LS)(x:List Bool):Bool :=
 h.kind==.function&&h.names.all (λy=>y.2 != .cell&&(y.2 != .local||(h.names.lookup y.1==jr .local&&(z.contains y.1||y.1==(".0":Str)))) &&
  (y.2 != .free||S.sc.names.lookup y.1==jr .cell||S.sc.names.lookup y.1==jr .free))&&gK (z++VB x 0 S.N)&&!(z++VB x 0 S.N).contains (".0":Str)
noncomputable def Fp(c:Bool)(S:SC)(i:Nat)(x:Str):Bool:=S.N[i]?==jr x&&(S.sc.names.lookup x==jr .local||(c&&S.sc.names.lookup x==jr .cell))
def Iv(c:Bool)(S:SC):Tg->Expr->Bool
 | .nm i,.Name x _=>Fp c S i x|.tp is,.Tuple es _ _=>is.9==es.9&&(is.zip es).all λp=>match p.2 with
  | .Name x _=>Fp c S p.1 x|_=>kb
 |_,_=>kb
noncomputable def aR:Expr->Bool
 | .Call (.Name _ _) [] [] _=>kb|_=>kf
def AT:Expr->Bool
 | .Set _ _ _=>kb|_=>kf
def eR:Expr->Bool
 | .Slice _ _ _ _=>kb|_=>kf
def nF:PX->Bool
 | .anil=>kf|.acons _ r=>nF r|_=>kb
def SR:Expr->Bool
 | .Tuple _ _ _=>kf|_=>kb
section
variable{α:Type}
section
variable{e:Expr}{l:List α}
noncomputable def zI(e:Expr)(f:Str->Pos->Bool):Bool:=match e with | .Name x p=>f x p|_=>kb
noncomputable def IG(e:Expr)(f:p8->Bool):Bool:=match e with | .Constant c _ _=>f c|_=>kb
noncomputable def yh(e:Expr)(f:Expr->g7->Expr->Pos->Bool):Bool:=match e with | .BinOp l o r p=>f l o r p|_=>kb
noncomputable def Dl(e:Expr)(f:RB->Expr->Bool):Bool:=match e with | .UnaryOp o x _=>f o x|_=>kb
noncomputable def jh(e:Expr)(f:Expr->List fm->List Expr->Bool):Bool:=match e with | .Compare l x h _=>f l x h|_=>kb
noncomputable def XW(e:Expr)(f:BoolOp->List Expr->Pos->Bool):Bool:=match e with | .BoolOp o h p=>f o h p|_=>kb
noncomputable def Sr(e:Expr)(f:Expr->Expr->Expr->Bool):Bool:=match e with | .IfExp t l r _=>f t l r|_=>kb
noncomputable def VW(e:Expr)(f:Expr->List Expr->List lb->Pos->Bool):Bool:=match e with | .Call g x h p=>f g x h p|_=>kb
noncomputable def F7(e:Expr)(f:Expr->Str->Pos->Bool):Bool:=match e with | .Attribute v n p=>f v n p|_=>kb
noncomputable def xZ(e:Expr)(f:Expr->Expr->Pos->Bool):Bool:=match e with | .Subscript v i p=>f v i p|_=>kb
noncomputable def uZ(e:Expr)(f:Option Expr->Option Expr->Option Expr->Bool):Bool:=match e with | .Slice l h s _=>f l h s|_=>kb
noncomputable def nR(e:Expr)(f:List Expr->Pos->Bool):Bool:=match e with | .List h p=>f h p|_=>kb
noncomputable def Sg(e:Expr)(f:List Expr->Nat->Pos->Bool):Bool:=match e with | .Tuple h k p=>f h k p|_=>kb
noncomputable def Fl(e:Expr)(f:Expr->List p0->hZ->Pos->Bool):Bool:=match e with | .ListComp x h sc p=>f x h sc p|_=>kb
noncomputable def KW(e:Expr)(f:List (Option Expr)->List Expr->Bool):Bool:=match e with | .Dict x h _=>f x h|_=>kb
noncomputable def HL(l:List α)(f:α->Bool):Bool:=match l with | [x]=>f x|_=>kb
noncomputable def jAP(l:List α)(f:α->α->Bool):Bool:=match l with | [x,y]=>f x y|_=>kb
noncomputable def Dd(l:List α)(f:α->List α->Bool):Bool:=match l with|x::r=>f x r|_=>kb
noncomputable def Rr(o:Option α)(n:Bool)(f:α->Bool):Bool:=match o with|none=>n|some x=>f x
theorem BE{f:Str->Pos->Bool}(h:zI e f=kf):∃x p,e=.Name x p/\f x p=true:=by
 cases e with|Name x p=>exact#[x,p,rfl,h]|_=>exact(QG h).elim
theorem DE{f:p8->Bool}(h:IG e f=kf):∃c k p,e=.Constant c k p/\f c=true:=by
 cases e with|Constant c k p=>exact#[c,k,p,rfl,h]|_=>exact(QG h).elim
theorem Fd{f:Expr->g7->Expr->Pos->Bool}(h:yh e f=kf):∃l o r p,e=.BinOp l o r p/\f l o r p=true:=by
 cases e with|BinOp l o r p=>exact#[l,o,r,p,rfl,h]|_=>exact(QG h).elim
theorem B7{f:RB->Expr->Bool}(h:Dl e f=kf):∃o x p,e=.UnaryOp o x p/\f o x=true:=by
 cases e with|UnaryOp o x p=>exact#[o,x,p,rfl,h]|_=>exact(QG h).elim
theorem Cd{f:Expr->List fm->List Expr->Bool}(h:jh e f=kf):∃l y x p,e=.Compare l y x p/\f l y x=true:=by
 cases e with|Compare l y x p=>exact#[l,y,x,p,rfl,h]|_=>exact(QG h).elim
theorem DT{f:BoolOp->List Expr->Pos->Bool}(h:XW e f=kf):∃o es p,e=.BoolOp o es p/\f o es p=true:=by
 cases e with|BoolOp o es p=>exact#[o,es,p,rfl,h]|_=>exact(QG h).elim
theorem Hl{f:Expr->Expr->Expr->Bool}(h:Sr e f=kf):∃t l r p,e=.IfExp t l r p/\f t l r=true:=by
 cases e with|IfExp t l r p=>exact#[t,l,r,p,rfl,h]|_=>exact(QG h).elim
theorem CT{f:Expr->List Expr->List lb->Pos->Bool}(h:VW e f=kf):∃g es ks p,e=.Call g es ks p/\f g es ks p=true:=by
 cases e with|Call g es ks p=>exact#[g,es,ks,p,rfl,h]|_=>exact(QG h).elim
theorem D7{f:Expr->Str->Pos->Bool}(h:F7 e f=kf):∃v n p,e=.Attribute v n p/\f v n p=true:=by
 cases e with|Attribute v n p=>exact#[v,n,p,rfl,h]|_=>exact(QG h).elim
theorem mR{f:Expr->Expr->Pos->Bool}(h:xZ e f=kf):∃v i p,e=.Subscript v i p/\f v i p=true:=by
 cases e with|Subscript v i p=>exact#[v,i,p,rfl,h]|_=>exact(QG h).elim
theorem y2{f:Option Expr->Option Expr->Option Expr->Bool}(h:uZ e f=kf):∃l u s p,e=.Slice l u s p/\f l u s=true:=by
 cases e with|Slice l u s p=>exact#[l,u,s,p,rfl,h]|_=>exact(QG h).elim
theorem rN{f:List Expr->Pos->Bool}(h:nR e f=kf):∃es p,e=.List es p/\f es p=true:=by
 cases e with|List es p=>exact#[es,p,rfl,h]|_=>exact(QG h).elim
theorem Kd{f:List Expr->Nat->Pos->Bool}(h:Sg e f=kf):∃es k p,e=.Tuple es k p/\f es k p=true:=by
 cases e with|Tuple es k p=>exact#[es,k,p,rfl,h]|_=>exact(QG h).elim
theorem ZW{f:Expr->List p0->hZ->Pos->Bool}(h:Fl e f=kf):∃x y sc p,e=.ListComp x y sc p/\f x y sc p=true:=by
 cases e with|ListComp x y sc p=>exact#[x,y,sc,p,rfl,h]|_=>exact(QG h).elim
theorem UT{f:List (Option Expr)->List Expr->Bool}(h:KW e f=kf):∃ks vs p,e=.Dict ks vs p/\f ks vs=true:=by
 cases e with|Dict ks vs p=>exact#[ks,vs,p,rfl,h]|_=>exact(QG h).elim
theorem mL{f:α->List α->Bool}(h:Dd l f=kf):∃x r,l=x::r/\f x r=true:=by
 cases l with|nil=>exact(QG h).elim|cons x r=>exact#[x,r,rfl,h]
theorem aB{f:α->Bool}(h:HL l f=kf):∃x,l=[x]/\f x=true:=by
 cases l with
 |nil=>exact(QG h).elim|cons x r =>
  cases r with|nil=>exact#[x,rfl,h]|cons _ _=>exact(QG h).elim
theorem Ir{f:α->α->Bool}(h:jAP l f=kf):∃x y,l=[x,y]/\f x y=true:=by
 cases l with
 |nil=>exact(QG h).elim|cons x r =>
  let#[y,e,h]:=aB (l:=r) (f:=f x) (by
   cases r with|nil=>exact h|cons y r=>cases r<;>exact h)
  exact#[x,y,by rw[e],h]
end
end
section
variable{c:p8}{n:Str}{e:Expr}
noncomputable def Uo(c:p8)(f:Int->Bool):Bool:=match c with | .int i=>f i|_=>kb
noncomputable def Mu(c:p8)(f:Str->Bool):Bool:=match c with | .str i=>f i|_=>kb
noncomputable def Rh(c:p8)(f:Bool->Bool):Bool:=match c with | .bool i=>f i|_=>kb
def Ph(c:p8):Bool:=match c with | .none=>kf|_=>kb
theorem ma{f:Int->Bool}(h:Uo c f=kf):∃i,c=.int i/\f i=true:=by
 cases c with|int i=>exact#[i,rfl,h]|_=>exact(QG h).elim
theorem Xo{f:Str->Bool}(h:Mu c f=kf):∃i,c=.str i/\f i=true:=by
 cases c with|str i=>exact#[i,rfl,h]|_=>exact(QG h).elim
theorem Nf{f:Bool->Bool}(h:Rh c f=kf):∃i,c=.bool i/\f i=true:=by
 cases c with|bool i=>exact#[i,rfl,h]|_=>exact(QG h).elim
theorem Mf(h:Ph c=kf):c=.none:=by
 cases c with|none=>rfl|_=>exact(QG h).elim
theorem zA{a b:Bool}(h:(a&&b)=kf):a=kf/\b=true:=by cases a<;>cases b<;>first|exact#[rfl,rfl]| exact(QG h).elim
def XJ(S:SC)(n:Str)(e:Expr)(f:List Expr->List lb->Pos->Bool):Bool:=VW e λg y h p=>zI g λx _=>n==x&&(UU S x&&f y h p)
theorem jE{S:SC}{f:List Expr->List lb->Pos->Bool}(h:XJ S n e f=kf):∃y es ks p,e=.Call (.Name n y) es ks p/\UU S n=kf/\f es ks p=true:=by let#[g,es,ks,p,rfl,w]:=CT h;let#[x,y,rfl,v]:=BE w;have u:=zA v;have z:=zA u.2;have e:=qY u.1;exact#[y,es,ks,p,by rw[e],by rw[e];exact z.1,z.2]
def Z8(n:Str)(e:Expr)(f:Expr->List Expr->Pos->Pos->Bool):Bool:=VW e λg z y p=>F7 g λv x h=>n==x&&(y.isEmpty&&(h.endLine==p.line&&f v z h p))
theorem nZ{f:Expr->List Expr->Pos->Pos->Bool}(h:Z8 n e f=kf):∃v y es p,e=.Call (.Attribute v n y) es [] p/\(y.endLine==p.line)=kf/\f v es y p=true:=by let#[g,es,i,p,rfl,a]:=CT h;let#[v,x,y,rfl,k]:=D7 a;have w:=zA k;have u:=zA w.2;have z:=zA u.2;have e:=qY w.1;have b:=Qu.mp u.1;exact#[v,y,es,p,by rw[e,b],z.1,z.2]
noncomputable def dh(x:BoolOp)(r:Expr)(h:List Expr)(pos:Pos):Expr:=match h with
 |[]=>r|q::t=>.BoolOp x (r::q::t) pos
def uw(y:Bool)(S:SC)(z:ItK)(c:List Expr->Pos->Bool)(t it:Expr)(pos:Pos):Bool:=match z with
 | .val=>y&&c [it] pos|.rng1=>XJ S "range" it λh x p=>x.isEmpty&&HL h λa=>c [a] p|.enum=>SR t&&XJ S "enumerate" it λh x p=>x.isEmpty&&HL h λa=>c [a] p|.rev=>XJ S "reversed" it λh x p=>x.isEmpty&&HL h λa=>c [a] p|.itm=>SR t&&(y&&Z8 "items" it λv h _ p=>aR v&&(h.isEmpty&&c [v] p))
noncomputable def ay(h:List Expr)(n:Bool)(f:Expr->Bool):Bool:=match h with
 |[]=>n|c::r=>r.isEmpty&&(!n&&f c)
def isItm:ItK->Bool
 | .itm=>kf|_=>kb
def KB:PX->SC->Expr->Bool
 | .var i,S,e=>zI e λx _=>Fj S i x|.int i,_,e=>IG e λc=>Uo c λj=>i==j|.str x,_,e=>IG e λc=>Mu c λy=>x==y|.bl b,_,e=>IG e λc=>Rh c λk=>b==k|.non,_,e=>IG e Ph|.glo x,S,e=>zI e λy _=>x==y&&UU S x|.bty x _,S,e=>zI e λy _=>x==y&&UU S x|.bin op a b,S,e=>yh e λl o r _=>op==o&&(KB a S l&&KB b S r)|.cmp op a b,S,e=>jh e λl Z Y=>HL Z λo=>HL Y λr=>op==o&&(AT r&&(KB a S l&&KB b S r))|.and a b,S,e=>XW e λo z p=>o==.And&&Dd z λl t=>Dd t λr t=>KB a S l&&KB b S (dh .And r t p)|.or a b,S,e=>XW e λo z p=>o==.Or&&Dd z λl t=>Dd t λr t=>KB a S l&&KB b S (dh .Or r t p)|.not a,S,e=>Dl e λo x=>o==.Not&&KB a S x|.ife c a b,S,e=>Sr e λt l r=>KB c S t&&(KB a S l&&KB b S r)|.call f as,S,e=>XJ S f e λz w p=>w.isEmpty&&KB as S (.List z p)|.bi f as,S,e=>XJ S f.nm e λz w p=>w.isEmpty&&Dd z λx t=>KB as S (.List (x::t) p)|.isi a c,S,e=>XJ S "isinstance" e λz w _=>w.isEmpty&&jAP z λl r=>dC l&&(dC r&&(KB a S l&&KB c S r))|.mt m o as,S,e=>Z8 m.nm e λv z _ p=>nF as&&(aR v&&(decide (z.9<20)&&(KB o S v&&KB as S (.List z p))))|.idx a b,S,e=>xZ e λv i _=>eR i&&(KB a S v&&KB b S i)|.slc a lo hi,S,e=>xZ e λv X _=>uZ X λl h s=>s.isNone&&(KB a S v&&(Rr l (isNop lo) (λe=>!isNop lo&&KB lo S e)&&Rr h (isNop hi) λe=>!isNop hi&&KB hi S e))|.nop,_,_=>kb|.lst as,S,e=>nR e λz p=>KB as S (.List z p)|.tup as,S,e=>Sg e λz _ p=>KB as S (.List z p)|.comp mask tgs tg ik its cond elt,S,e=>Fl e λK W u p=>HL W λg=>g.is_async==0&&(!isItm ik&&(T9 S u tgs mask&&(Iv kb (SZ S u tgs mask) tg g.target&&(AT g.iter &&
   (uw (nF its) S ik (λz p=>KB its S (.List z p)) g.target g.iter p&&(ay g.ifs (isNop cond) (λc=>KB cond (SZ S u tgs mask) c)&&KB elt (SZ S u tgs mask) K))))))
 | .dnew _,_,e=>KW e λw q=>w.isEmpty&&q.isEmpty|.dsp a b,S,e=>KW e λw q=>HL w λk=>HL q λv=>Rr k kb (KB a S)&&KB b S v|.ng i,_,e=>Dl e λo x=>o==.USub&&IG x λc=>Uo c λj=>i==j|.lrv a,S,e=>XJ S "list" e λz w _=>w.isEmpty&&HL z λx=>XJ S "reversed" x λz w _=>w.isEmpty&&HL z λy=>dC y&&KB a S y|.anil,_,e=>nR e λz _=>z.isEmpty|.acons a as,S,e=>nR e λz p=>Dd z λx t=>dC x&&(KB a S x&&KB as S (.List t p))
end
variable{Γ:Ev}
theorem Ro(x:V)(H:Hp)(Q:Bool->Hp->Prop):Ua x H Q=∃k,x=.bl k/\Q k H:=by
 apply i3;cases x with|bl b=>exact#[λh=>#[b,rfl,h],λ#[k,e,h]=>by cases e;exact h]|_=>exact#[λh=>Qd h,λ#[k,e,h]=>by cases e]
theorem Y7(x:V)(H:Hp)(Q:Option Int->Hp->Prop):dN x H Q=∃i,x=.int i/\Q (jr i) H:=by
 apply i3;cases x with|int b=>exact#[λh=>#[b,rfl,h],λ#[k,e,h]=>by cases e;exact h]|_=>exact#[λh=>Qd h,λ#[k,e,h]=>by cases e]
theorem YY(K:QA)(x:V)(H:Hp)(Q:Bool->Hp->Prop):MF K x H Q=∃k,Io K x H k/\Q k H:=by
 apply i3;cases x with|bl b=>exact#[λh=>#[b,rfl,h],λ#[k,(e:k=b),h]=>by subst e;exact h]|int i=>exact#[λh=>#[i != 0,rfl,h],λ#[k,(e:k=(i != 0)),h]=>by subst e;exact h]|non=>exact#[λh=>#[kb,rfl,h],λ#[k,(e:k=kb),h]=>by subst e;exact h]|str z=>exact#[λh=>#[_,#[h.1,rfl],h.2],λ#[k,#[u,y],h]=>by subst y;exact#[u,h]]|_=>exact WZ
section
variable{X:Cx}
section
variable{e b:Expr}{es:List Expr}{env:Env}{its:LW}
theorem t7:PE X e never.e:=λ_ _ _ _ _ _ h=>Qd h
theorem RM:PT X e never.t:=λ_ _ _ _ _ _ h=>Qd h
theorem XT:PA X es never.a:=λ_ _ _ _ _ _ _ h=>Qd h
theorem pD{a:Expr}{ta:TE}(i:PE X a ta)(g:∀y,isTrue a X.env y=(do let v <- y;standAt a.pos;RD [v] (truthy v))) :
  PT X a (λσ H Q=>ta σ H λx l=>MF X.K x l Q):=by
 intro z s σ H Q I h;refine isTrue_plain (GB (i z s σ H _ I h) λv k #[x,w,j,f,u]=>?_) (g _);have u:MF X.K x w Q:=u;rw[YY]at u;exact A5 z k σ w x v Q j f u
theorem X7{f:kn->kn->Sem kn}:IE X f (λ_ _ _ _=>False):=λ_ _ _ _ _ _ _ _ _ _ _ _ h=>h.elim
theorem Ul(h:g7):IE X (h8 h) (Pf X.K h):=by
 cases h with|Add=>exact op_add|Sub=>exact op_sub|Mult=>exact Vl|FloorDiv=>exact Yd|Mod=>exact op_mod|_=>exact X7
theorem JU(neg:Bool){h:TB}{s:ku}{σ:St}{H:Hp}{b c:Bool}{Q:VK}(I:Inv X h σ H s)(q:Q (.bl (if neg then !decide (b=c) else decide (b=c))) H):ko (k4 X.prog X.w) X.A (xk (if neg then .IsNot else .Is) (.bool b) (.bool c)) (EP X h σ Q) X.xe s:=by
 have e:xk (if neg then .IsNot else .Is) (.bool b) (.bool c)=sn (.bool (if neg then !decide (b=c) else decide (b=c))):=by cases neg<;>cases b<;>cases c<;>rfl
 rw[e];exact QK #[.bl _,H,I,rfl,q]
theorem U7(g:X.A.units+66<gp)(f:fm):IE X (xk f) (E9 X.K f):=by
 cases f with
 |Eq=>exact op_eq ()|NotEq=>exact op_ne ()|Lt=>exact dR _root_.L2.op_lt|LtE=>exact dR _root_.L2.op_le|Gt=>exact dR _root_.L2.op_gt|GtE=>exact dR _root_.L2.op_ge|In=>exact Mr g|NotIn=>exact V7 g|Is =>
  intro z s a H x y v u Q I k w h;cases y with|non=>exact Xl z s a H x _ v u Q I k w #[rfl,h]|bl c=>let#[b,rfl,q]:=h;cases k;cases w;cases b<;>cases c<;>exact JU kb I q|_=>exact Qd h
 |IsNot =>
  intro z s a H x y v u Q I k w h;cases y with|non=>exact Jd z s a H x _ v u Q I k w #[rfl,h]|bl c=>let#[b,rfl,q]:=h;cases k;cases w;cases b<;>cases c<;>exact JU kf I q|_=>exact Qd h
theorem Jn(Y:X.A.units+66<gp):Ia X (G1 X.K):=by
 intro w k f s n H x y v u Q I r p h hs;have sq:=λh=>on (X:=X) w k f s n H x y v u Q I r p h hs;have dc:=λh=>Oe Y w k f s n H x y v u Q I r p h hs;cases x with
 |str z =>
  cases y with|int i=>let#[Z,c,m,q]:=h;exact sq (.inr (.inr #[z,i,c,rfl,rfl,Z,m,q]))|_=>exact Qd h
 |ref a =>
  cases y with
  |int i=>let#[o,j,l,m,q]:=h;rcases l with l|l;exact sq (.inl #[a,o,i,j,rfl,rfl,l,m,q]);exact sq (.inr (.inl #[a,o,i,j,rfl,rfl,l,m,q]))
  |str z=>let#[j,g,q]:=h;exact dc #[a,j,rfl,g,q]|ref b=>let#[j,g,q]:=h;exact dc #[a,j,rfl,g,q]|_=>exact Qd h
 |_=>exact Qd h
theorem c8{x:fm}(h:AT b=kf):lp x b=false:=by cases b<;>first|rfl|cases h
theorem Nc(h:eR b=kf):Y0 b:=by intro o i;cases b<;>first|rfl|cases h
theorem NA(env:Env)(h:dC e=kf):x2 (e::es) env=(kb,g6 e env)::x2 es env:=by cases e<;>first|rfl|cases h
theorem MW(h:AT e=kf)(x:kn):hB e env x=sn x:=by cases e<;>first|rfl|cases h
theorem u8{o:Expr}{n:Str}(h:aR o=kf):bb o n env (g6 o env)=g6 o env:=by
 cases o<;>(try rfl)
 rename_i f a k p;cases f<;>(try rfl)
 cases a<;>(try rfl)
 cases k<;>first|rfl|cases h
theorem Ke:Ta X "list.pop" Dg:=by intro z s f H x u v g Q I j m h;let#[l,i,u,k,y,rfl,rfl,a,hk,n,q]:=h;let#[o,Y,r,p]:=PR hk;have hl:u.9<=sizeLine:=(show DA X.prog X.w H s.1 l (.lst u) from I.hok l _ a).1;rw[qB]at hl;exact J8 z s f H _ _ v g Q I j m #[l,u,i,k,y,rfl,rfl,a,(),(),o,n,q]
theorem zT{x:LS}(h:lA (x.map V.str) its):tv its x:=by
 induction x generalizing its with
 |nil=>cases h;exact .nil|cons y x z =>
  cases h with|cons h t=>let#[k,rfl]:=h;exact .cons _ _ (z t)
theorem G0{x:LS}(h:tv its x):lA (x.map V.str) its:=by
 induction h with|nil=>exact .nil|cons y t _ z=>exact .cons #[t,rfl] z
theorem N1{out:LW}(g:its.Perm out):∀{xs:LV},lA xs its->∃z,z.Perm xs/\lA z out:=by
 induction g with
 |nil=>intro xs r;cases r;exact#[[],QCC.refl _,.nil]|cons x _ k =>
  intro xs r;cases r with|cons h t=>let#[z,p,v]:=k t;exact#[_::z,p.cons _,.cons h v]
 |swap x y l =>
  intro xs r;cases r with
  |cons h t=>cases t with|cons i t=>exact#[_::_::_,QCC.swap _ _ _,.cons i (.cons h t)]
 |trans _ _ f a=>intro xs r;let#[z,p,v]:=f r;let#[w,q,u]:=a v;exact#[w,q.trans p,u]
theorem G5{xs:LV}{v:kn}(r:lA xs its)(h:v∈its):∃x∈xs,aA x v:=by
 induction r with
 |nil=>exact nomatch h
 |cons r t z=>rcases QL.mp h with e|h;subst e;exact#[_,QF,r];let#[x,u,y]:=z h;exact#[x,QE _ u,y]
theorem x4{vs:LW}{ns:LJ}(h:u0 vs ns):lA (ns.map V.int) vs:=by
 induction h with|nil=>exact .nil|cons n t _ x=>exact .cons #[t,rfl] x
theorem EH{x α y:Type}{R:α->y->Prop}{f:x->α}{g:x->y}:∀{l:List x},(∀i∈l,R (f i) (g i))->xb R (l.map f) (l.map g)
 |[],_=>.nil|i::_,h=>.cons (h i QF) (EH λj z=>h j (QE _ z))
theorem mN{α v h:Type}{R:α->v->Prop}{P:α->h->Prop}{S:h->v->Prop}:∀{l:List α}{m:List v}{n:List h},xb R l m->xb P l n->(∀x y z,R x y->P x z->S z y)->xb S n m
 |_,_,_,.nil,.nil,_=>.nil|_,_,_,.cons a t,.cons b u,k=>.cons (k _ _ _ a b) (mN t u k)
theorem bV(hu:X.A.units+66<gp):OC X (.builtin "sorted") (OY X.K):=by
 intro pins s σ H xs us Q I r h;let#[p,rfl,h]:=h;rcases h with⟨ss,Z,E,q⟩| ⟨xs,Z,E,hx,q⟩| ⟨ns,Z,E,q⟩| ⟨R,xs,rs,⟨Z,pr,hr⟩,E,sh,q⟩
 skip;let#[u,rfl,l]:=iI r;cases l;let#[its,g,Y,hz]:=I.list Z;have hl:=g.9;rw[QD]at hl;refine sorted_strs Y.isList (by simpa using zT g) () λout G S N a3=>?_;let#[e,B]:=QBT s.1 its out;have hlen:=(eQ S).1;have W:=N.length_eq;refine#[.ref (s.1.1.size+1),_,I.laid (t':=s.toks) (λb o z=>QA5 z) (qd _) (show DA X.prog X.w _ _ _ (.lst (G.map V.str)) from#[by rw[QD,qB];omega,out.toList,e,G0 S,by simpa using B]),rfl,q _ G (I.hok.fresh (qd _)) N a3];skip;let#[u,rfl,l]:=iI r;cases l;let#[its,g,Y,hz]:=I.list Z;have hl:=g.9;have j:∀v∈its,∃b dd sl n k,∃F:LS,v=.ref b/\s.1.get? b=jr { cls:=.type "list",dict:=dd,data:=.seq k n,slots:=sl }/\tv k.toList F:=λv hv=>by let#[x,hx',rxv]:=G5 g hv;let#[a,F,rfl,sq]:=hx x hx';cases rxv;let#[f,m,#[o,n,e,c,d,z],_]:=I.list sq;let#[oc,od,odt,osl]:=o;cases c;exact#[a,od,osl,n,f.toArray,F,rfl,by rw[e,show odt=Data.seq f.toArray n from z],by simpa using zT m]
 refine bc Y.isList () (λv hv=>?_) (λh3 kp x hx y hy C hC=>?_) λout W=>?_;let#[b,dd,sl,n,k,F,rfl,e,_]:=j v hv;exact#[b,_,rfl,e,rfl];let#[b,dd,sl,n,k,F,rfl,e,st]:=j x hx;let#[b2,dd2,sl2,n2,P,ts2,rfl,e2,st2]:=j y hy;exact YW (s:={ s with heap:=h3 }) (show X.A.units+1+1<gp by omega) (kp _ _ e) (kp _ _ e2) st st2 (hC _);let#[e,B]:=QBT s.1 its out.toArray;let#[ys,O,vy]:=N1 W.symm g;have hp2:=O.length_eq;refine#[.ref (s.1.1.size+1),_,I.laid (t':=s.toks) (λb o z=>QA5 z) (qd _) (show DA X.prog X.w _ _ _ (.lst ys) from#[by rw[qB];omega,out,e,vy,B]),rfl,q _ ys (I.hok.fresh (qd _)) O];let#[u,rfl,l]:=iI r;cases l;let#[its,g,Y,hz]:=I.list Z;have hl:=g.9;rw[QD]at hl;refine sorted_ints Y.isList (gX g) () λout J S N a3=>?_;let#[e,B]:=QBT s.1 its out;have W:=N.length_eq;refine#[.ref (s.1.1.size+1),_,I.laid (t':=s.toks) (λb o z=>QA5 z) (qd _) (show DA X.prog X.w _ _ _ (.lst (J.map V.int)) from#[by rw[QD,qB];omega,out.toList,e,x4 S,by simpa using B]),rfl,q _ J (I.hok.fresh (qd _)) N a3];let#[u,rfl,l]:=iI r;cases l;let#[its,g,Y,hz]:=I.list Z;have hl:=g.9;have hl2:=Q6 pr;refine uc () Y.isList () (mN pr g λx y v ra b=>?_) sh λp W hu=>?_;let#[a,ys,rfl,sq,O]:=hr x y ra;cases b;let#[f,m,#[o,e,c,n,d],_]:=I.tuple sq;refine#[a,o,n,f,rfl,e,c,d,mN O m λx y v a b=>?_];cases y with|_=>cases a;exact b
 have hs:p.size=its.length:=by have:=W.size_eq;simpa using this
 have L:∀i∈p.toList,i<its.length:=λi M=>by simpa using(Q4.mp W).mem_iff.mp M
 let#[e,B]:=QBT s.1 its (p.toList.map λi=>its.getD i j2).toArray;refine#[.ref (s.1.1.size+1),_,I.laid (t':=s.toks) (λb o z=>QA5 z) (qd _) (show DA X.prog X.w _ _ _ (.lst (p.toList.map λi=>xs.getD i V.non)) from#[by rw[qB,QD,Qp];omega,_,e,EH λi M=>VE g i (by have:=L i M;omega),B]),rfl,q _ _ (p.toList.map λi=>rs.getD i []) (I.hok.fresh (qd _)) (EH λi M=>VE pr i (by have:=L i M;omega)) ?_ (Ib hs hu)];refine((Q4.mp W).map _).trans ?_;show((Qj its.9).map _).Perm rs;rw[<- hl,hl2,RG]
theorem C4:OC X (.type "tuple") (N6 X.K):=by intro x s y H k u Q I r h;let#[p,z,rfl,w,v]:=h;exact kP x s y H _ u Q I r #[p,z,rfl,.inl #[w,v]]
theorem Dm:Ta X "str.index" O6:=by intro k s l H x m v n Q I a g h;let#[z,y,i,w,rfl,rfl,j,q]:=h;let#[t,rfl]:=a;let#[u,rfl,f]:=iI g;let#[o,rfl]:=f;exact PySem.SC.index j #[.int _,H,I.tok _,#[_,rfl],q]
theorem Ve:Ta X "list.extend" Gg:=by intro y s u H x z v k Q I a f h;let#[l,b,z,w,rfl,rfl,h]:=h;exact Y3 y s u H _ _ v k Q I a f #[l,b,z,w,rfl,rfl,h]
theorem Nu(h:X.A.units+66<gp)(hc:X.calm=kf)(f:Bi):(∃id,gl f.nm=jr (.builtin id)/\OC X (.builtin id) (Ru X.K f))∨∃T,gl f.nm=jr (.type T)/\OC X (.type T) (Ru X.K f):=by
 cases f with|len=>exact .inl #[_,PySem.boot_len,xa]|any=>exact .inl #[_,PyProof.Rows.boot_any,ba hc]|min=>exact .inl #[_,PyProof.Rows.boot_min,D4 hc]|sorted=>exact .inl #[_,PyProof.Rows.boot_sorted,bV h]|tuple=>exact .inr #[_,by kernel_rfl,C4]
end
end
end L2.L3
namespace L2.L3
open PySem PySem.Spec PyProof.Rows
section
variable{S:SC}{i:Nat}{x:Str}
structure OkX(X:Cx)(S:SC)(G:Glob)(E:XK):Prop where
 N:X.N=S.N
 sc:X.env.scope=S.sc
 calm:X.calm=kf
 un:X.A.units+66<gp
 fn:∀f,G.fn f->∃(CX:ub) (k:Nat) (a:k0) (fd:gm) (ps:LS),FnOk X.prog X.w X.K X.mg X.base CX k a fd ps (G.ev.sp f)/\Room k X.A/\X.mg f=jr (.ref a)/\wW X.K (.ref a)=kf/\OH X.K fd ps [] /\
  fO CX X E/\∀l H s e s',CX l H s (λ_ _ _=>False) e s'->False
 val:∀x,G.val x->∃u,X.mg x=jr u/\aA (G.ev.va x) u
 no:∀x,G.no x->X.mg x=kv
def BS(X:Cx)(Γ:Ev)(E:XK):PX->List Expr->Prop
 | .acons a as,e::es=>PE X e (wp X.K Γ a E).e/\BS X Γ E as es|_,_=>True
structure Snd(X:Cx)(Γ:Ev)(E:XK)(p:PX)(e:Expr):Prop where
 pe:PE X e (wp X.K Γ p E).e
 pt:PT X e (wp X.K Γ p E).t
 pw:∀op es pos,e=.BoolOp op es pos->PW X e (wp X.K Γ p E).t
 pa:∀es pos,e=.List es pos->PA X es (wp X.K Γ p E).a
 pas:∀es pos,e=.List es pos->BS X Γ E p es
theorem Rb(h:Fj S i x=kf):S.N[i]?=jr x/\uv S.sc x/\(x==("__debug__":Str))=kb/\(x==("__classdict__":Str))=false:=by simp only[Fj,Qa,wn,beq_iff_eq,bne_iff_ne,ne_eq]at h;let#[#[#[v,y],u],z]:=h;refine#[v,?_,by simpa using u,by simpa using z];rcases y with(y|y)|y;exact .inl y;exact .inr (.inl y);exact .inr (.inr y)
theorem De(h:Mm S i x=kf):S.N[i]?=jr x/\S.sc.names.lookup x=jr .local:=by simp only[Mm,Qa,beq_iff_eq]at h;exact h
theorem ED(h:UU S x=kf):S.sc.names.lookup x=jr .globalImplicit/\(x==("__debug__":Str))=kb/\x≠"__name__":=by simp only[UU,Qa,beq_iff_eq,bne_iff_ne,ne_eq]at h;exact#[h.1.1,by simpa using h.1.2,h.2]
theorem GE:∀{l:LS},gK l=kf->l.Nodup
 |[],_=>Q7|x::r,h=>by simp only[gK,Qa,qE]at h;exact Qk.mpr #[by simpa using h.1,GE h.2]
theorem PU{z:hZ}{w:LS}{u:List Bool}(h:T9 S z w u=kf):CompSt S.N S.sc z w u:=by simp only[T9,Qa,qA,beq_iff_eq,qE]at h;let#[#[#[f,k],b],a]:=h;refine#[f,λy v e=>?_,λy v e=>?_,λy v e=>?_,λy v e=>?_,GE b,by simpa using a];have:=(k y v).1.1;rw[e]at this;exact i2 this (by decide);have:=(k y v).1.2;rw[e]at this;simp at this;exact this.1;have:=(k y v).2;rw[e]at this;simp at this;exact this;have:=(k y v).1.2;rw[e]at this;simp at this;exact this.2
theorem OkX.comp{X:Cx}{G:Glob}{E:XK}(ok:OkX X S G E)(y:hZ)(v:LS)(u:List Bool)(s:ku)(H:Hp)(ex:List k0):OkX (SA X y v u s H ex) (SZ S y v u) G (λ_ _ _=>False) where
 N:=by show v++VB u 0 X.N=v++VB u 0 S.N;rw[ok.N]
 sc:=by show MM y X.env.scope=MM y S.sc;rw[ok.sc]
 calm:=ok.calm
 un:=ok.un
 fn:=λf h=>by let#[o,k,a,n,b,m,l,j,g,e,p,w]:=ok.fn f h;exact#[o,k,a,n,b,m,l,j,g,e,λ_ _ _ _ _ _ _ z=>(w _ _ _ _ _ z).elim,w]
 val:=ok.val
 no:=ok.no
end
section
variable{X:Cx}
theorem O8{c:Bool}{S:SC}{i:Nat}{x:Str}(k:X.N=S.N)(y:X.env.scope=S.sc)(u:c=kf->∀x,X.fn x=kf)(h:Fp c S i x=kf):X.N[i]?=jr x/\Pp X.env.scope x/\(X.fn x=kf∨X.env.scope.names.lookup x=jr .local):=by
 simp only[Fp,Qa,wn,beq_iff_eq]at h;rw[k,y];rcases h.2 with z|⟨w,v⟩
 exact#[h.1,.inl z,.inr z];exact#[h.1,.inr v,.inl (u w x)]
theorem sP{c:Bool}{S:SC}(a:c=kf->∀x,X.fn x=kf)(j:X.N=S.N)(k:X.env.scope=S.sc)(nd:X.N.Nodup):∀(w:LN) (es:List Expr),w.9=es.9->((w.zip es).all λp=>match p.2 with | .Name x _=>Fp c S p.1 x|_=>kb)=kf ->
  jAf X es (λvs σ H Q=>∃y,bB w vs σ=jr y/\Q y H)
 |[],[],_,_=>by
  intro z s σ H vs n Q I r h;let#[y,e,q]:=h;cases vs with|nil=>cases r;simp only[bB]at e;cases e;exact assignInOrder_nil #[σ,H,I,q]|cons _ _=>simp[bB]at e
 |[],_::_,h,_=>by cases h|_::_,[],h,_=>by cases h|i::w,e::es,hl,hz=>by
  simp only[QAW,qi,Qa]at hz;let#[l,W]:=hz;cases e with
  |Name x pos =>
   let#[g,f,b]:=O8 j k a l;have Z:=sP a j k nd w es (by simpa using hl) W;intro z s σ H vs n Q I r h;let#[y,e,q]:=h;cases vs with
   |nil=>simp[bB]at e|cons v vs =>
    simp only[bB]at e;cases r with|cons r Y=>show ko _ _ (py (ew (.Name x pos) X.env::(hE es X.env).map (·.2)) _) _ _ _;refine assignInOrder_cons (GB (zZ (pos:=pos) nd g f b z s σ H v _ _ I r (show XZ i v σ H (λu m=>u=σ.set i (jr v)/\m=H) from#[rfl,rfl])) λ_ o #[u,m,B,A,K]=>?_);subst A K;exact Z z o _ _ vs _ Q B Y #[y,e,q]
  |_=>simp at l
theorem nU{c:Bool}:∀(z:LN) (es:List Expr) (S:SC),z.9=es.9->((z.zip es).all λp=>match p.2 with | .Name x _=>Fp c S p.1 x|_=>kb)=kf->(hE es X.env).9=es.9/\(hE es X.env).findIdx? (·.1)=kv
 |[],[],_,_,_=>#[rfl,rfl]|[],_::_,_,h,_=>by cases h|_::_,[],_,h,_=>by cases h|i::z,e::es,S,hl,hz=>by
  simp only[QAW,qi,Qa]at hz;let#[w,v]:=hz;cases e with|Name x y=>have u:=nU z es S (by simpa using hl) v;have k:hE (.Name x y::es) X.env=(kb,ew (.Name x y) X.env)::hE es X.env:=rfl;rw[k];refine#[by rw[QO,QO,u.1],?_];rw[List.findIdx?_cons];simp[u.2]|_=>simp at w
theorem DM:∀{y:LN}{vs:LV}{σ x:St},bB y vs σ=jr x->vs.9=y.9
 |[],[],_,_,_=>rfl|[],_::_,_,_,h=>by simp[bB]at h|_::_,[],_,_,h=>by simp[bB]at h|_::y,_::vs,σ,x,h=>by simp only[bB]at h;rw[QO,QO,DM h]
theorem yZ{c:Bool}{S:SC}{G:Glob}{E:XK}(ok:OkX X S G E)(z:c=kf->∀x,X.fn x=kf)(nd:X.N.Nodup){b:Tg}{e:Expr}(h:Iv c S b e=kf):PG X e (NE X.K b):=by
 cases b with
 |nm i =>
  cases e with|Name x pos=>let#[l,j,g]:=O8 ok.N ok.sc z h;exact zZ nd l j g|_=>cases h
 |tp o =>
  cases e with
  |Tuple m k pos =>
   let#[h0,Z]:=zA h;have f:=qY h0;let#[C,B]:=nU (X:=X) o m S f Z;have w:=Tk (pos:=pos) (k:=k) (n:=m.9) ok.calm (sP z ok.N ok.sc nd o m f Z) C B;intro y s W H v u Q I r Y;refine w y s W H v u Q I r ?_;cases v with|ref p=>let#[A,a,F,e,q]:=Y;exact#[p,A,rfl,F,by rw[DM e,f],a,e,q]|_=>exact Qd Y
  |_=>cases h
end
variable{Γ:Ev}
theorem Bb(K:QA)(a:k0)(xs:LV):Yields (jA0 K a) (xs.map .one) (λH=>rC K H a xs) :=
  { go:=λi H h u=>by
      have z:i<xs.length:=by simpa using u
      exact#[xs,xs[i],h,by simp[z]]
    yld:=λi H x v h _ #[e,y]=>#[.one x,by rw[QX,y xs h];rfl,rfl,e]
    stop:=λi H h u=>#[xs,h,by simpa using u] }
theorem Kj(K:QA)(a:k0)(xs:LV):Yields (jAx K a xs.9) (xs.reverse.map .one) (λH=>rC K H a xs):=by
 have e:∀i,i<xs.9->xs.reverse[i]?=xs[xs.9 - 1 - i]?:=λi y=>List.getElem?_reverse y;have l:(xs.reverse.map Item.one).9=xs.length:=by rw[QD,wM]
 refine#[λi H h y=>?_,λi H x u h y z=>?_,λi H h y=>by rw[l]at y;exact y];rw[l]at y;exact#[y,xs,xs[xs.9 - 1 - i]'(),h,Qf _];rw[l]at y;exact#[.one x,by rw[QX,e i y,z.2 xs h];rfl,rfl,z.1]
theorem Yj(K:QA)(a:k0)(xs:LV):Yields (jAy K a) (xs.map .one) (λH=>CD K H a xs) :=
  { go:=λi H h u=>by
      have z:i<xs.length:=by simpa using u
      exact#[xs,xs[i],h,by simp[z]]
    yld:=λi H x v h _ #[e,y]=>#[.one x,by rw[QX,y xs h];rfl,rfl,e]
    stop:=λi H h u=>#[xs,h,by simpa using u] }
theorem Zj(u:Int)(n:Nat):Yields (jAC u n) ((Qj n).map λ(k:Nat)=>.one (.int (u+(k:Int)))) (λ_=>True) :=
  { go:=λi H h z=>by
      have y:i<n:=by simpa using z
      exact y
    yld:=λi H x w h z #[e,v]=>by
      have y:i<n:=by simpa using z
      exact#[.one x,by rw[QX,wO y,v];rfl,rfl,e]
    stop:=λi H h z=>by
      have y:n<=i:=by simpa using z
      exact y }
theorem Db(K:QA)(z:Src)(c:Nat)(xs:LV):Yields (jA2 K z c) (xs.zipIdx.map λp=>.tup [.int ((c+p.2:Nat):Int),p.1]) (λH=>c5 K H z xs) :=
  { go:=λi H h u=>by
      have y:i<xs.length:=by simpa using u
      exact#[xs,xs[i],h,by simp[y]]
    yld:=λi H x g h u #[p,a,v,e,w,k]=>by
      have y:i<xs.length:=by simpa using u
      have f:=k xs h;refine#[.tup [.int ((c+i:Nat):Int),a],?_,p,v,e,w];have b:xs.zipIdx[i]?=jr (a,i):=by rw[QBg,f];simp
      rw[QX,b];rfl
    stop:=λi H h u=>#[xs,h,by simpa using u] }
theorem J5(ep:Nat)(a:k0)(kvs:List KE):Yields (jAz ep kvs.9 a) (kvs.map λp=>.tup [.ref p.2.1,p.2.2]) (λH=>H a=jr (.dT ep kvs)) :=
  { go:=λi H h y=>by
      have z:i<kvs.length:=by simpa using y
      exact#[kvs,kvs[i],h,rfl,by simp[z]]
    yld:=λi H x w h y #[q,p,u,e,v,k]=>#[.tup [.ref p.2.1,p.2.2],by rw[QX,k kvs h];rfl,q,u,e,v]
    stop:=λi H h y=>#[kvs,h,rfl,by simpa using y] }
theorem Cb(ep:Nat)(a:k0)(kvs:List KE):Yields (jA1 ep kvs.9 a) (kvs.map λp=>.one (.ref p.2.1)) (λH=>H a=jr (.dT ep kvs)) :=
  { go:=λi H h y=>by
      have z:i<kvs.length:=by simpa using y
      exact#[kvs,kvs[i],h,rfl,by simp[z]]
    yld:=λi H x b h y #[u,k]=>by let#[p,w,v]:=k kvs h;exact#[.one (.ref p.2.1),by rw[QX,w];rfl,v,u]
    stop:=λi H h y=>#[kvs,h,rfl,by simpa using y] }
noncomputable def SS(h:St->Hp->(List Item->(Hp->Prop)->Hp->Prop)->Prop):TI:=λx H R=>h x H λy st z=>∀J,Yields J y st->R J z
section
variable{X:Cx}{f:Expr}
section
variable{a:Expr}{ta:TA}{p pos k:Pos}{x:Str}{es:List Expr}{d:Nat}
theorem Oc{l:Expr}{t:TE}(hl:PE X l t):PI X f l (SS λσ H R=>t σ H λv m=>mC X.K .val [v] m R):=by
 intro g s σ H R I h;refine GB (hl g s σ H _ I h) λv y #[x,m,i,F,C]=>?_;have j:∀b∈[y.1.1.size],TJ X g m b:=λb hb=>by
  have e:b=y.1.1.size:=by simpa using hb
  subst e;exact i.fpOk (QT _) (i.hok.fresh (QT _))
 cases x with
 |ref a =>
  cases F;rcases C with⟨Z,A,q⟩| ⟨Z,A,q⟩| ⟨ep,u,e,q⟩
  let#[Y,E,p,G]:=i.list A;refine QAq p.isList ?_;exact#[y.1.1.size,[y.1.1.size],_,_,m,rfl,i.kept (t':=y.toks) λb o e=>QH _ e,N0 a _,#[_,QR _ rfl,rfl,rfl],j,q _ (Bb _ a Z)];let#[Y,E,p,G]:=i.tuple A;refine QCA (show y.1.IsTuple a Y.toArray from p) ?_;exact#[y.1.1.size,[y.1.1.size],_,_,m,rfl,i.kept (t':=y.toks) λb o e=>QH _ e,SV a _,#[_,QR _ rfl,rfl,rfl],j,q _ (Yj _ a Z)];let#[z,J,Z,r,ob,B,O,N,M,L,P]:=(show DA X.prog X.w m y.1 a (.dT ep u) from i.hok a _ e)
  have W:B.size=u.length:=by have:=o9 qQ L;rw[QD,Qp]at this;rw[this,<- Q6 r]
  refine Re J O N.1 M ?_;exact#[y.1.1.size,[y.1.1.size],_,_,m,rfl,i.kept (t':=y.toks) λb o e=>QH _ e,O0 (a:=a) (n:=u.9) (ep:=ep),#[_,QR _ rfl,rfl,by rw[<- W];rfl],j,q _ (Cb ep a u)]
 |_=>exact Qd C
theorem Pc(g:x="range")(i:Gl X x)(hm:X.mg x=kv)(l:PA X [a] ta)(hs:dC a=kf) :
  PI X f (.Call (.Name x p) [a] [] pos) (SS λσ H R=>ta σ H λvs v=>mC X.K .rng1 vs v R):=by
 subst g;intro z s σ H R I h;refine Call_ (gE I i hm boot_range (qS (GB (l pos z s σ H _ I h) λn o #[vs,v,m,b,u]=>?_) (NA _ hs) rfl))
 match vs,u with
 |[.int j],#[#[u,q2],q] =>
  cases b with
  |cons r w =>
   cases w;let#[t,rfl]:=r;refine call_range_1 (L6 m () () u q2 ?_);have e:(j - 0).toNat=j.toNat:=by simp
   rw[e];have y:=Zj 0 j.toNat;refine q _ ?_;simpa using y
theorem Rk(Z:x="reversed")(W:Gl X x)(hm:X.mg x=kv)(A:PA X [a] ta)(hs:dC a=kf) :
  PI X f (.Call (.Name x p) [a] [] pos) (SS λσ H R=>ta σ H λvs w=>mC X.K .rev vs w R):=by
 subst Z;intro z s σ H R I h;refine Call_ (gE I W hm QAR (qS (GB (A pos z s σ H _ I h) λB y #[vs,w,u,m,n]=>?_) (NA _ hs) rfl))
 match vs,n with
 |[.ref l],#[xs,hq,q] =>
  cases m with
  |cons r j =>
   cases j;cases r;let#[v,i,Y,C]:=u.list hq;have hl:=i.9;refine QCB Y.isList ?_;have g:(y.1.push (P0 l ((v.toArray.size:Int) - 1))).IsRevIter y.1.1.size l ((xs.9:Int) - 1 - ((0:Nat):Int)):=#[_,QR _ rfl,rfl,by simp[P0,hl]]
   refine QBf g ?_;refine#[y.1.1.size,[y.1.1.size],_,_,w,rfl,u.kept (t':=y.toks) λb o e=>QH _ e,T5 l _ xs.9,#[Qt _,g],λb hb=>?_,q _ (Kj _ l xs)];have e:b=y.1.1.size:=by simpa using hb
   subst e;exact u.fpOk (QT _) (u.hok.fresh (QT _))
theorem M4:gl ("enumerate":Str)=jr (.type "enumerate"):=by kernel_rfl
theorem L9{y:TB}{σ:St}{e:Hp}{h:ku}{R:It->Hp->Prop}{c:Nat}{z:Src}{xs:LV}{its:Array kn}{h':vu}(v:Inv X y σ e h)(g:NB h.1 z its)(st:nY (h.1.1.size+1) h.1.1.size z c 0 h')(j:∀c o,h.1.get? c=jr o->h'.get? c=jr o)
  (q:∀J,Yields J (xs.zipIdx.map λp=>.tup [.int ((c+p.2:Nat):Int),p.1]) (λH=>c5 X.K H z xs)->R J e):ko (k4 X.prog X.w) X.A (lr (.ref (h.1.1.size+1))) (Rz X y σ (.Tuple es d k) R) X.xe { h with heap:=h' }:=by
 let#[#[i,l],_]:=id st;refine QCR l ?_;have m:=v.kept (h':=h') (t':=h.toks) j;have lt:=g.lt;refine#[_,[h.1.1.size+1,h.1.1.size],_,_,e,rfl,m,R0 (jBP (Nat.succ_ne_self _)) (Qo (Wi lt)) (Qo lt),st,λb hb=>?_,q _ (Db _ z c xs)];have u:h.1.1.size<=b:=by simp only[QL,WM,or_false]at hb;rcases hb with rfl|rfl;exact QBB _ _;exact QT _
 exact v.fpOk u (v.hok.fresh u)
theorem Sc(l:x="enumerate")(m:Gl X x)(hm:X.mg x=kv)(n:PA X [a] ta)(hs:dC a=kf) :
  PI X (.Tuple es d k) (.Call (.Name x p) [a] [] pos) (SS λσ H R=>ta σ H λvs w=>mC X.K .enum vs w R):=by
 subst l;intro u s σ H R I h;refine Call_ (gE I m hm M4 (qS (GB (n pos u s σ H _ I h) λo Y #[vs,w,v,e,g]=>?_) (NA _ hs) rfl))
 match vs,g with
 |[.ref l1],#[z,xs,e1,h1,q] =>
  subst e1;cases e with|cons r b=>cases b;cases r;let#[j,_,y,_]:=v.src h1;refine jY y λZ st i=>L9 (xs:=xs) v y st i ?_;simpa using q
theorem Pe{K:QA}{u:V}{H:Hp}{R:List Item->(Hp->Prop)->Hp->Prop}(h:mC K .itm [u] H R):∃a ep kvs,u=.ref a/\H a=jr (.dT ep kvs)/\R (kvs.map λp=>.tup [.ref p.2.1,p.2.2]) (λH=>H a=jr (.dT ep kvs)) H:=by
 cases u with|ref a=>let#[ep,kvs,e,q]:=h;exact#[a,ep,kvs,rfl,e,q]|_=>exact Qd h
theorem Sk{o:Expr}{to:TE}{apos cpos:Pos}(G:PE X o to)(i:bb o "items" X.env (g6 o X.env)=g6 o X.env)(g:(apos.endLine==cpos.line)=kf) :
  mw X (.Tuple es d k) (.Call (.Attribute o "items" apos) [] [] cpos) (SS λσ H R=>to σ H λv l=>mC X.K .itm [v] l R):=by
 intro u s σ H R I h;refine QA1 i g (GB (G u s σ H _ I h) λv j #[x,l,B,C,E]=>?_);let#[a,ep,y,rfl,e,q]:=Pe E;cases C;let#[z,J,O,r,ob,W,m,Z,M,L,P]:=(show DA X.prog X.w l j.1 a (.dT ep y) from B.hok a _ e)
 refine#["dict",_,QA6,PySem.F.slot_dict_items,PySem.F.type_dict_items,#[ob,m,Z.1],λb N=>?_,Wf rfl (QBq (IX m Z.1 J ?_))];cases N;exact#[ob,m,Z.2.1];have A:Inv X u σ l { j with heap:=j.1.push { cls:=.type "dict_items",data:=.fields (Q3 [.ref a]) } }:=B.kept (t':=j.toks) λb o e=>QH _ e;refine b9 #[_,QR _ rfl,rfl,rfl] (QH _ m) M ?_;have Y:W.size=y.length:=by have:=o9 qQ L;rw[QD,Qp]at this;rw[this,<- Q6 r]
 refine#[_,[_],_,_,l,rfl,A.kept (t':=j.toks) λb o e=>QH _ e,EV (a:=a) (n:=y.9) (ep:=ep),#[.none,.none,?_],λb hb=>?_,q _ (J5 ep a y)];rw[<- Y];exact QR _ rfl;have e:=QJ.mp hb;subst e;exact A.fpOk (QT _) (A.hok.fresh (QT _))
end
end
section
variable{u σ:St}{K:QA}{k:Tg}{H:Hp}{Q:St->Hp->Prop}
def Tg.at:Tg->LN
 | .nm i=>[i]|.tp h=>h
def UV(k:Tg)(u σ:St):Prop:=u.9=σ.9/\∀(j:Nat),j∉k.at->u[j]?=σ[j]?
theorem K1{i:Nat}{v:Option V}(h:u.9=σ.9)(x:∀j,j≠i->u[j]?=σ[j]?):u.set i v=σ.set i v:=by apply qu;intro j;by_cases e:j=i;subst e;by_cases hl:j<σ.9;rw[qX (),qX hl];rw[Q0 (by rw[wL];omega),Q0 (by rw[wL];omega)];rw[qV (qC e),qV (qC e)];exact x j e
theorem LI:∀(x:LN) (vs:LV) (u σ:St),u.9=σ.9->(∀j,j∉x->u[j]?=σ[j]?)->bB x vs u=bB x vs σ
 |[],[],u,σ,hl,h=>by have:u=σ:=qu λj=>h j (by simp);rw[this]|[],_::_,_,_,_,_=>rfl|_::_,[],_,_,_,_=>rfl|i::x,v::vs,u,σ,hl,h=>by simp only[bB];refine LI x vs _ _ (by simp[hl]) λj z=>?_;by_cases e:j=i;subst e;by_cases y:j<σ.9;rw[qX (),qX y];rw[Q0 (by rw[wL];omega),Q0 (by rw[wL];omega)];rw[qV (qC e),qV (qC e)];exact h j (by simp[e,z])
theorem kF:∀(h:LN) (vs:LV) (σ u:St),bB h vs σ=jr u->u.9=σ.9/\∀j,j∉h->u[j]?=σ[j]?
 |[],[],σ,u,e=>by simp only[bB]at e;cases e;exact#[rfl,λ_ _=>rfl]|[],_::_,_,_,e=>by simp[bB]at e|_::_,[],_,_,e=>by simp[bB]at e|i::h,v::vs,σ,u,e=>by simp only[bB]at e;let#[w,y]:=kF h vs _ _ e;refine#[by rw[w,wL],λj x=>?_];rw[y j (λz=>x (QE _ z)),qV (λz=>x (by simp[z]))]
theorem lV{v:V}(a:UV k u σ)(h:NE K k v σ H Q):NE K k v u H λx m=>UV k x σ/\Q x m:=by
 let#[f,g]:=a;cases k with
 |nm i=>have e:u.set i (jr v)=σ.set i (jr v):=K1 f λj y=>g j (by simpa[Tg.at]using y);show UV (.nm i) (u.set i (jr v)) σ/\Q (u.set i (jr v)) H;rw[e];exact#[#[by simp,λj y=>qV (λz=>y (by simp[Tg.at,z]))],h]|tp b =>
  cases v with|ref p=>let#[w,x,l,e,q]:=h;exact#[w,x,l,by rw[LI b w u σ f λj y=>g j y];exact e,#[(kF b w σ x e).1,λj y=>(kF b w σ x e).2 j y],q]|_=>exact Qd h
theorem kY{v:V}{y:St->Hp->Prop}(m:∀σ H,Q σ H->y σ H)(h:NE K k v σ H Q):NE K k v σ H y:=by
 cases k with
 |nm i=>exact m _ _ h|tp a =>
  cases v with|ref p=>let#[z,x,w,e,q]:=h;exact#[z,x,w,e,m _ _ q]|_=>exact Qd h
theorem vO{it:Item}{x:V}{y:Hp}(w:match it with | .one v=>x=v/\y=H | .tup vs=>∃p,H p=kv/\x=.ref p/\y=FA H p (.tup vs))(h:bindI K k it σ H Q):NE K k x σ y Q:=by
 cases it with
 |one v=>let#[rfl,rfl]:=w;exact h|tup vs =>
  let#[p,z,rfl,rfl]:=w;cases k with
  |nm i=>exact h p z|tp a =>
   let#[u,e,q]:=h (FA H p (.tup vs)) λb o e=>by rw[uA (iA e z)];exact e
   exact#[vs,u,CD.of YA,e,q]
theorem S9{xs:List Item}{st:Hp->Prop}{tc:TT}{te:TE}{a:St}{Q:VK}(h:Vu K xs st (bindI K k) tc te a H Q):V0 K xs st k tc te a H Q:=by
 let#[W,Z,o,j,done]:=h;intro J Y;refine#[λi m v u f=>m=xs.9 - i/\i<=xs.9/\UV k u a/\W i v f,#[xs.9,by simp,Qt _,#[rfl,λ_ _=>rfl],Z],?_];rintro i m v u f ⟨rfl,C,F,w⟩;have n:=o i v f C w;by_cases g:i<xs.9;refine .inr #[Y.go i f n g,λx G y=>?_];let#[it,p,B]:=Y.yld i f x G n g y;have b:=lV F (vO B (j i it v f p w));refine kY (λl I q=>?_) b;let#[r,q]:=q;have E:∀(z:LV) (s:Hp),(∃X,X < xs.9 - i/\X=xs.9 - (i+1)/\i+1<=xs.9/\UV k l a/\W (i+1) z s)=W (i+1) z s:=λz s =>
  i3 #[λ#[_,_,_,_,_,w]=>w,λw=>#[_,(),rfl,g,r,w]]
 simp only[E];exact q
 ·have e:i=xs.length:=()
  subst e;let#[A,q]:=done v f w;exact .inl #[Y.stop _ f n (QT _),A,q]
end
end L2.L3
namespace L2.L3
open PySem PySem.Spec PyProof.Rows
variable{Γ:Ev}
section
variable{X:Cx}{E:XK}{p its:PX}{es:List Expr}{e t it:Expr}{pos:Pos}{S:SC}{Q:LV->Hp->Prop}{G:Glob}{d:ItK}
def tR:PX->Bool
 | .acons _ _=>kb|_=>kf
theorem pV(h:tR p=kf):BS X Γ E p es:=by cases p<;>first|trivial|cases h
theorem JS(Q:Bool->Hp->Prop):(λ(x:V) (h:Hp)=>Ua x h Q)=λ(x:V) (h:Hp)=>∃k,x=.bl k/\Q k h:=by funext x h;exact Ro x h Q
theorem Snd.of(pe:PE X e (wp X.K Γ p E).e)(pt:PT X e (wp X.K Γ p E).t)(hb:∀h es pos,e≠.BoolOp h es pos)(y:(wp X.K Γ p E).a=never.a)(x:tR p=true:=by rfl):Snd X Γ E p e :=
 #[pe,pt,λh es pos z=>i2 z (hb h es pos),λes pos z=>by rw[y];exact XT,λ_ _ _=>pV x]
theorem Snd.lit(pe:PE X e (wp X.K Γ p E).e)(x:(wp X.K Γ p E).t=never.t)(hb:∀h es pos,e≠.BoolOp h es pos)(z:(wp X.K Γ p E).a=never.a)(y:tR p=true:=by rfl):Snd X Γ E p e :=
 Snd.of pe (by rw[x];exact RM) hb z y
theorem Snd.args(w:PA X es (wp X.K Γ p E).a)(u:BS X Γ E p es)(v:(wp X.K Γ p E).e=never.e)(y:(wp X.K Γ p E).t=never.t):Snd X Γ E p (.List es pos) :=
 #[by rw[v];exact t7,by rw[y];exact RM,λ_ _ _ z=>(by cases z),λx h z=>by cases z;exact w,λx h z=>by cases z;exact u]
theorem il{x:Str}{v:V}{u:kn}(y:X.env.scope=S.sc)(h:UU S x=kf)(hm:X.mg x=jr u)(r:aA v u):PE X (.Name x pos) (λ_ H Q=>Q v H):=by let#[w,z,k]:=ED h;exact Ac (show X.env.scope.names.lookup x=jr .globalImplicit by rw[y];exact w) hm r z
theorem lD:∀(p:PX) {es:List Expr},KB p S (.List es pos)=kf->es.all dC=true:=by
 intro p;induction p with|anil=>intro es h;have h:es.isEmpty=true:=h;rw[Qu.mp h];rfl|acons a u _ y=>intro es h;have h:Dd es _=true:=h;let#[x,t,rfl,h]:=mL h;have z:=zA h;rw[qi,z.1,y (zA z.2).2];rfl|lst u y=>exact λh=>y h|_=>exact λh=>(QG h).elim
theorem oV{K:QA}{σ:St}{H:Hp}:∀(p:PX),nF p=kf->KB p S (.List [] pos)=kf->((wp K Γ p E).a σ H Q↔Q [] H):=by
 intro p;cases p with|anil=>exact λ_ _=>WZ|acons _ _=>exact λ_ h=>(QG h).elim|_=>exact λh=>(QG h).elim
theorem P4{K:QA}{σ:St}{H:Hp}(p:PX)(h:KB p S (.List [] pos)=kf)(q:(wp K Γ p E).a σ H Q):Q [] H:=by
 cases x:nF p with
 |true=>exact(oV p x h).mp q|false =>
  cases p with|anil=>exact q|acons _ _=>exact(QG h).elim|_=>exact q.elim
theorem nV{a:Expr}(p:PX)(h0:nF p=kf)(h:KB p S (.List [a] pos)=kf):∃x,p=.acons x .anil:=by
 cases p with
 |acons x r =>
  have y:KB r S (.List [] pos)=true:=(zA (zA h).2).2;cases r with|anil=>exact#[x,rfl]|acons _ _=>exact(QG y).elim|_=>exact(QG h0).elim
 |anil=>exact(QG h).elim|_=>exact(QG h0).elim
theorem Rs(h:X.A.units+66<gp)(m:Mt):∃id,nL m.ty/\Slot m.ty m.nm id/\typeOf (.builtin id)=sn (.type "method_descriptor")/\Ta X id (Xe X.K m):=by
 cases m with|append=>exact#[_,wu,PySem.F.slot_list_append,PySem.F.type_list_append,K3]|pop=>exact#[_,wu,PySem.F.slot_list_pop,PySem.F.type_list_pop,Ke]|extend=>exact#[_,wu,PySem.F.slot_list_extend,PySem.F.type_list_extend,Ve]|setd=>exact#[_,QA6,PySem.F.slot_dict_setdefault,PySem.F.type_dict_setdefault,J3 h]|reverse=>exact#[_,wu,PySem.F.slot_list_reverse,PySem.F.type_list_reverse,yX]|index=>exact#[_,PySem.F.plainAttrs_str,PySem.F.slot_str_index,PySem.F.type_str_index,Dm]
theorem SE{env:Env}{pos:Pos}:∀{es:List Expr},es.all dC=kf->(fv pos (x2 es env)).any (·.1)=kb
 |[],_=>rfl|e::es,h=>by rw[qi]at h;let#[y,x]:=zA h;rw[NA env y];show(kb||(fv pos (x2 es env)).any (·.1))=kb;rw[SE x];rfl
theorem rV{env:Env}{pos:Pos}:∀{es:List Expr},es.all dC=kf->(fv pos (x2 es env)).all (λx=>!x.1)=kf
 |[],_=>rfl|e::es,h=>by rw[qi]at h;let#[z,y]:=zA h;rw[NA env z];show(kf&&(fv pos (x2 es env)).all (λx=>!x.1))=kf;rw[rV y];rfl
theorem aW(ok:OkX X S G E)(y:uw (nF its) S d (λes p=>KB its S (.List es p)) t it pos=kf)(j:At G d)(n:isItm d=kb)
  (f:∀es p,KB its S (.List es p)=kf->Snd X G.ev E its (.List es p)):PI X t it (SS λσ H R=>(wp X.K G.ev its E).a σ H λvs o=>mC X.K d vs o R):=by
 have v:∀{x:Str},UU S x=kf->Gl X x:=λ{x} h=>by show X.env.scope.names.lookup x=jr .globalImplicit;rw[ok.sc];exact(ED h).1
 have w:SR t=kf->∃es k p,t=.Tuple es k p:=λh=>by
  cases t with|Tuple es k p=>exact#[es,k,p,rfl]|_=>exact(QG h).elim
 cases d with|val=>have i:=zA y;have g:=(f _ pos i.2).pas _ pos rfl;let#[a,rfl]:=nV its i.1 i.2;exact Oc g.1|rng1=>let#[l,es,m,p,rfl,b,h]:=jE y;have u:=zA h;cases Qu.mp u.1;let#[a,rfl,z]:=aB u.2;exact Pc rfl (v b) (ok.no _ j) ((f _ p z).pa _ p rfl) (by simpa using lD its z)|rev=>let#[l,es,m,p,rfl,b,h]:=jE y;have u:=zA h;cases Qu.mp u.1;let#[a,rfl,z]:=aB u.2;exact Rk rfl (v b) (ok.no _ j) ((f _ p z).pa _ p rfl) (by simpa using lD its z)|enum=>have i:=zA y;let#[es,k,pt,rfl]:=w i.1;let#[l,es,m,p,rfl,b,h]:=jE i.2;have u:=zA h;cases Qu.mp u.1;let#[a,rfl,z]:=aB u.2;exact Sc rfl (v b) (ok.no _ j) ((f _ p z).pa _ p rfl) (by simpa using lD its z)|itm=>cases n
theorem Rc(ok:OkX X S G E)(x:uw (nF its) S d (λes p=>KB its S (.List es p)) t it pos=kf)(g:At G d)
  (u:∀es p,KB its S (.List es p)=kf->Snd X G.ev E its (.List es p)):mw X t it (SS λσ H R=>(wp X.K G.ev its E).a σ H λvs j=>mC X.K d vs j R):=by
 cases b:isItm d with
 |false=>exact(aW ok x g b u).to0|true =>
  cases d with
  |itm =>
   have i:=zA x;have w:=zA i.2;cases t with|Tuple es k pt=>let#[v,l,es,p,rfl,hl,h]:=nZ w.2;have f:=zA h;have z:=zA f.2;cases Qu.mp z.1;have y:=(u _ p z.2).pas _ p rfl;let#[a,rfl]:=nV its w.1 z.2;exact Sk y.1 (u8 f.1) hl|_=>exact(QG i.1).elim
  |_=>cases b
theorem AG{te x:TE}(h:PE X e te)(q:∀σ H Q,x σ H Q->te σ H Q):PE X e x:=λy s σ H Q I z=>h y s σ H Q I (q σ H Q z)
theorem snd:∀(p:PX) {X:Cx}{S:SC}{E:XK}(ok:OkX X S G E) {e:Expr},KB p S e=kf->AA G p->Snd X G.ev E p e:=by
 intro p;induction p with
 |var i =>
  intro X S E ok e h _;let#[x,pos,rfl,h]:=BE h;let#[Y,B,L,O]:=Rb h;have base:=d7 (pos:=pos) (show X.N[i]?=jr x by rw[ok.N];exact Y) (show uv X.env.scope x by rw[ok.sc];exact B) L O;have pe:PE X (.Name x pos) (wp X.K G.ev (.var i) E).e:=AG base λA H Q q=>by
   have q:(match A[i]? with|some (jr v)=>Q v H|_=>False):=q;cases hs:A[i]? with
   |none=>rw[hs]at q;exact q.elim|some o =>
    rw[hs]at q;cases o with|none=>exact q.elim|some v=>exact#[v,hs,q]
  exact Snd.of pe (pD pe λ_=>rfl) (λ_ _ _ z=>by cases z) rfl
 |int i=>intro X S E ok e h _;let#[c,k,pos,rfl,h]:=DE h;let#[j,rfl,h]:=ma h;cases qY h;exact Snd.of eW (pD (ta:=λ_ H Q=>Q (.int i) H) eW λ_=>rfl) (λ_ _ _ z=>by cases z) rfl|str x=>intro X S E ok e h _;let#[c,k,pos,rfl,h]:=DE h;let#[j,rfl,h]:=Xo h;cases qY h;exact Snd.lit yl rfl (λ_ _ _ z=>by cases z) rfl|bl b=>intro X S E ok e h _;let#[c,k,pos,rfl,h]:=DE h;let#[j,rfl,h]:=Nf h;cases qY h;exact Snd.of Rg (pD (ta:=λ_ H Q=>Q (.bl b) H) Rg λ_=>rfl) (λ_ _ _ z=>by cases z) rfl|non=>intro X S E ok e h _;let#[c,k,pos,rfl,h]:=DE h;cases Mf h;exact Snd.of m7 (pD (ta:=λ_ H Q=>Q .non H) m7 λ_=>rfl) (λ_ _ _ z=>by cases z) rfl|glo x=>intro X S E ok e h nd;let#[y,pos,rfl,h]:=BE h;have h:=zA h;cases qY h.1;let#[u,hm,r]:=ok.val x nd;have pe:=il (pos:=pos) ok.sc h.2 hm r;exact Snd.of pe (pD pe λ_=>rfl) (λ_ _ _ z=>by cases z) rfl|bty x n=>intro X S E ok e h nd;let#[y,pos,rfl,h]:=BE h;have h:=zA h;cases qY h.1;let#[g1,g2,g3]:=ED h.2;exact Snd.lit (vd (show X.env.scope.names.lookup x=jr .globalImplicit by rw[ok.sc];exact g1) (ok.no x nd.1) nd.2 rfl g3 g2) rfl (λ_ _ _ z=>by cases z) rfl|bin op a b Z J=>intro X S E ok e h nd;let#[l,o,r,pos,rfl,h]:=Fd h;have Y:=zA h;have B:=zA Y.2;cases qY Y.1;have pe:=Br (pos:=pos) (Ul op) (Z ok B.1 nd.1).pe (J ok B.2 nd.2).pe;exact Snd.of pe (pD pe λ_=>rfl) (λ_ _ _ z=>by cases z) rfl|cmp op a b Z J=>intro X S E ok e h nd;let#[l,os,rs,pos,rfl,h]:=Cd h;let#[o,rfl,h]:=aB h;let#[r,rfl,h]:=aB h;have Y:=zA h;have B:=zA Y.2;have L:=zA B.2;cases qY Y.1;have pa:=(Z ok L.1 nd.1).pe;have pb:=(J ok L.2 nd.2).pe;refine Snd.of (yd (pos:=pos) (U7 ok.un op) pa pb (c8 B.1)) (λM s A H Q I q=>Dc (pos:=pos) (U7 ok.un op) pa pb (c8 B.1) M s A H Q I ?_) (λ_ _ _ z=>by cases z) rfl;show Zq _ _ _ A H (λ(x:V) (W:Hp)=>∃k,x=.bl k/\Q k W);rw[<- JS Q];exact q|and a b Z J =>
  intro X S E ok e h nd;let#[o,es,pos,rfl,h]:=DT h;have Y:=zA h;cases qY Y.1;let#[l,t,rfl,B]:=mL Y.2;let#[r,t,rfl,L]:=mL B;have O:=zA L;have sa:=Z ok O.1 nd.1;have sb:=J ok O.2 nd.2;have eqA:∀(A:St) (Q:VK),(λ(x:V) (W:Hp)=>∃c,x=.bl c/\if c=kf then(wp X.K G.ev b E).e A W Q else Q (.bl kb) W)=λ(x:V) (W:Hp)=>Ua x W λc H2=>if c=kf then(wp X.K G.ev b E).e A H2 Q else Q (.bl kb) H2:=λA Q=>(JS _).symm
  have key:PW X (.BoolOp .And (l::r::t) pos) (wp X.K G.ev (.and a b) E).t/\PE X (.BoolOp .And (l::r::t) pos) (λA H Q=>(wp X.K G.ev a E).e A H λx W=>∃c,x=.bl c/\if c=kf then(wp X.K G.ev b E).e A W Q else Q (.bl kb) W):=by
   cases t with|nil=>exact#[S6 sa.pt (Bc sb.pt),J7 (pos:=pos) sa.pe (l7 sb.pe)]|cons q t=>exact#[S6 sa.pt (sb.pw _ _ _ rfl),J7 (pos:=pos) sa.pe sb.pe]
  refine#[AG key.2 λA H Q q=>?_,key.1.pt,λ_ _ _ _=>key.1,λ_ _ z=>(by cases z),λ_ _ z=>trivial];rw[eqA];exact q
 |or a b Z J =>
  intro X S E ok e h nd;let#[o,es,pos,rfl,h]:=DT h;have Y:=zA h;cases qY Y.1;let#[l,t,rfl,B]:=mL Y.2;let#[r,t,rfl,L]:=mL B;have O:=zA L;have sa:=Z ok O.1 nd.1;have sb:=J ok O.2 nd.2;have eqA:∀(A:St) (Q:VK),(λ(x:V) (W:Hp)=>∃c,x=.bl c/\if c=kf then Q (.bl kf) W else(wp X.K G.ev b E).e A W Q)=λ(x:V) (W:Hp)=>Ua x W λc H2=>if c=kf then Q (.bl kf) H2 else(wp X.K G.ev b E).e A H2 Q:=λA Q=>(JS _).symm
  have key:PW X (.BoolOp .Or (l::r::t) pos) (wp X.K G.ev (.or a b) E).t/\PE X (.BoolOp .Or (l::r::t) pos) (λA H Q=>(wp X.K G.ev a E).e A H λx W=>∃c,x=.bl c/\if c=kf then Q (.bl kf) W else(wp X.K G.ev b E).e A W Q):=by
   cases t with|nil=>exact#[Lg sa.pt (Ck sb.pt),Pg (pos:=pos) sa.pe (l7 sb.pe)]|cons q t=>exact#[Lg sa.pt (sb.pw _ _ _ rfl),Pg (pos:=pos) sa.pe sb.pe]
  refine#[AG key.2 λA H Q q=>?_,key.1.pt,λ_ _ _ _=>key.1,λ_ _ z=>(by cases z),λ_ _ z=>trivial];rw[eqA];exact q
 |not a Z=>intro X S E ok e h nd;let#[o,x,pos,rfl,h]:=B7 h;have Y:=zA h;cases qY Y.1;have sa:=Z ok Y.2 nd;refine Snd.of (λM s A H Q I q=>?_) (Dk sa.pt) (λ_ _ _ z=>by cases z) rfl;refine UnaryOp_ (GB (sa.pe M s A H _ I q) λv s1 #[x,W,I1,r1,q1]=>?_);have q1:MF X.K x W (λc H2=>Q (.bl (!c)) H2):=q1;rw[YY]at q1;refine not_of (GB (A5 M s1 A W x v _ I1 r1 q1) λc s2 #[H2,I2,q2]=>?_);exact#[.bl (!c),H2,I2,rfl,q2]|ife c a b ihc Z J=>intro X S E ok e h nd;let#[t,l,r,pos,rfl,h]:=Hl h;have Y:=zA h;have B:=zA Y.2;exact Snd.lit (e7 (pos:=pos) (ihc ok Y.1 nd.1).pt (Z ok B.1 nd.2.1).pe (J ok B.2 nd.2.2).pe) rfl (λ_ _ _ z=>by cases z) rfl|call f as ih =>
  intro X S E ok e h nd;let#[p,es,ks,pos,rfl,hg,h]:=jE h;have Y:=zA h;cases Qu.mp Y.1;let#[g1,g2,g3]:=ED hg;have hg:Gl X f:=show X.env.scope.names.lookup f=jr .globalImplicit by rw[ok.sc];exact g1
  let#[CX,k,a,fd,ps,F,hr,hm,hk,hb,hx,_]:=ok.fn f nd.1;have pa:=(ih ok Y.2 nd.2).pa es pos rfl;have st:=lD as Y.2;have pe:PE X (.Call (.Name f p) es [] pos) (wp X.K G.ev (.call f as) E).e:=by
   cases es with|nil=>exact AG (i7 (pos:=pos) (p:=p) F hr hg hm hk hb .nil hx g2) λA H Q q=>P4 as Y.2 q|cons e1 P=>have st:=zA st;refine AG (zd (pos:=pos) (p:=p) F hr hg hm hk hb .nil hx pa g2 (NA _ st.1) (SE st.2)) λA H Q q=>?_;show(wp X.K G.ev as E).a A H λvs W=>G.ev.sp f (vs++[]) W Q E;simp only[Qy];exact q
  exact Snd.of pe (pD pe λ_=>rfl) (λ_ _ _ z=>by cases z) rfl
 |idx a b Z J=>intro X S E ok e h nd;let#[v,i,pos,rfl,h]:=mR h;have Y:=zA h;have B:=zA Y.2;have pe:=Cr (pos:=pos) (Jn ok.un) (Z ok B.1 nd.1).pe (J ok B.2 nd.2).pe (Nc Y.1);exact Snd.of pe (pD pe λ_=>rfl) (λ_ _ _ z=>by cases z) rfl|nop=>intro X S E ok e h nd;exact(QG h).elim|lst as ih=>intro X S E ok e h nd;let#[es,pos,rfl,h]:=rN h;have pa:=(ih ok h nd).pa es pos rfl;exact#[xl pa,RM,λ_ _ _ z=>(by cases z),λ_ _ z=>XT,λ_ _ z=>trivial]|tup as ih=>intro X S E ok e h nd;let#[es,k,pos,rfl,h]:=Kd h;exact Snd.lit (Ek ((ih ok h nd).pa es pos rfl)) rfl (λ_ _ _ z=>by cases z) rfl|dnew b=>intro X S E ok e h nd;let#[ks,vs,pos,rfl,h]:=UT h;have Y:=zA h;cases Qu.mp Y.1;cases Qu.mp Y.2;exact Snd.lit Ic rfl (λ_ _ _ z=>by cases z) rfl|dsp a b Z J =>
  intro X S E ok e h nd;let#[ks,vs,pos,rfl,h]:=UT h;let#[k,rfl,h]:=aB h;let#[v,rfl,h]:=aB h;have Y:=zA h;cases k with|none=>exact(QG Y.1).elim|some k=>exact Snd.lit (Ec ok.un (Z ok Y.1 nd.1).pe (J ok Y.2 nd.2).pe) rfl (λ_ _ _ z=>by cases z) rfl
 |ng i=>intro X S E ok e h nd;let#[o,x,pos,rfl,h]:=B7 h;have Y:=zA h;cases qY Y.1;let#[c,k,pos2,rfl,B]:=DE Y.2;let#[j,rfl,B]:=ma B;cases qY B;exact Snd.lit (λM s A H Q I q=>Ur (pos:=pos) (Lj (X:=X)) (ta:=λ_ H Q=>Q (.int i) H) eW M s A H Q I #[i,rfl,q]) rfl (λ_ _ _ z=>by cases z) rfl|lrv a Z=>intro X S E ok e h nd;let#[p,es,ks,pos,rfl,hg,h]:=jE h;have Y:=zA h;cases Qu.mp Y.1;let#[x,rfl,h]:=aB Y.2;let#[p',es,ks,pos',rfl,hg',h]:=jE h;have B:=zA h;cases Qu.mp B.1;let#[y,rfl,h5]:=aB B.2;have L:=zA h5;refine Snd.lit (ul ok.calm (show X.env.scope.names.lookup _=jr .globalImplicit by rw[ok.sc];exact(ED hg).1) (show X.env.scope.names.lookup _=jr .globalImplicit by rw[ok.sc];exact(ED hg').1) (ok.no _ nd.1) (ok.no _ nd.2.1) (Z ok L.2 nd.2.2).pe (NA _ L.1)) rfl (λ_ _ _ z=>by cases z) rfl|anil=>intro X S E ok e h nd;let#[es,pos,rfl,h]:=rN h;cases Qu.mp h;exact Snd.args uR trivial rfl rfl|acons a as Z ih=>intro X S E ok e h nd;let#[es,pos,rfl,h]:=rN h;let#[e1,P,rfl,h]:=mL h;have Y:=zA h;have B:=zA Y.2;have sa:=(Z ok B.1 nd.1).pe;have ss:=ih ok B.2 nd.2;exact Snd.args (vJ sa (ss.pa P pos rfl) (NA _ Y.1)) #[sa,ss.pas P pos rfl] rfl rfl|bi f as ih =>
  intro X S E ok e h nd;let#[p,es,ks,pos,rfl,hg,h]:=jE h;have Y:=zA h;cases Qu.mp Y.1;let#[e1,P,rfl,L]:=mL Y.2;let#[g1,g2,g3]:=ED hg;have hg:Gl X f.nm:=show X.env.scope.names.lookup f.nm=jr .globalImplicit by rw[ok.sc];exact g1
  have pa:=(ih ok L nd.2).pa _ pos rfl;have st:=zA (lD as L);have pe:PE X (.Call (.Name f.nm p) (e1::P) [] pos) (wp X.K G.ev (.bi f as) E).e:=by
   rcases Nu ok.un ok.calm f with⟨id,hb,hc⟩| ⟨T,hb,hc⟩
   exact bN (pos:=pos) (p:=p) hc hg (ok.no _ nd.1) hb pa g3 g2 (NA _ st.1) (SE st.2);exact O1 (pos:=pos) (p:=p) hc hg (ok.no _ nd.1) hb pa g3 g2 (NA _ st.1) (SE st.2)
  exact Snd.of pe (pD pe λ_=>rfl) (λ_ _ _ z=>by cases z) rfl
 |isi a c Z ihc =>
  intro X S E ok e h nd;let#[p,es,ks,pos,rfl,hg,h]:=jE h;have Y:=zA h;cases Qu.mp Y.1;let#[l,r,rfl,B]:=Ir Y.2;have L:=zA B;have O:=zA L.2;have h5:=zA O.2;let#[g1,g2,g3]:=ED hg;have hg:Gl X "isinstance":=show X.env.scope.names.lookup ("isinstance":Str)=jr .globalImplicit by rw[ok.sc];exact g1
  have pe:PE X (.Call (.Name "isinstance" p) [l,r] [] pos) (wp X.K G.ev (.isi a c) E).e :=
   bN (pos:=pos) (p:=p) ua hg (ok.no _ nd.1) (by kernel_rfl) (vJ (Z ok h5.1 nd.2.1).pe (vJ (ihc ok h5.2 nd.2.2).pe uR (NA _ O.1)) (NA _ L.1)) g3 g2 (NA _ L.1) (SE (by rw[qi,O.1];rfl))
  exact Snd.of pe (pD pe λ_=>rfl) (λ_ _ _ z=>by cases z) rfl
 |mt m o as iho ih =>
  intro X S E ok e h nd;let#[v,ap,es,pos,rfl,B,h]:=nZ h;have h0:=zA h;have Y:=zA h0.2;have L:=zA Y.2;have O:=zA L.2;have po:=(iho ok O.1 nd.1).pe;have pa:=(ih ok O.2 nd.2).pa _ pos rfl;have st:=lD as O.2;let#[id,pat,sl,ty,mr]:=Rs (X:=X) ok.un m;have pe:PE X (.Call (.Attribute v m.nm ap) es [] pos) (wp X.K G.ev (.mt m o as) E).e:=by
   cases es with
   |nil =>
    refine AG (Jl (apos:=ap) (cpos:=pos) pat sl ty mr po (u8 Y.1) B) λA H Q q=>?_;have e:(λ(x:V) (W:Hp)=>j5 X.K m.ty x W/\Xe X.K m x [] W Q)=λ(x:V) (W:Hp)=>j5 X.K m.ty x W/\(wp X.K G.ev as E).a A W λvs H2=>Xe X.K m x vs H2 Q:=by funext x W;rw[i3 (oV as h0.1 O.2)]
    show(wp X.K G.ev o E).e A H (λ(x:V) (W:Hp)=>j5 X.K m.ty x W/\Xe X.K m x [] W Q);rw[e];exact q
   |cons e1 P=>have s2:=zA st;refine Dr (apos:=ap) (cpos:=pos) pat sl ty mr po pa (u8 Y.1) ?_ B (NA _ s2.1) (SE s2.2);rw[rV st];have hl':(e1::P).9<20:=ot L.1;show(kf&&kf&&decide ((e1::P).9+0+0<30))=kf;rw[dT (Qs hl' (by decide:20<=30):(e1::P).9+0+0<30)];rfl
  exact Snd.of pe (pD pe λ_=>rfl) (λ_ _ _ z=>by cases z) rfl
 |slc a lo hi Z ihl ihh =>
  intro X S E ok e h nd;let#[v,sl,pos,rfl,h]:=mR h;let#[l,u,st,p2,rfl,h]:=y2 h;have Y:=zA h;have B:=zA Y.2;have L:=zA B.2;have part:∀(q:PX) (w:Option Expr),(∀{e:Expr},KB q S e=kf->PE X e (wp X.K G.ev q E).e)->Rr w (isNop q) (λe=>!isNop q&&KB q S e)=kf ->
    PO X w (λA H R=>(if isNop q=kf then λ(R:Option Int->Hp->Prop)=>R kv H else λR=>(wp X.K G.ev q E).e A H λl H2=>dN l H2 R) R):=by
   intro q w ihq hq;cases w with
   |none=>have e:isNop q=true:=hq;simp only[e,if_true];exact Lc|some e' =>
    have q1:=zA hq;have e:isNop q=false:=(qE _).mp q1.1;simp only[e,Qv,if_false];intro M s A H Q I w;refine Hc (ihq q1.2) M s A H Q I ?_;show(wp X.K G.ev q E).e A H (λ(x:V) (W:Hp)=>∃i,x=.int i/\Q (jr i) W);have e2:(λ(x:V) (W:Hp)=>∃i,x=.int i/\Q (jr i) W)=λ(x:V) (W:Hp)=>dN x W Q:=by funext x W;exact(Y7 x W Q).symm
    rw[e2];exact w
  cases QAl.mp Y.1;exact Snd.lit (f7 (pos:=pos) (p2:=p2) ck (Z ok B.1 nd.1).pe (part lo l (λhc=>(ihl ok hc nd.2.1).pe) L.1) (part hi u (λhc=>(ihh ok hc nd.2.2).pe) L.2)) rfl (λ_ _ _ z=>by cases z) rfl
 |comp mask tgs tg d its cond elt ihi ihc ihe =>
  intro X S E ok e h nd;let#[e,gens,scope,pos,rfl,h]:=ZW h;let#[#[t,it,ifs,asy],rfl,h]:=aB h;have h0:=zA h;have hi:=zA h0.2;have Y:=zA hi.2;have B:=zA Y.2;have L:=zA B.2;have O:=zA L.2;have h5:=zA O.2;have ea:asy=0:=qY h0.1;cases ea;have C:CompSt X.N X.env.scope scope tgs mask:=by rw[ok.N,ok.sc];exact PU Y.1
  let#[n1,n2,n3,n4]:=nd;have pi:PI X t it (SS λA H R=>(wp X.K G.ev its E).a A H λvs W=>mC X.K d vs W R):=aW ok O.1 n1 ((qE _).mp hi.1) λes p q=>ihi ok q n2;refine Snd.lit (jd (pos:=pos) (g:=NE X.K tg) (tc:=if isNop cond=kf then λ_ H Q=>Q kf H else(wp X.K G.ev cond (λ_ _ _=>False)).t) (te:=(wp X.K G.ev elt (λ_ _ _=>False)).e) ok.calm pi C (λs H ex=>?_) (λx=>MW L.1 x)) rfl (λ_ _ _ z=>by cases z) rfl;have okc:=ok.comp scope tgs mask s H ex;refine#[yZ okc (λz=>(QG z).elim) C.nd B.1,?_,(ihe okc h5.2 n4).pe];have hif:=h5.1;cases ifs with|nil=>have e:isNop cond=true:=hif;simp only[e,if_true];exact jZ|cons c r=>have q1:=zA hif;have q2:=zA q1.2;cases Qu.mp q1.1;have e:isNop cond=false:=(qE _).mp q2.1;simp only[e,Qv,if_false];exact IY (ihc okc q2.2 n3).pt
end
end L2.L3
namespace L2.L3
open PySem PySem.Spec PyProof.Rows
section
variable{s:gi}{f:Expr->List gi->List gi->Bool}
set_option genSizeOf false in
set_option genInjectivity false in
inductive PT where
 |nil|seq (s r:PT)
 |set (i:Nat) (e:PX)
 |expr (e:PX)|ret (e:PX)
 |ife (c:PX) (a b:PT)
 |for_ (tg:Tg) (ik:ItK) (its:PX) (body:PT)
 |own (i:Nat) (e:PX)|tset (is:LN) (e:PX)|six (o i e:PX)|sdf (i:Nat) (k:PX)|whl (c:PX) (body:PT)|frz (is:LN) (s:PT)
def mT(K:QA):V->V->V->Hp->(Hp->Prop)->Prop:=λo i v H Q=>match o,i with
 | .ref p,.int k=>∃h j,H p=jr (.lst h)/\HS h.9 k=jr j/\Q (FA H p (.lst (h.set j v)))|.ref p,.str z=>Yp K H p (.str z) v Q|.ref p,.ref b=>Yp K H p (.ref b) v Q|_,_=>False
noncomputable def Sq(i:Nat)(k:PX):PX:=.mt .setd (.var i) %[k,.dnew kf|1]
def lz(J:It)(g:TG)(tb:TS)(D:Ends)(σ:St)(w:Hp):Prop:=∃W:Nat->Nat->St->Hp->Prop,(∃m,W 0 m σ w)/\∀i m σ H,W i m σ H ->
 (J.stop i H/\D.nx σ H)∨(J.go i H/\∃N:St->Hp->Prop,(∀h y,N h y->∃u,u < m/\W (i+1) u h y)/\∀x y,J.yld i H x y->g x σ y λz v=>tb { D with nx:=N,ct:=N,bk:=D.nx } z v)
def xp(K:QA)(xs:List Item)(st:Hp->Prop)(h:Tg)(tb:TS)(D:Ends)(σ:St)(H:Hp):Prop:=∀J,Yields J xs st->lz J (NE K h) tb D σ H
def OS(K:QA)(Γ:Ev)(E:XK):PT->TS
 | .nil=>λD h H=>D.nx h H|.seq s r=>λD h H=>OS K Γ E s { D with nx:=λh H=>OS K Γ E r D h H } h H|.set i e=>λD h H=>(wp K Γ e E).e h H λx y=>D.nx (h.set i (jr x)) y|.own i e=>λD h H=>(wp K Γ e E).e h H λx y=>D.nx (h.set i (jr x)) y|.expr e=>λD h H=>(wp K Γ e E).e h H λ_ y=>D.nx h y|.ret e=>λD h H=>(wp K Γ e E).e h H D.rt|.ife c a b=>λD h H=>(wp K Γ c E).t h H λk y=>if k=kf then OS K Γ E a D h y else OS K Γ E b D h y|.for_ l q u z=>λD h H=>(wp K Γ u E).a h H λj y=>mC K q j y λg st w=>xp K g st l (OS K Γ E z) D h w|.tset p e=>λD h H=>(wp K Γ e E).e h H λx y=>NE K (.tp p) x h y D.nx|.six o i e=>λD h H=>(wp K Γ e E).e h H λv y=>(wp K Γ o E).e h y λm w=>(wp K Γ i E).e h w λn Y=>mT K m n v Y λX=>D.nx h X|.sdf i k=>λD h H=>(wp K Γ (Sq i k) E).e h H λ_ y=>D.nx h y|.whl c z=>E5 (wp K Γ c E).t (OS K Γ E z)|.frz _ s=>OS K Γ E s
def cF(G:Glob):PT->Prop
 | .nil=>True|.seq s r=>cF G s/\cF G r|.set _ e=>AA G e|.own _ e=>AA G e|.tset _ e=>AA G e|.six o i e=>AA G o/\AA G i/\AA G e|.sdf i k=>AA G (Sq i k)|.whl c h=>AA G c/\cF G h|.frz _ s=>cF G s|.expr e=>AA G e|.ret e=>AA G e|.ife c a b=>AA G c/\cF G a/\cF G b|.for_ _ y x h=>At G y/\AA G x/\cF G h
noncomputable def bG:Expr->Bool
 | .ListComp _ _ _ _ | .SetComp _ _ _ _ | .DictComp _ _ _ _ _=>kb
 |_=>kf
noncomputable def iQ(S:SC)(i:Nat)(x:Str):Bool:=S.N[i]?==jr x&&(S.sc.names.lookup x==jr .local||S.sc.names.lookup x==jr .cell)
noncomputable def JZ:PT->Bool
 | .nil=>kb|.seq _ _=>kb|.frz _ s=>JZ s|_=>kf
noncomputable def FT(s:gi)(f:List Expr->Expr->Bool):Bool:=match s with | .Assign h v _=>f h v|_=>kb
noncomputable def Ll(s:gi)(f:Expr->Bool):Bool:=match s with | .Expr v _=>f v|_=>kb
noncomputable def Ag(s:gi)(f:Option Expr->Bool):Bool:=match s with | .Return v _=>f v|_=>kb
noncomputable def Eg(s:gi)(f:Expr->List gi->List gi->Bool):Bool:=match s with | .If t x y _=>f t x y|_=>kb
noncomputable def Ig(s:gi)(f:Expr->Expr->List gi->List gi->Pos->Bool):Bool:=match s with | .For t it x y p=>f t it x y p|_=>kb
noncomputable def Pr(s:gi)(f:Expr->List gi->List gi->Bool):Bool:=match s with | .While t x y _=>f t x y|_=>kb
noncomputable def Ys:Expr->Bool
 | .Tuple _ _ _=>kb|.List _ _=>kb|_=>kf
theorem kM{f:List Expr->Expr->Bool}(h:FT s f=kf):∃ts v p,s=.Assign ts v p/\f ts v=true:=by
 cases s with|Assign ts v p=>exact#[ts,v,p,rfl,h]|_=>exact(QG h).elim
theorem C7{f:Expr->Bool}(h:Ll s f=kf):∃v p,s=.Expr v p/\f v=true:=by
 cases s with|Expr v p=>exact#[v,p,rfl,h]|_=>exact(QG h).elim
theorem Vd{f:Option Expr->Bool}(h:Ag s f=kf):∃v p,s=.Return v p/\f v=true:=by
 cases s with|Return v p=>exact#[v,p,rfl,h]|_=>exact(QG h).elim
theorem Xd(h:Eg s f=kf):∃t x y p,s=.If t x y p/\f t x y=true:=by
 cases s with|If t x y p=>exact#[t,x,y,p,rfl,h]|_=>exact(QG h).elim
theorem Ud{f:Expr->Expr->List gi->List gi->Pos->Bool}(h:Ig s f=kf):∃t it x y p,s=.For t it x y p/\f t it x y p=true:=by
 cases s with|For t it x y p=>exact#[t,it,x,y,p,rfl,h]|_=>exact(QG h).elim
theorem Bl(h:Pr s f=kf):∃t x y p,s=.While t x y p/\f t x y=true:=by
 cases s with|While t x y p=>exact#[t,x,y,p,rfl,h]|_=>exact(QG h).elim
def setB(S:SC)(i:Nat)(c:Expr->Bool)(l:List gi):Bool:=HL l λst=>FT st λh v=>HL h λt=>zI t λx _=>iQ S i x&&((bG v||S.sc.names.lookup x==jr .cell)&&c v)
def mh:PX->Bool
 | .comp _ _ _ _ _ _ _=>kf|_=>kb
def DY(S:SC)(i:Nat)(e:PX)(l:List gi):Bool:=HL l λst=>FT st λy v=>HL y λt=>zI t λx z=>Fl v λw u sc h=>Mm S i x&&(S.sc.kind==.function&&(z.line==h.line&&(!(sc.names.any λ(n,k)=>n==x&&(k==.local||k==.cell))&&(mh e&&KB e S (.ListComp w u sc h)))))
def mS:PT->SC->List gi->Bool
 | .nil,_,l=>l.isEmpty|.seq s r,S,l=>Dd l λst l=>JZ s&&(mS s S [st]&&mS r S l)|.set i e,S,l=>setB S i (KB e S) l||DY S i e l
 | .own i e,S,l=>setB S i (KB e S) l||DY S i e l
 | .frz _ s,S,l=>mS s S l|.expr e,S,l=>HL l λst=>Ll st λv=>bG v&&KB e S v|.ret e,S,l=>HL l λst=>Ag st λv=>Rr v kb (KB e S)|.ife c a b,S,l=>HL l λst=>Eg st λt x y=>KB c S t&&(mS a S x&&mS b S y)|.for_ tg ik its body,S,l=>HL l λst=>Ig st λt it x y z=>y.isEmpty&&(Iv kf S tg t&&(AT it&&(uw (nF its) S ik (λg p=>KB its S (.List g p)) t it z&&mS body S x)))|.tset is e,S,l=>HL l λst=>FT st λh v=>HL h λt=>Ys v&&(bG v&&(SR t&&(Iv kf S (.tp is) t&&KB e S v)))|.six o i e,S,l=>HL l λst=>FT st λh v=>HL h λt=>xZ t λw u _=>eR u&&(bG v&&(KB e S v&&(KB o S w&&KB i S u)))|.sdf i k,S,l=>HL l λst=>Ll st λv=>bG v&&KB (Sq i k) S v|.whl c body,S,l=>HL l λst=>Pr st λt x y=>y.isEmpty&&(KB c S t&&mS body S x)
structure OkS(X:Cx)(S:SC)(G:Glob)(E:XK):Prop extends OkX X S G E where
 po:p6 (k4 X.prog X.w) X.A X.env X.xe
 nd:X.N.Nodup
 cel:∀x,X.fn x=kf
end
section
variable{X:Cx}{S:SC}{G:Glob}{E:XK}
section
variable{i:Nat}{x:Str}{e:PX}
theorem tN{e:Expr}{t:Option Expr}{n:Nat}{env:Env}(h:bG e=kf):b8 e t n env=sn false:=by cases e<;>first|rfl|cases h
theorem e6(n:X.A.units+66<gp):jg X (mT X.K):=by
 intro y s w H o i v l m u Q I f g a h;cases o with
 |ref p =>
  cases i with|int k=>let#[r,j,Z,Y,q]:=h;exact i6 y s w H _ _ v l m u Q I f g a #[p,r,k,j,rfl,rfl,Z,Y,q]|str z=>exact lT n y s w H _ _ v l m u Q I f g a h|ref b=>exact lT n y s w H _ _ v l m u Q I f g a h|_=>exact Qd h
 |_=>exact Qd h
theorem A0(ok:OkX X S G E)(h:iQ S i x=kf):X.N[i]?=jr x/\Pp X.env.scope x:=by simp only[iQ,Qa,wn,beq_iff_eq]at h;rw[ok.N,ok.sc];exact#[h.1,h.2]
theorem M1(ok:OkS X S G E){v:Expr}{u pos:Pos}(g:iQ S i x=kf)(w:(bG v||S.sc.names.lookup x==jr .cell)=kf)(pe:PE X v (wp X.K G.ev e E).e) :
  PS X (.Assign [.Name x u] v pos) (OS X.K G.ev E (.set i e)):=by
 let#[l,j]:=A0 ok.toOkX g;refine Fk (pos':=u) ok.nd l j pe ?_ (.inl (ok.cel x));cases z:bG v with
 |true=>exact tN z|false =>
  rw[z,QAz,beq_iff_eq,<- ok.sc]at w;have hk:X.env.kindOf x=jr .cell:=w;have key:∀(b c:Bool) (y h:Nat),(sn (b&&X.env.kindOf x==jr .local&&y==h&&!c):Sem Bool)=sn false:=λb c y h=>by
   rw[hk];have:(b&&(jr NameKind.cell==jr NameKind.local)&&y==h&&!c)=false:=by cases b<;>rfl
   rw[this]
  cases v with|ListComp m a sc f=>exact key _ _ _ _|SetComp m a sc f=>exact key _ _ _ _|DictComp k v a sc f=>exact key _ _ _ _|_=>cases z
theorem Se(h:mh e=kf):∃a b c d f g k,e=.comp a b c d f g k:=by
 cases e with|comp a b c d f g k=>exact#[a,b,c,d,f,g,k,rfl]|_=>exact(QG h).elim
theorem Hk(ok:OkS X S G E){l:List gi}(h:DY S i e l=kf)(nd:AA G e):∃st,l=[st]/\PS X st (OS X.K G.ev E (.set i e)):=by
 let#[st,e1,q1]:=aB h;let#[ts,v,p,e2,q2]:=kM q1;let#[t,e3,q3]:=aB q2;let#[x,px,e4,q4]:=BE q3;let#[el,gs,sc,cp,e5,q5]:=ZW q4;subst e1 e2 e3 e4 e5;have L:=zA q5;have J:=zA L.2;have I:=zA J.2;have F:=zA I.2;have B:=zA F.2;let#[u,a,tg,ik,o,y,j,rfl]:=Se B.1;refine#[_,rfl,?_];have h6:=B.2;let#[el',O,m,pos,ee,g]:=ZW h6;cases ee;let#[#[t,it,Y,Z],rfl,g]:=aB g;have g0:=zA g;have M:=zA g0.2;have g1:=zA M.2;have g2:=zA g1.2;have g3:=zA g2.2;have R:=zA g3.2;have P:=zA R.2;have ea:Z=0:=qY g0.1;cases ea;have C:CompSt X.N X.env.scope sc a u:=by rw[ok.N,ok.sc];exact PU g1.1
 let#[n1,n2,n3,n4]:=nd;let#[l1,l2]:=De L.1;have b:X.env.scope.names.lookup x=jr .local:=by rw[ok.sc];exact l2
 refine Gc (g:=NE X.K tg) (tc:=if isNop y=kf then λ_ H Q=>Q kf H else(wp X.K G.ev y (λ_ _ _=>False)).t) (te:=(wp X.K G.ev j (λ_ _ _=>False)).e) ok.calm ok.nd (by rw[ok.N];exact l1) b (aW ok.toOkX (pos:=cp) R.1 n1 ((qE _).mp M.1) λes p q=>snd o ok.toOkX q n2) C (λs H ex=>?_) (λx=>MW g3.1 x) ?_;have w:=ok.toOkX.comp sc a u s H ex;refine#[yZ w (λz=>(QG z).elim) C.nd g2.1,?_,(snd j w P.2 n4).pe];have f:=P.1;cases Y with|nil=>have e:isNop y=true:=f;simp only[e,if_true];exact jZ|cons c r=>have A:=zA f;have W:=zA A.2;cases Qu.mp A.1;have e:isNop y=false:=(qE _).mp W.1;simp only[e,Qv,if_false];exact IY (snd y w W.2 n3).pt
 have k1:X.env.scope.kind=.function:=by rw[ok.sc];exact qY J.1
 have k2:(X.env.blockKind==.function)=true:=by simp[Env.blockKind,k1,ScopeKind.isAnnotationScope]
 have k3:(X.env.kindOf x==jr .local)=true:=by show(X.env.scope.names.lookup x==jr .local)=kf;rw[b];rfl
 show(sn (X.env.blockKind==.function&&X.env.kindOf x==jr .local&&px.line==cp.line&&!(sc.names.any λ(n,k)=>n==x&&(k==.local||k==.cell))):Sem Bool)=sn kf;rw[k2,k3,I.1,F.1];rfl
theorem Kx:∀(p:PT) {l:List gi},OkS X S G E->mS p S l=kf->cF G p->lY X l (OS X.K G.ev E p)/\(JZ p=kf->∀st,l=[st]->PS X st (OS X.K G.ev E p)):=by
 intro p;have one:∀{p:PT}{st:gi},PS X st (OS X.K G.ev E p)->lY X [st] (OS X.K G.ev E p)/\(JZ p=kf->∀j,[st]=[j]->PS X j (OS X.K G.ev E p)):=λh=>#[SY h,λ_ j e=>by cases e;exact h]
 have f:∀{i:Nat}{e:PX}{l:List gi},OkS X S G E->(setB S i (KB e S) l||DY S i e l)=kf->AA G e->∃st,l=[st]/\PS X st (OS X.K G.ev E (.set i e)):=λ{i e l} ok h nd=>by
  rcases(wn _ _).mp h with h|h
  rotate_left
  exact Hk ok h nd;let#[st,B,n]:=aB h;let#[P,v,p,A,m]:=kM n;let#[t,W,q3]:=aB m;let#[x,px,O,F]:=BE q3;subst B A W O;have z:=zA F;have u:=zA z.2;exact#[_,rfl,M1 ok z.1 u.1 (snd e ok.toOkX u.2 nd).pe]
 induction p with
 |nil=>intro l ok h nd;cases Qu.mp h;exact#[Fc,λh=>(QG h).elim]|seq s r J L=>intro l ok h nd;let#[st,l,rfl,h]:=mL h;have z:=zA h;have u:=zA z.2;exact#[A6 ((J ok u.1 nd.1).2 z.1 st rfl) (L ok u.2 nd.2).1,λh=>(QG h).elim]|set i e=>intro l ok h nd;let#[st,rfl,q]:=f ok h nd;exact one q|own i e=>intro l ok h nd;let#[st,rfl,q]:=f ok h nd;exact one q|expr e=>intro l ok h nd;let#[st,rfl,h]:=aB h;let#[v,p,rfl,h]:=C7 h;have z:=zA h;exact one (AY (snd e ok.toOkX z.2 nd).pe (tN z.1))|ret e =>
  intro l ok h nd;let#[st,rfl,h]:=aB h;let#[v,p,rfl,h]:=Vd h;cases v with|none=>exact(QG h).elim|some v=>exact one (j7 (snd e ok.toOkX h nd).pe)
 |ife c a b N M=>intro l ok h nd;let#[st,rfl,h]:=aB h;let#[t,x,y,p,rfl,h]:=Xd h;have z:=zA h;have u:=zA z.2;exact one (Vr (snd c ok.toOkX z.1 nd.1).pt (N ok u.1 nd.2.1).1 (M ok u.2 nd.2.2).1)|for_ tg ik I C Y=>intro l ok h nd;let#[st,rfl,h]:=aB h;let#[t,it,x,y,p,rfl,h]:=Ud h;have h0:=zA h;have z:=zA h0.2;have u:=zA z.2;have g:=zA u.2;cases Qu.mp h0.1;exact one (Gk ok.po ok.calm (Rc ok.toOkX g.1 nd.1 λH p q=>snd I ok.toOkX q nd.2.1) (yZ ok.toOkX (λ_=>ok.cel) ok.nd z.1) (Y ok g.2 nd.2.2).1 λx=>MW u.1 x)|tset is e =>
  intro l ok h nd;let#[st,B,n]:=aB h;let#[P,v,p,A,m]:=kM n;let#[t,W,h]:=aB m;subst B A W;have z:=zA h;have u:=zA z.2;have g:=zA u.2;have Z:=zA g.2;cases t with
  |Tuple H k pt =>
   refine one (k7 (snd e ok.toOkX Z.2 nd).pe (yZ ok.toOkX (λ_=>ok.cel) ok.nd Z.1) ?_ ?_ ?_);show b8 v (jr (.Tuple H k pt)) p.line X.env=sn kb;exact tN u.1;cases v<;>first|rfl|exact(QG z.1).elim
   rfl
  |_=>exact(QG g.1).elim
 |six o i e =>
  intro l ok h nd;let#[st,B,n]:=aB h;let#[P,v,p,A,m]:=kM n;let#[t,W,h]:=aB m;subst B A W;let#[ov,R,Q,O,F]:=mR h;subst O;have z:=zA F;have u:=zA z.2;have g:=zA u.2;have Z:=zA g.2;refine one (k7 (snd e ok.toOkX g.1 nd.2.2).pe (Ak (pos:=Q) (snd o ok.toOkX Z.1 nd.1).pe (snd i ok.toOkX Z.2 nd.2.1).pe (e6 ok.un) ?_) ?_ ?_ ?_);intro w;cases R<;>first|rfl|exact(QG z.1).elim
  show b8 v (jr (.Subscript ov R Q)) p.line X.env=sn kb;exact tN u.1;cases v<;>rfl;rfl
 |sdf i k=>intro l ok h nd;let#[st,rfl,h]:=aB h;let#[v,p,rfl,h]:=C7 h;have z:=zA h;exact one (AY (snd (Sq i k) ok.toOkX z.2 nd).pe (tN z.1))|whl c C Y=>intro l ok h nd;let#[st,rfl,h]:=aB h;let#[t,x,y,p,rfl,h]:=Bl h;have z:=zA h;have u:=zA z.2;cases Qu.mp z.1;exact one (E6 ok.po (snd c ok.toOkX u.1 nd.1).pt (Y ok u.2 nd.2).1)|frz is s Y=>intro l ok h nd;exact Y ok h nd
end
end
noncomputable abbrev D:=zl
set_option genInjectivity true in
inductive T where
 |d (x:D)|lst (ts:List T)|tup (ts:List T)|dct (b:Bool) (ks:List D) (ts:List T)
abbrev LT:=List T
mutual
def T.er:T->D
 | .d x=>x|.lst h=>.list (ersT h)|.tup h=>.tuple (ersT h)|.dct _ y h=>.dict (y.zip (ersT h))
def ersT:LT->List D
 |[]=>[]|t::r=>t.er::ersT r
end
theorem fB(ds:List D):ersT (ds.map T.d)=ds:=by
 induction ds with|nil=>rfl|cons d r h=>simp only[QS,ersT,h,T.er]
theorem C9:∀(ts:LT),(ersT ts).9=ts.9
 |[]=>rfl|t::r=>by simp only[ersT,QO,C9 r]
theorem bS:∀(ts:LT),ersT ts=ts.map T.er
 |[]=>rfl|t::r=>by simp only[ersT,QS,bS r]
def T.isD:T->Bool
 | .d _=>kf|_=>kb
set_option genInjectivity true in
inductive Sl where
 |own (t:T)|bor (t:T)
noncomputable abbrev xA:=List (Option Sl)
abbrev bD(x:D):Option Sl:=jr (.bor (.d x))
abbrev oW(t:T):Option Sl:=jr (.own t)
def uH(t:T)(n:Bool):Bool:=n||t.isD
def gA(t:T):Bool->T
 |true=>.d t.er|false=>t
theorem pA(x:D)(n:Bool):gA (.d x) n=.d x:=by cases n<;>rfl
theorem BZ(t:T)(n:Bool):(gA t n).er=t.er:=by cases n<;>rfl
noncomputable def GG:LT->Option (List D)
 |[]=>jr []|.d x::r=>(GG r).map (x::·)|_::_=>kv
theorem JA(ds:List D):GG (ds.map T.d)=jr ds:=by
 induction ds with|nil=>rfl|cons d r h=>simp only[QS,GG,h,Q5]
theorem ZM:∀{ts:LT}{ds:List D},GG ts=jr ds->ts=ds.map T.d
 |[],ds,h=>by simp only[GG,Qr]at h;subst h;rfl|.d x::r,ds,h=>by
  simp only[GG]at h;cases e:GG r with|none=>rw[e]at h;cases h|some y=>rw[e]at h;cases h;rw[QS,ZM e]
 | .lst _::_,_,h=>by simp[GG]at h|.tup _::_,_,h=>by simp[GG]at h|.dct _ _ _::_,_,h=>by simp[GG]at h
noncomputable def FC:List (D×D)->Option Bool
 | (.tuple _,_)::_=>jr kf|(.str _,_)::_=>jr kb|_=>kv
def aD:Bool->D->Prop
 |true,k=>∃q,k=tD (.t q)/\d8 (.t q)<=6|false,k=>∃z,k=.str z
open Classical in
noncomputable def cA:List D->D->Option Nat
 |[],_=>kv|x::r,k=>if x=k then jr 0 else(cA r k).map (·+1)
def cK(b:Bool)(ks:List D)(ts:LT)(k:D)(t:T):T:=match cA ks k with
 |some n=>.dct b ks (ts.set n t)|none=>.dct b (ks++[k]) (ts++[t])
theorem HC:∀{ks:List D}{k:D}{n:Nat},cA ks k=jr n->ks[n]?=jr k
 |[],_,_,h=>by cases h|x::r,k,n,h=>by
  unfold cA at h;by_cases e:x=k;rw[i0 e]at h;cases h;rw[e];rfl;rw[ii e]at h;cases q:cA r k with|none=>rw[q]at h;cases h|some m=>rw[q]at h;cases h;simpa using HC q
theorem zB:∀{ks:List D}{k:D},cA ks k=kv↔k∉ks
 |[],_=>by simp[cA]|x::r,k=>by unfold cA;by_cases e:x=k;simp[e];rw[ii e,Option.map_eq_none_iff,zB];simp[qC e]
theorem aX{ks:List D}{k:D}:(cA ks k).isSome=kf↔k∈ks:=by
 cases h:cA ks k with|none=>simp[zB.mp h]|some n=>simp[qW (HC h)]
set_option genInjectivity true in
inductive Vw where
 |sc (x:D)|ls (ts:LT)|tp (ts:LT)|dc (b:Bool) (ks:List D) (ts:LT)
def DB(kvs:List (D×D)):Vw:=match FC kvs with
 |some b=>.dc b (kvs.map (·.1)) (kvs.map λp=>T.d p.2)|none=>.sc (.dict kvs)
def T.vw:T->Vw
 | .lst h=>.ls h|.tup h=>.tp h|.dct b u h=>.dc b u h|.d x=>match x with
  | .list z=>.ls (z.map T.d)|.tuple z=>.tp (z.map T.d)|.dict y=>DB y|.none=>.sc .none|.bool b=>.sc (.bool b)|.int i=>.sc (.int i)|.str s=>.sc (.str s)
def SD(ts:LT):T:=match GG ts with
 |some h=>.d (.tuple h)|none=>.tup ts
noncomputable abbrev XD:=kn×List (Str×D)
noncomputable abbrev XE:=XD->Prop
noncomputable abbrev TK:=T->Bool->xA->Prop
inductive Md where
 |fro|shal|bor|chg
 deriving DecidableEq
structure PSp where
 md:List Md:=[]
 run:LT->(T->LT->Prop)->XE->Prop
 mono:∀{ts:LT}{Q Q':T->LT->Prop}{E E':XE},(∀t os,Q t os->Q' t os)->(∀x,E x->E' x)->run ts Q E->run ts Q' E':=by intro _ _ _ _ _ h _ z;(repeat let#[y,z]:=z;refine#[y,?_]);first|exact h _ _ z|(intros;apply h;apply z<;>assumption)
structure PEv where
 sp:Str->PSp
 va:Str->Option D
def binT(w:g7)(x y:Vw)(Q:T->Bool->Prop):Prop:=match w with
 | .Add=>(∃i j,x=.sc (.int i)/\y=.sc (.int j)/\Q (.d (.int (i+j))) kb)∨(∃a b,x=.sc (.str a)/\y=.sc (.str b)/\a.9+b.9<=kt/\Q (.d (.str (a++b))) kb) ∨
  (∃v u z h,x=.ls v/\y=.ls u/\GG v=jr z/\GG u=jr h/\z.9+h.9<=kt/\Q (.lst ((z++h).map T.d)) kf)
 | .Sub=>∃i j,x=.sc (.int i)/\y=.sc (.int j)/\Q (.d (.int (i - j))) kb|.Mult=>∃i j,x=.sc (.int i)/\y=.sc (.int j)/\l0 i j/\Q (.d (.int (i * j))) kb|.FloorDiv=>∃i j,x=.sc (.int i)/\y=.sc (.int j)/\(0<j/\j<2 ^ 200)/\Q (.d (.int (i / j))) kb|.Mod=>∃i j,x=.sc (.int i)/\y=.sc (.int j)/\0<j/\Q (.d (.int (i % j))) kb|_=>False
section
variable{Q:T->Bool->Prop}
theorem Lo(i j:Int):binT .Add (.sc (.int i)) (.sc (.int j)) Q=Q (.d (.int (i+j))) false:=by simp[binT]
theorem Ho(a b:Str):binT .Add (.sc (.str a)) (.sc (.str b)) Q=(a.9+b.9<=kt/\Q (.d (.str (a++b))) kb):=by simp[binT]
theorem Go(i j:Int):binT .Sub (.sc (.int i)) (.sc (.int j)) Q=Q (.d (.int (i - j))) false:=by simp[binT]
theorem Fo(i j:Int):binT .Mult (.sc (.int i)) (.sc (.int j)) Q=(l0 i j/\Q (.d (.int (i * j))) kb):=by simp[binT]
theorem Do(i j:Int):binT .FloorDiv (.sc (.int i)) (.sc (.int j)) Q=((0<j/\j<2 ^ 200)/\Q (.d (.int (i / j))) kb):=by simp[binT]
theorem Co(i j:Int):binT .Mod (.sc (.int i)) (.sc (.int j)) Q=(0<j/\Q (.d (.int (i % j))) kb):=by simp[binT]
end
section
variable{Q:T->Prop}
def lw:D->D->(Bool->Prop)->Prop
 | .int i,.int j,Q=>Q (decide (i=j))|.str x,.str y,Q=>Q (decide (x=y))|.bool x,.bool y,Q=>Q (decide (x=y))|a,b,Q=>JE a/\JE b/\Q (Ql a b)
noncomputable def rB:D->Bool
 | .none | .bool _ | .int _ | .str _=>kf
 |_=>kb
def Tt:D->D->(Bool->Prop)->Prop
 | .str x,.str y,Q=>Q (inStr y x)|a,.list ds,Q|a,.tuple ds,Q=>((rB a=kf/\ds.all rB=kf)∨(JE a/\JE (.list ds)))/\Q (ds.any λy=>Ql y a)
 |a,.dict kvs,Q=>∃b,FC kvs=jr b/\aD b a/\Q (cA (kvs.map (·.1)) a).isSome|_,_,_=>False
def T1(f:Int->Int->Bool):D->D->(Bool->Prop)->Prop
 | .int i,.int j,Q=>Q (f i j)|_,_,_=>False
def d9:D->Bool
 | .none=>kf|_=>kb
def z4:D->D->(Bool->Prop)->Prop
 |a,.none,Q=>Q (d9 a)|.bool a,.bool b,Q=>Q (decide (a=b))|_,_,_=>False
def BX:fm->D->D->(Bool->Prop)->Prop
 | .Eq,a,b,Q=>lw a b Q|.NotEq,a,b,Q=>lw a b λk=>Q (!k)|.Lt,a,b,Q=>T1 (λi j=>decide (i<j)) a b Q|.LtE,a,b,Q=>T1 (λi j=>decide (i<=j)) a b Q|.Gt,a,b,Q=>T1 (λi j=>decide (j<i)) a b Q|.GtE,a,b,Q=>T1 (λi j=>decide (j<=i)) a b Q|.In,a,b,Q=>Tt a b Q|.NotIn,a,b,Q=>Tt a b λk=>Q (!k)|.Is,a,b,Q=>z4 a b Q|.IsNot,a,b,Q=>z4 a b λk=>Q (!k)
def Xf(h:fm)(x:D)(y:T)(Q:Bool->Prop):Prop:=match y with
 | .dct b u _=>aD b x/\((h=.In/\Q (cA u x).isSome)∨(h=.NotIn/\Q (!(cA u x).isSome)))|.d y=>BX h x y Q|.lst z=>BX h x (.list (ersT z)) Q|.tup z=>BX h x (.tuple (ersT z)) Q
def jK:D->(Bool->Prop)->Prop
 | .bool b,Q=>Q b|.int i,Q=>Q (i != 0)|.none,Q=>Q kb|.str z,Q=>z.9<=kt/\Q ((z.9:Int) != 0)|.list ds,Q=>Q (!ds.isEmpty)|.tuple ds,Q=>Q (!ds.isEmpty)|_,_=>False
def Po:D->(Bool->Prop)->Prop
 | .bool b,Q=>Q b|_,_=>False
def HU(x:Vw)(k:D)(Q:T->Prop):Prop:=∃b y h n t,x=.dc b y h/\aD b k/\cA y k=jr n/\h[n]?=jr t/\Q t
def GO(x y:Vw)(Q:T->Prop):Prop:=(∃z i c,x=.sc (.str z)/\y=.sc (.int i)/\z.9<=kt/\PC z.cps.toList i=jr c/\Q (.d (.str #[(Q3 [c])]))) ∨
 (∃h i t,x=.ls h/\y=.sc (.int i)/\PC h i=jr t/\Q t)∨(∃h i t,x=.tp h/\y=.sc (.int i)/\PC h i=jr t/\Q t)
theorem Bn(z:Str)(i:Int):GO (.sc (.str z)) (.sc (.int i)) Q=(z.9<=kt/\∃c,PC z.cps.toList i=jr c/\Q (.d (.str #[(Q3 [c])]))):=by simp[GO]
theorem m9(ts:LT)(i:Int):GO (.ls ts) (.sc (.int i)) Q=∃t,PC ts i=jr t/\Q t:=by simp[GO]
theorem Xn(ts:LT)(i:Int):GO (.tp ts) (.sc (.int i)) Q=∃t,PC ts i=jr t/\Q t:=by simp[GO]
noncomputable def pH{α:Type}(xs:List α)(h x:Option Int):List α:=(xs.drop (HT.sIx xs.9 0 h)).take (HT.sIx xs.9 xs.9 x - HT.sIx xs.9 0 h)
def HI(x:Vw)(u v:Option Int)(Q:T->Bool->Prop):Prop:=(∃z,x=.sc (.str z)/\z.9<=kt/\Q (.d (.str (w8 z u v))) kb)∨(∃y h,x=.ls y/\GG y=jr h/\Q (.lst ((pH h u v).map T.d)) kf) ∨
 (∃y h,x=.tp y/\GG y=jr h/\¬ (HT.sIx h.9 0 u=0/\HT.sIx h.9 h.9 v=h.9)/\Q (.d (.tuple (pH h u v))) kb)
end
section
variable{Q:T->Bool->Prop}{h x:Option Int}
theorem vk(z:Str):HI (.sc (.str z)) h x Q=(z.9<=kt/\Q (.d (.str (w8 z h x))) kb):=by simp[HI]
theorem r6(ts:LT):HI (.ls ts) h x Q=∃ds,GG ts=jr ds/\Q (.lst ((pH ds h x).map T.d)) true:=by simp[HI]
end
def uG:D->(Option Int->Prop)->Prop
 | .int i,Q=>Q (jr i)|_,_=>False
noncomputable def isD(n:String):D->Option Bool
 | .none=>jr kb|.bool _=>jr (n == "bool" || n == "int")
 | .int _=>jr (n == "int")|.str _=>jr (n == "str")|.list _=>jr (n == "list")|.tuple _=>jr (n == "tuple")|.dict _=>kv
noncomputable def HP(n:String):Bool:=n == "bool" || n == "int" || n == "str" || n == "list" || n == "tuple" || n == "ValueError"
def MD(l:LS):D:=.list (l.map j0)
def Ky.d:Ky->D
 | .i n=>.int n|.s x=>.str x
def x5(r:List Ky):D:=.tuple (r.map Ky.d)
def vY(f:Bi)(vs:List Vw)(Q:T->Bool->Prop):Prop:=match f with
 | .len=>(∃z,vs=[.sc (.str z)]/\z.9<=kt/\Q (.d (.int z.9)) kb)∨(∃h,vs=[.ls h]/\Q (.d (.int h.9)) kb)∨(∃h,vs=[.tp h]/\Q (.d (.int h.9)) kb)|.any=>∃h,∃bs:List Bool,vs=[.ls h]/\GG h=jr (bs.map PyData.bool)/\Q (.d (.bool (bs.any id))) kb|.sorted=>(∃h,∃k:LS,vs=[.ls h]/\GG h=jr (k.map j0)/\k.9<64/\∀x:LS,x.Perm k->ak x=kf->Q (.lst ((x.map j0).map T.d)) kf) ∨
  (∃h,∃ls:List (LS),vs=[.ls h]/\GG h=jr (ls.map MD)/\ls.9<64/\∀v:List (LS),v.Perm ls->Q (.lst ((v.map MD).map T.d)) kf) ∨
  (∃h,∃a:LJ,vs=[.ls h]/\GG h=jr (a.map j1)/\a.9<64/\∀u:LJ,u.Perm a->u.Pairwise (·<=·)->Q (.lst ((u.map j1).map T.d)) kf) ∨
  (∃h,∃w:List (List Ky),vs=[.ls h]/\GG h=jr (w.map x5)/\(w.9<64/\dv w)/\∀y:List (List Ky),y.Perm w->y.Pairwise Om->Q (.lst ((y.map x5).map T.d)) kf)
 | .min=>∃i j,vs=[.sc (.int i),.sc (.int j)]/\Q (.d (.int (if j<i then j else i))) kb|.tuple=>∃h b,vs=[.ls h]/\GG h=jr b/\Q (.d (.tuple b)) kb
section
variable{Q:T->Bool->Prop}
theorem Ah(ts:LT):vY .len [.ls ts] Q=Q (.d (.int ts.9)) false:=by simp[vY]
theorem Pu(ts:LT):vY .len [.tp ts] Q=Q (.d (.int ts.9)) false:=by simp[vY]
theorem Ou(ts:LT):vY .any [.ls ts] Q=∃bs:List Bool,GG ts=jr (bs.map PyData.bool)/\Q (.d (.bool (bs.any id))) false:=by simp[vY]
theorem No(i j:Int):vY .min [.sc (.int i),.sc (.int j)] Q=Q (.d (.int (if j<i then j else i))) false:=i3 #[λ#[_,_,e,h]=>by cases e;exact h,λh=>#[_,_,rfl,h]]
theorem Th(ts:LT):vY .tuple [.ls ts] Q=∃ds,GG ts=jr ds/\Q (.d (.tuple ds)) false:=by simp[vY]
end
section
variable{N:T->T->Prop}
def zw(m:Mt)(x:Vw)(vs:List Vw)(Q:T->Bool->Prop):Prop:=match m with
 | .index=>∃z y i h,x=.sc (.str z)/\vs=[.sc (.str y)]/\qF z y 0 z.9 1=i::h/\Q (.d (.int ((i:Nat):Int))) kb|_=>False
def Zc(x:Vw)(Q:T->Bool->Prop):Prop:=∃h y,x=.ls h/\GG h=jr y/\Q (.lst (y.reverse.map T.d)) kf
def Vw.isS:Vw->Bool
 | .sc (.str _)=>kf|_=>kb
noncomputable def isMut:Mt->Bool
 | .append=>kf|.pop=>kf|.setd=>kf|.reverse=>kf|.extend=>kf|.index=>kb
def Y8(m:Mt)(x:Vw):Bool:=x.isS&&!isMut m
def nK(m:Mt)(s:T)(us:LT)(N:T->T->Prop):Prop:=match m with
 | .append=>∃h t,s=.lst h/\us=[t]/\h.9<kt/\N (.d .none) (.lst (h++[t]))|.pop=>∃h i k t,s=.lst h/\us=[.d (.int i)]/\HS h.9 i=jr k/\h[k]?=jr t/\N t (.lst (h.eraseIdx k))|.reverse=>∃y:List D,s=.lst (y.map T.d)/\us=[]/\N (.d .none) (.lst (y.reverse.map T.d))|.extend=>∃h x,s=.lst h/\us=[.lst x]/\h.9+x.9<=kt/\N (.d .none) (.lst (h++x))|_=>False
theorem i8(ts:LT)(t:T):nK .append (.lst ts) [t] N=(ts.9<kt/\N (.d .none) (.lst (ts++[t]))):=by simp[nK]
theorem t8(ts vs:LT):nK .extend (.lst ts) [.lst vs] N=(ts.9+vs.9<=kt/\N (.d .none) (.lst (ts++vs))):=by simp[nK]
theorem e8(ts:LT)(i:Int):nK .pop (.lst ts) [.d (.int i)] N=∃k t,HS ts.9 i=jr k/\ts[k]?=jr t/\N t (.lst (ts.eraseIdx k)):=by simp[nK]
noncomputable def dX:Mt->Bool
 | .append=>kf|.pop=>kf|.setd=>kb|.reverse=>kf|.extend=>kf|.index=>kb
def XH(m:Mt):T->Bool
 | .lst _=>dX m|_=>kb
noncomputable def Vw.seq:Vw->Option (LT)
 | .ls h=>jr h|.tp h=>jr h|_=>kv
def MB(u:ItK)(vs:List Vw)(R:LT->Prop):Prop:=match u with
 | .val=>(∃h,vs=[.ls h]/\R h)∨(∃h,vs=[.tp h]/\R h)∨(∃y h,vs=[.dc kf y h]/\R (y.map T.d))|.rng1=>∃j,vs=[.sc (.int j)]/\(-(2 ^ 62)<=j/\j<2 ^ 62)/\R ((Qj j.toNat).map λ(i:Nat)=>.d (.int (i:Int)))|.rev=>∃h,vs=[.ls h]/\R h.reverse|.enum=>∃x h z,vs=[x]/\x.seq=jr h/\GG h=jr z/\R (z.zipIdx.map λp=>.d (.tuple [.int (p.2:Int),p.1]))|.itm=>(∃y h z,vs=[.dc kf y h]/\GG h=jr z/\R ((y.zip z).map λp=>.d (.tuple [p.1,p.2])))∨(vs=[.sc (.dict [])]/\R [])
end
section
variable{R:LT->Prop}
theorem nJ(ts:LT):MB .val [.ls ts] R=R ts:=by simp[MB]
theorem u9(ts:LT):MB .val [.tp ts] R=R ts:=by simp[MB]
theorem x9(j:Int):MB .rng1 [.sc (.int j)] R=((-(2 ^ 62)<=j/\j<2 ^ 62)/\R ((Qj j.toNat).map λ(i:Nat)=>.d (.int (i:Int)))):=by simp[MB]
theorem iU(x:Vw):MB .enum [x] R=∃ts ds,x.seq=jr ts/\GG ts=jr ds/\R (ds.zipIdx.map λp=>.d (.tuple [.int (p.2:Int),p.1])):=by apply i3;constructor;rintro⟨_,ts,ds,⟨⟩,h⟩;exact#[ts,ds,h];rintro⟨ts,ds,h⟩;exact#[_,ts,ds,rfl,h]
theorem eU(ks:List D)(ts:LT):MB .itm [.dc kf ks ts] R=∃ds,GG ts=jr ds/\R ((ks.zip ds).map λp=>.d (.tuple [p.1,p.2])):=by apply i3;constructor;rintro(⟨_,_,ds,⟨⟩,h⟩| ⟨⟨⟩,_⟩);exact#[ds,h];rintro⟨ds,h⟩;exact .inl #[_,_,ds,rfl,h]
theorem aU(ks:List D)(ts:LT):MB .val [.dc kf ks ts] R=R (ks.map T.d):=by simp[MB]
theorem v9:MB .itm [.sc (.dict [])] R=R []:=by apply i3;constructor;rintro(⟨_,_,x,⟨⟩,h⟩| ⟨_,h⟩);exact h;exact λh=>.inr #[rfl,h]
end
noncomputable def eB:LN->LT->xA->Option xA
 |[],[],ρ=>jr ρ|i::is,t::ts,ρ=>eB is ts (ρ.set i (jr (.bor t)))|_,_,_=>kv
def JL:Tg->T->xA->(xA->Prop)->Prop
 | .nm i,t,ρ,Q=>Q (ρ.set i (jr (.bor t)))|.tp is,t,ρ,Q=>match t.vw with
  | .tp x=>∃h,eB is x ρ=jr h/\Q h|_=>False
def Tg.ix:Tg->LN
 | .nm i=>[i]|.tp h=>h
def B6:PX->Option Nat
 | .var i=>jr i|_=>kv
noncomputable def dG:Option Sl->Option Sl
 |some (.own t)=>jr (.bor t)|s=>s
def lockA(ρ:xA):xA:=ρ.map dG
def lock:LN->xA->xA
 |[],ρ=>ρ|i::is,ρ=>lock is (ρ.modify i dG)
def pX:Option Sl->Option Sl
 |some (.own t)=>bD t.er|s=>s
noncomputable def frzAt:LN->xA->xA
 |[],ρ=>ρ|i::is,ρ=>frzAt is (ρ.modify i pX)
noncomputable def UN:Option Sl->Option Sl
 |some (.bor t)=>if t.isD=kf then jr (.bor t) else kv|s=>s
def kill:LN->xA->xA
 |[],ρ=>ρ|i::is,ρ=>kill is (ρ.modify i UN)
noncomputable def clear:LN->xA->xA
 |[],ρ=>ρ|i::is,ρ=>clear is (ρ.set i kv)
noncomputable def LA:LN->xA->Option (LT)
 |[],_=>jr []|i::is,ρ=>match ρ[i]? with
  |some (jr (.own t))=>(LA is ρ).map (t::·)|_=>kv
noncomputable def yC:LN->LT->xA->Option xA
 |[],[],ρ=>jr ρ|i::is,t::ts,ρ=>yC is ts (ρ.set i (jr (.own t)))|_,_,_=>kv
noncomputable def fC:List Bool->xA->xA
 |b::m,v::ρ=>(if b then kv else v)::fC m ρ|_,ρ=>ρ
def MO(k:Nat)(h:List Bool)(ρ:xA):xA:=QAd k kv++fC h ρ
def sq{α:Type}(x:T)(ρ:xA)(b:xA->(α->xA->Prop)->Prop)(K:α->xA->Prop):Prop :=
 if x.isD=kf then b ρ K else b (lockA ρ) λy _=>K y ρ
def cu(f:xA->TK->Prop):xA->(T×Bool->xA->Prop)->Prop:=λy K=>f y λx n h=>K (x,n) h
def zF:List (T×Bool)->LT
 |[]=>[]|p::r=>p.1::zF r
def LO:List (T×Bool)->LT
 |[]=>[]|p::r=>gA p.1 p.2::LO r
noncomputable def CB:List (T×Bool)->List Vw
 |[]=>[]|p::r=>(gA p.1 p.2).vw::CB r
noncomputable def mE:List (T×Bool)->Bool
 |[]=>kf|p::r=>uH p.1 p.2&&mE r
noncomputable def KS:List (T×Bool)->Bool
 |[]=>kf|p::r=>uH p.1 p.2&&KS r
def DF(t:T):Option T:=match t.vw with
 | .ls h=>(GG h).map λx=>.lst (x.map T.d)|_=>if t.isD=kf then jr t else kv
def VA:List Md->List (T×Bool)->LT->Option (LT)
 |_,[],[]=>jr []|_,[],_::_=>kv|md,(x,n)::xs,os=>match md.headD .fro with
  | .fro=>match gA x n with
   | .d d=>(VA md.tail xs os).map (.d d::·)|_=>kv
  | .shal=>match DF (gA x n) with
   |some t=>(VA md.tail xs os).map (t::·)|none=>kv
  | .bor=>(VA md.tail xs os).map (gA x n::·)|.chg=>match os with
   |o::os=>(VA md.tail xs os).map (o::·)|[]=>kv
noncomputable def LB:List Md->LT->LT
 |_,[]=>[]|md,t::ts=>match md.headD .fro with
  | .chg=>t::LB md.tail ts|_=>LB md.tail ts
noncomputable def bA:List Md->PX->LN
 | .chg::md,.acons (.var j) as=>j::bA md as|_::md,.acons _ as=>bA md as|_,_=>[]
def Md.isMut:Md->Bool
 | .chg=>kf|_=>kb
structure D3 where
 e:xA->TK->Prop
 t:xA->(Bool->xA->Prop)->Prop
 a:List Md->xA->(List (T×Bool)->xA->Prop)->Prop
def HD:D3:=#[λ_ _=>False,λ_ _=>False,λ_ _ _=>False]
def vD(body:T->(Option T->Prop)->Prop):LT->LT->(LT->Prop)->Prop
 |[],acc,Q=>acc.9<=kt/\Q acc|x::xs,acc,Q=>body x fun
  |some y=>acc.9<kt/\vD body xs (acc++[y]) Q|none=>vD body xs acc Q
def sG(v:Tg)(u:xA)(c:xA->(Bool->xA->Prop)->Prop)(e:xA->TK->Prop)(x:T)(R:Option T->Prop):Prop :=
 JL v x u λz=>c z λb h=>if b=kf then e h λy n _=>uH y n=kf/\R (jr y) else R kv
def Zn:PX->D->(Bool->Prop)->Prop
 | .bty _ n,d,Q=>∃b,isD n d=jr b/\HP n=kf/\Q b|_,_,_=>False
def jw:Option (Option Sl)->(T->Prop)->Prop
 |some (jr (.own t)),Q=>Q t|some (jr (.bor t)),Q=>Q t|some kv,_=>False|none,_=>False
def RC:Option (Option Sl)->(T->Prop)->Prop
 |some (jr (.own t)),Q=>Q t|some (jr (.bor _)),_=>False|some kv,_=>False|none,_=>False
def Cg:Option Nat->(Nat->Prop)->Prop
 |none,_=>False|some j,Q=>Q j
def c9:PX->Bool
 | .var _=>kf|_=>kb
def pe(Ψ:PEv):PX->XE->D3
 | .var i,_=>let e:xA->TK->Prop:=λv Q=>jw v[i]? λt=>Q t kb v
  #[e,λv Q=>e v λt _ h=>jK t.er λb=>Q b h,HD.a]
 | .int i,_=>#[λv Q=>Q (.d (.int i)) kb v,λv Q=>Q (i != 0) v,HD.a]|.str x,_=>#[λv Q=>Q (.d (.str x)) kb v,HD.t,HD.a]|.bl b,_=>#[λv Q=>Q (.d (.bool b)) kb v,λv Q=>Q b v,HD.a]|.non,_=>#[λv Q=>Q (.d .none) kb v,λv Q=>Q kb v,HD.a]|.glo x,_=>let e:xA->TK->Prop:=λv Q=>match Ψ.va x with
   |some d=>Q (.d d) kb v|none=>False
  #[e,λv Q=>e v λt _ h=>jK t.er λb=>Q b h,HD.a]
 | .bty _ _,_=>HD|.bin op a b,E=>let e:xA->TK->Prop:=λv Q=>(pe Ψ a E).e v λx n h=>sq (gA x n) h (cu (pe Ψ b E).e) λy w=>binT op (gA x n).vw (gA y.1 y.2).vw λz k=>Q z k w
  #[e,λv Q=>e v λt _ h=>jK t.er λb=>Q b h,HD.a]
 | .cmp op a b,E=>let t:xA->(Bool->xA->Prop)->Prop:=λv Q=>(pe Ψ a E).e v λx n h=>sq (gA x n) h (cu (pe Ψ b E).e) λy w=>Xf op x.er (gA y.1 y.2) λk=>Q k w
  #[λv Q=>t v λk h=>Q (.d (.bool k)) kb h,t,HD.a]
 | .and a b,E=>#[λv Q=>(pe Ψ a E).e v λx _ h=>Po x.er λc=>if c=kf then(pe Ψ b E).e h Q else Q (.d (.bool kb)) kb h,
   λv Q=>(pe Ψ a E).t v λc h=>if c=kf then(pe Ψ b E).t h Q else Q kb h,HD.a]
 | .or a b,E=>#[λv Q=>(pe Ψ a E).e v λx _ h=>Po x.er λc=>if c=kf then Q (.d (.bool kf)) kb h else(pe Ψ b E).e h Q,
   λv Q=>(pe Ψ a E).t v λc h=>if c=kf then Q kf h else(pe Ψ b E).t h Q,HD.a]
 | .not a,E=>#[λv Q=>(pe Ψ a E).e v λx _ h=>jK x.er λc=>Q (.d (.bool (!c))) kb h,λv Q=>(pe Ψ a E).t v λc h=>Q (!c) h,HD.a]|.ife c a b,E=>#[λv Q=>(pe Ψ c E).t v λk h=>if k=kf then(pe Ψ a E).e h Q else(pe Ψ b E).e h Q,HD.t,HD.a]|.call f as,E=>let e:xA->TK->Prop:=λv Q=>∃Z,LA (bA (Ψ.sp f).md as) v=jr Z/\(bA (Ψ.sp f).md as).Nodup/\(pe Ψ as E).a (Ψ.sp f).md (clear (bA (Ψ.sp f).md as) v) λg h=>∃Y,VA (Ψ.sp f).md g Z=jr Y/\(Ψ.sp f).run Y (λr s=>∃w,yC (bA (Ψ.sp f).md as) s h=jr w/\Q r kf w) E
  #[e,λv Q=>e v λt _ h=>jK t.er λb=>Q b h,HD.a]
 | .isi a c,E=>let t:xA->(Bool->xA->Prop)->Prop:=λv Q=>(pe Ψ a E).e v λx _ h=>Zn c x.er λb=>Q b h
  #[λv Q=>t v λk h=>Q (.d (.bool k)) kb h,t,HD.a]
 | .bi f as,E=>let e:xA->TK->Prop:=λv Q=>(pe Ψ as E).a [] v λg h=>vY f (CB g) λz k=>Q z k h
  #[e,λv Q=>e v λt _ h=>jK t.er λb=>Q b h,HD.a]
 | .mt m o as,E=>let e:xA->TK->Prop:=λv Q=>if isMut m=kf then Cg (B6 o) λj=>RC v[j]? λt=>XH m t=kf/\(pe Ψ as E).a [] (v.set j (jr (.bor t))) λg w=>mE g=kf/\w[j]?=jr (jr (.bor t))/\nK m t (zF g) λr K=>Q r kf (w.set j (jr (.own K))) else(pe Ψ o E).e v λx n h=>Y8 m (gA x n).vw=kf/\sq (gA x n) h ((pe Ψ as E).a []) λg w=>zw m (gA x n).vw (CB g) λz k=>Q z k w
  #[e,λv Q=>e v λt _ h=>jK t.er λb=>Q b h,HD.a]
 | .idx a b,E=>let e:xA->TK->Prop:=λv Q=>(pe Ψ a E).e v λx n h=>sq (gA x n) h (cu (pe Ψ b E).e) λy w=>(GO (gA x n).vw (gA y.1 y.2).vw λz=>Q z kb w)∨(HU (gA x n).vw y.1.er λz=>Q z kb w)
  #[e,λv Q=>e v λt _ h=>jK t.er λb=>Q b h,HD.a]
 | .slc a lo hi,E=>#[λv Q=>(pe Ψ a E).e v λx n h =>
   sq (α:=Option Int) (gA x n) h (if isNop lo=kf then λv (R:Option Int->xA->Prop)=>R kv v else λv R=>(pe Ψ lo E).e v λl _ w=>uG l.er λo=>R o w) λl w =>
   sq (α:=Option Int) (gA x n) w (if isNop hi=kf then λv (R:Option Int->xA->Prop)=>R kv v else λv R=>(pe Ψ hi E).e v λu _ p=>uG u.er λo=>R o p) λu p=>HI (gA x n).vw l u λz k=>Q z k p,HD.t,HD.a]
 | .nop,_=>HD|.lst as,E=>#[λv Q=>(pe Ψ as E).a [] v λg h=>mE g=kf/\g.9<=kt/\Q (.lst (zF g)) kf h,HD.t,HD.a]|.tup as,E=>#[λv Q=>(pe Ψ as E).a [] v λg h=>mE g=kf/\g.9<=kt/\Q (SD (zF g)) kf h,HD.t,HD.a]|.comp mask tgs tg ik its cond elt,E=>#[λv Q=>(pe Ψ its E).a [] v λg h=>MB ik (CB g) λq =>
   vD (sG tg (MO tgs.9 mask (lockA h)) (if isNop cond=kf then λv R=>R kf v else(pe Ψ cond (λ_=>False)).t) (pe Ψ elt (λ_=>False)).e) q [] λW=>Q (.lst W) kf h,HD.t,HD.a]
 | .dnew b,_=>#[λv Q=>Q (.dct b [] []) kf v,HD.t,HD.a]|.dsp a b,E=>#[λv Q=>(pe Ψ a E).e v λy m h=>uH y m=kf/\(pe Ψ b E).e h λx n w=>uH x n=kf/\aD kf y.er/\Q (.dct kf [y.er] [x]) kf w,HD.t,HD.a]|.ng i,_=>#[λv Q=>Q (.d (.int (-i))) kb v,HD.t,HD.a]|.lrv a,E=>#[λv Q=>(pe Ψ a E).e v λx n h=>Zc (gA x n).vw λz k=>Q z k h,HD.t,HD.a]|.anil,_=>#[HD.e,HD.t,λ_ v Q=>Q [] v]|.acons a as,E=>#[HD.e,HD.t,λX v Q=>if(X.headD .fro).isMut=kf then c9 a=kf/\(pe Ψ as E).a X.tail v λg h=>Q ((.d .none,kf)::g) h
   else(pe Ψ a E).e v λx n h=>sq (α:=List (T×Bool)) (if n=kf then .d .none else x) h ((pe Ψ as E).a X.tail) λg w=>Q ((x,n)::g) w]
structure PEnds where
 nx:xA->Prop
 rt:T->xA->Prop
 bk:xA->Prop:=λ_=>False
 ct:xA->Prop:=λ_=>False
noncomputable def PF:PX->LN
 | .var i=>[i]|.idx a _=>PF a|.ife _ a b=>PF a++PF b|.and a b | .or a b=>PF a++PF b
 | .acons a h=>PF a++PF h|_=>[]
noncomputable def pN:Option (Option Sl)->Bool
 |some (jr (.own _))=>kf|some (jr (.bor _))=>kb|some kv=>kb|none=>kb
def cC(ρ:xA):LN->LN
 |[]=>[]|i::is=>if pN ρ[i]?=kf then i::cC ρ is else cC ρ is
noncomputable def VC:LN->xA->xA->xA
 |[],_,ρ=>ρ|i::L,ρ0,ρ=>VC L ρ0 (ρ.set i (ρ0[i]?.getD kv))
def RV(J L:LN)(h:xA)(N:xA->Prop)(ρ:xA):Prop:=(∀i∈L,i∉J/\ρ[i]?=h[i]?.map dG)/\N (VC L h ρ)
def bI(body:PEnds->xA->Prop)(z:Tg)(Z:PEnds):LT->xA->Prop
 |[],ρ=>Z.nx ρ|x::xs,ρ=>JL z x ρ λy=>body { Z with nx:=λh=>bI body z Z xs h,ct:=λh=>bI body z Z xs h,bk:=Z.nx } y
def Ox(ρ:xA)(i:Nat)(R:T->xA->Prop):Option (Option Sl)->Prop
 |some (jr (.own t))=>R t (ρ.set i kv)|some (jr (.bor t))=>t.isD=kf/\R t ρ|some kv=>False|none=>False
def oD(Ψ:PEv)(E:XE)(y:T->xA->Prop):PX->xA->Prop
 | .var i,ρ=>Ox ρ i y ρ[i]?|.ife c a b,ρ=>(pe Ψ c E).t ρ λk h=>if k=kf then oD Ψ E y a h else oD Ψ E y b h|e,ρ=>(pe Ψ e E).e ρ λx n h=>uH x n=kf/\y x h
def Gq:T->D->D->(T->Prop)->Prop
 | .lst ts,.int i,x,Q=>∃n,HS ts.9 i=jr n/\Q (.lst (ts.set n (.d x)))|.dct b ks ts,k,x,Q=>aD b k/\ks.9<kt/\Q (cK b ks ts k (.d x))|_,_,_,_=>False
noncomputable def Vx:PX->Option (Nat×Option PX)
 | .var j=>jr (j,kv)|.idx (.var j) k=>jr (j,jr k)|_=>kv
def gk(k:D)(t:T)(Q:T->Prop):Prop:=∃h x,t=.dct kf h x/\aD kf k/\h.9<kt/\((∃n,cA h k=jr n/\Q t)∨(cA h k=kv/\Q (.dct kf (h++[k]) (x++[.dct kf [] []]))))
def Zf:T->Bool
 | .dct kf _ _=>kf|_=>kb
def Dq(z:D)(t:T)(Q:T->(T->T)->Prop):Prop:=∃b x h n s,t=.dct b x h/\aD b z/\cA x z=jr n/\h[n]?=jr s/\Q s λy=>.dct b x (h.set n y)
def tB(Ψ:PEv)(E:XE):PT->PEnds->xA->Prop
 | .nil,Z,u=>Z.nx u|.seq s r,Z,u=>tB Ψ E s { Z with nx:=λw=>tB Ψ E r Z w } u|.set i e,Z,u=>(pe Ψ e E).e u λx n h=>uH x n=kf/\Z.nx (h.set i (bD x.er))|.expr e,Z,u=>(pe Ψ e E).e u λ_ _ h=>Z.nx h|.ret e,Z,u=>oD Ψ E Z.rt e u|.ife c a b,Z,u=>(pe Ψ c E).t u λk h=>if k=kf then tB Ψ E a Z h else tB Ψ E b Z h|.for_ tg ik its body,Z,u=>(pe Ψ its E).a [] u λX h=>MB ik (CB X) λf =>
   if KS X=kf then bI (tB Ψ E body) tg { Z with nx:=λv=>Z.nx (kill tg.ix v) } f h
   else bI (tB Ψ E body) tg { Z with nx:=λv=>RV tg.ix (cC h (PF its)) h Z.nx (kill tg.ix v) } f (lock (cC h (PF its)) h)
 | .own i e,Z,u=>(pe Ψ e E).e u λx n h=>uH x n=kf/\Z.nx (h.set i (jr (.own x)))|.tset is e,Z,u=>(pe Ψ e E).e u λx n h=>uH x n=kf/\JL (.tp is) (.d x.er) h Z.nx|.six o i e,Z,u=>match Vx o with
  |none=>False|some (j,kv)=>RC u[j]? λt=>(pe Ψ e E).e (u.set j (jr (.bor t))) λx n h=>uH x n=kf/\(pe Ψ i E).e h λy m v=>uH y m=kf/\v[j]?=jr (jr (.bor t))/\Gq t y.er x.er λq=>Z.nx (v.set j (jr (.own q)))|some (j,jr k)=>RC u[j]? λt=>(pe Ψ e E).e (u.set j (jr (.bor t))) λx n h=>uH x n=kf/\(pe Ψ k E).e h λz l v=>uH z l=kf/\Dq z.er t λs put=>(pe Ψ i E).e v λy m g=>uH y m=kf/\g[j]?=jr (jr (.bor t))/\Gq s y.er x.er λY=>Z.nx (g.set j (jr (.own (put Y))))
 | .sdf j k,Z,u=>RC u[j]? λt=>Zf t=kf/\(pe Ψ k E).e (u.set j (jr (.bor t))) λy m h=>uH y m=kf/\h[j]?=jr (jr (.bor t))/\gk y.er t λq=>Z.nx (h.set j (jr (.own q)))|.whl c body,Z,u=>∃W:Nat->xA->Prop,(∃m,W m u)/\∀m u,W m u->(pe Ψ c E).t u λb h=>if b=kf then
   tB Ψ E body { Z with nx:=λw=>∃p,p < m/\W p w,ct:=λw=>∃p,p < m/\W p w,bk:=Z.nx } h else Z.nx h
 | .frz is s,Z,u=>tB Ψ E s Z (frzAt is u)
abbrev pF(Ψ:PEv):PT->PEnds->xA->Prop:=tB Ψ λ_=>False
theorem _root_.L2.Same.rd{H x:Hp}(e:Same H x){a:k0}{u:HO}(h:Rd H a u):Rd x a u:=by
 rcases h with h|⟨o,h⟩
 exact .inl (e _ _ h);exact .inr #[o,e _ _ h]
theorem _root_.L2.Same.tupl{K:QA}{H x:Hp}{a:k0}{xs:LV}(e:Same H x)(h:CD K H a xs):CD K x a xs:=by rcases h with h|h;exact .inl (e.rd h);exact .inr h
mutual
theorem pZ{K:QA}{H x:Hp}(e:Same H x):∀{k:NK}{v:V},yp K H k v->yp K x k v
 | .s _,_,h=>h|.t _,_,#[a,xs,h,q,p]=>#[a,xs,h,e.tupl q,kys_mono e p]
theorem kys_mono{K:QA}{H y:Hp}(e:Same H y):∀{ks:List NK}{vs:LV},KyVs K H ks vs->KyVs K y ks vs
 |[],_,h=>h|_::_,_,#[x,r,h,p,q]=>#[x,r,h,pZ e p,kys_mono e q]
end
section
variable{K:QA}{H x:Hp}{vs:LV}{ds:List D}
theorem _root_.L2.Same.key(e:Same H x){b:k0}{k:NK}(h:xP K H b k):xP K x b k:=#[pZ e h.1,h.2]
theorem jL.mono(e:Same H x){b:Bool}{o:HO}{ks:List D}(h:jL K H b o ks vs):jL K x b o ks vs:=by
 cases b with|true=>let#[f,y,a,k,w,v,u]:=h;exact#[f,y,a,k,w,λp z=>e.key (v p z),u]|false=>exact h
theorem Rep.mono2(e:Same H x):(∀{v:V}{d:D},Rep K H v d->Rep K x v d)/\∀{vs:LV}{ds:List D},Reps K H vs ds->Reps K x vs ds :=
 Rep.both (P:=Rep K x) (R:=Reps K x) .non .bl .int .str (λh _ r=>.lst (e.seq h) r) (λh _ r=>.tup (e.tupl h) r) (λh q _ r=>.dct (e _ _ h) (q.mono e) r) .nil λ_ _ h r=>.cons h r
theorem Rep.mono(e:Same H x){v:V}{d:D}(h:Rep K H v d):Rep K x v d:=(Rep.mono2 e).1 h
theorem Reps.mono(e:Same H x)(h:Reps K H vs ds):Reps K x vs ds:=(Rep.mono2 e).2 h
theorem Reps.append{ws:LV}{es:List D}(h:Reps K H vs ds)(r:Reps K H ws es):Reps K H (vs++ws) (ds++es):=Reps.ind (R:=λvs ds=>Reps K H (vs++ws) (ds++es)) r (λh t=>.cons h t) h
theorem Reps.reverse(h:Reps K H vs ds):Reps K H vs.reverse ds.reverse:=Reps.ind (R:=λvs ds=>Reps K H vs.reverse ds.reverse) .nil (λr y=>by rw[wk,wk];exact y.append (.cons r .nil)) h
theorem Reps.get{K:QA}{H:Hp}:∀{vs:LV}{ds:List D}{i:Nat}{d:D},Reps K H vs ds->ds[i]?=jr d->∃v,vs[i]?=jr v/\Rep K H v d
 |_,_,i,_,.nil,h=>by simp at h|_,_,0,_,.cons h _,e=>by simp at e;subst e;exact#[_,rfl,h]|_,_,i+1,d,.cons _ t,e=>by let#[v,z,y]:=Reps.get (i:=i) t (by simpa using e);exact#[v,by simpa using z,y]
theorem Reps.drop{K:QA}{H:Hp}:∀{vs:LV}{ds:List D}(n:Nat),Reps K H vs ds->Reps K H (vs.drop n) (ds.drop n)
 |_,_,0,r=>r|_,_,_+1,.nil=>.nil|_,_,n+1,.cons _ t=>Reps.drop n t
theorem Reps.take{K:QA}{H:Hp}:∀{vs:LV}{ds:List D}(n:Nat),Reps K H vs ds->Reps K H (vs.take n) (ds.take n)
 |_,_,0,_=>.nil|_,_,_+1,.nil=>.nil|_,_,n+1,.cons h t=>.cons h (Reps.take n t)
theorem Reps.bools{K:QA}{H:Hp}:∀{vs:LV}{bs:List Bool},Reps K H vs (bs.map PyData.bool)->vs=bs.map V.bl
 |_,[],.nil=>rfl|_,b::bs,.cons h t=>by cases h;rw[QS,Reps.bools t]
theorem OB{p:k0}{o:HO}(h:H p=kv):Same H (FA H p o):=λb u q=>by rw[uA (iA q h)];exact q
end
mutual
inductive Tr(K:QA)(F H:Hp):Bool->V->T->(k0->Prop)->Prop where
 |d {st:Bool}{v:V}{x:D}{S:gB}:Rep K F v x->(∀b,¬ S b)->Tr K F H st v (.d x) S
 |lst {st:Bool}{a:k0}{vs:LV}{ts:LT}{S S':gB}:H a=jr (.lst vs)->F a=kv->Trs K F H st vs ts S'->¬ S' a->(∀b,S b↔b=a∨S' b)->Tr K F H st (.ref a) (.lst ts) S
 |tup {st:Bool}{a:k0}{vs:LV}{ts:LT}{S S':gB}:H a=jr (.tup vs)->F a=kv->Trs K F H st vs ts S'->¬ S' a->(∀b,S b↔b=a∨S' b)->Tr K F H st (.ref a) (.tup ts) S
 |lstF {a:k0}{vs:LV}{ds:List D}{S:gB}:rC K F a vs->Reps K F vs ds->(∀b,¬ S b)->Tr K F H kb (.ref a) (.lst (ds.map T.d)) S
 |dct {st b:Bool}{a:k0}{o:HO}{ks:List D}{vs:LV}{ts:LT}{S S':gB}:H a=jr o->jL K F b o ks vs->F a=kv->Trs K F H st vs ts S'->¬ S' a->(∀b,S b↔b=a∨S' b)->Tr K F H st (.ref a) (.dct b ks ts) S
inductive Trs(K:QA)(F H:Hp):Bool->LV->LT->(k0->Prop)->Prop where
 |nil {st:Bool}{S:gB}:(∀b,¬ S b)->Trs K F H st [] [] S
 |cons {st:Bool}{v:V}{t:T}{vs:LV}{ts:LT}{S S1 S2:gB}:Tr K F H st v t S1->Trs K F H st vs ts S2->(∀b,S1 b->¬ S2 b)->(∀b,S b↔S1 b∨S2 b)->Trs K F H st (v::vs) (t::ts) S
end
section
variable{K:QA}{F H w c:Hp}
section
variable{R:Bool->LV->LT->(k0->Prop)->Prop}{st b:Bool}{v:V}{t:T}{S:gB}{vs:LV}{ts:LT}{ds ks:List D}{i:Int}{kvs:List (D×D)}
theorem Tr.both{P:Bool->V->T->(k0->Prop)->Prop}
    (d:∀{st:Bool}{v:V}{x:D}{S:gB},Rep K F v x->(∀b,¬ S b)->P st v (.d x) S)
    (lst:∀{st:Bool}{a:k0}{vs:LV}{ts:LT}{S S':gB},H a=jr (.lst vs)->F a=kv->Trs K F H st vs ts S'->¬ S' a->(∀b,S b↔b=a∨S' b)->R st vs ts S'->P st (.ref a) (.lst ts) S)
    (tup:∀{st:Bool}{a:k0}{vs:LV}{ts:LT}{S S':gB},H a=jr (.tup vs)->F a=kv->Trs K F H st vs ts S'->¬ S' a->(∀b,S b↔b=a∨S' b)->R st vs ts S'->P st (.ref a) (.tup ts) S)
    (y:∀{a:k0}{vs:LV}{ds:List D}{S:gB},rC K F a vs->Reps K F vs ds->(∀b,¬ S b)->P kb (.ref a) (.lst (ds.map T.d)) S)
    (dct:∀{st b:Bool}{a:k0}{o:HO}{ks:List D}{vs:LV}{ts:LT}{S S':gB},H a=jr o->jL K F b o ks vs->F a=kv->Trs K F H st vs ts S'->¬ S' a->(∀b,S b↔b=a∨S' b)->R st vs ts S'->P st (.ref a) (.dct b ks ts) S)
    (u:∀{st:Bool}{S:gB},(∀b,¬ S b)->R st [] [] S)
    (z:∀{st:Bool}{v:V}{t:T}{vs:LV}{ts:LT}{S S1 k:gB},Tr K F H st v t S1->Trs K F H st vs ts k->(∀b,S1 b->¬ k b)->(∀b,S b↔S1 b∨k b)->P st v t S1->R st vs ts k->R st (v::vs) (t::ts) S) :
    (∀{st:Bool}{v:V}{t:T}{S:gB},Tr K F H st v t S->P st v t S)/\∀{st:Bool}{vs:LV}{ts:LT}{S:gB},Trs K F H st vs ts S->R st vs ts S :=
  #[λh=>Tr.rec (motive_1:=λst v t S _=>P st v t S) (motive_2:=λst vs ts S _=>R st vs ts S) @d @lst @tup @y @dct @u @z h,
   λh=>Trs.rec (motive_1:=λst v t S _=>P st v t S) (motive_2:=λst vs ts S _=>R st vs ts S) @d @lst @tup @y @dct @u @z h]
theorem Tr.mono2(e:Same F w):(∀{st:Bool}{v:V}{t:T}{S:gB},Tr K F H st v t S->(∀b,S b->c b=H b/\w b=kv)->Tr K w c st v t S)/\∀{st:Bool}{vs:LV}{ts:LT}{S:gB},Trs K F H st vs ts S->(∀b,S b->c b=H b/\w b=kv)->Trs K w c st vs ts S :=
 Tr.both (P:=λst v t S=>(∀b,S b->c b=H b/\w b=kv)->Tr K w c st v t S) (R:=λst v t S=>(∀b,S b->c b=H b/\w b=kv)->Trs K w c st v t S)
  (λr n _=>.d (r.mono e) n)
  (λ{_ a _ _ _ _} h _ _ n q x k=>.lst ((k a ((q a).mpr (.inl rfl))).1.trans h) (k a ((q a).mpr (.inl rfl))).2 (x λb hb=>k b ((q b).mpr (.inr hb))) n q)
  (λ{_ a _ _ _ _} h _ _ n q x k=>.tup ((k a ((q a).mpr (.inl rfl))).1.trans h) (k a ((q a).mpr (.inl rfl))).2 (x λb hb=>k b ((q b).mpr (.inr hb))) n q)
  (λh r n _=>.lstF (e.seq h) (r.mono e) n)
  (λ{_ _ a _ _ _ _ _ _} h u _ _ n q x k=>.dct ((k a ((q a).mpr (.inl rfl))).1.trans h) (u.mono e) (k a ((q a).mpr (.inl rfl))).2 (x λb hb=>k b ((q b).mpr (.inr hb))) n q)
  (λn _=>.nil n)
  (λ_ _ n q z y k=>.cons (z λb hb=>k b ((q b).mpr (.inl hb))) (y λb hb=>k b ((q b).mpr (.inr hb))) n q)
theorem Tr.mono(e:Same F w)(h:Tr K F H st v t S)(k:∀b,S b->c b=H b/\w b=kv):Tr K w c st v t S:=(Tr.mono2 e).1 h k
theorem Trs.mono(e:Same F w)(h:Trs K F H st vs ts S)(k:∀b,S b->c b=H b/\w b=kv):Trs K w c st vs ts S:=(Tr.mono2 e).2 h k
theorem Tr.weak2:(∀{st:Bool}{v:V}{t:T}{S:gB},Tr K F H st v t S->Tr K F H kb v t S)/\∀{st:Bool}{vs:LV}{ts:LT}{S:gB},Trs K F H st vs ts S->Trs K F H kb vs ts S :=
 Tr.both (P:=λ_ v t S=>Tr K F H kb v t S) (R:=λ_ v t S=>Trs K F H kb v t S) .d (λh f _ n q x=>.lst h f x n q) (λh f _ n q x=>.tup h f x n q) .lstF (λh u f _ n q x=>.dct h u f x n q) .nil λ_ _ n q z y=>.cons z y n q
theorem Tr.weak(h:Tr K F H st v t S):Tr K F H kb v t S:=Tr.weak2.1 h
theorem Trs.weak(h:Trs K F H st vs ts S):Trs K F H kb vs ts S:=Tr.weak2.2 h
theorem Va{C:gB}{a:k0}{S':gB}(q:∀b,S b↔b=a∨S' b)(h:C a)(k:∀b,S' b->C b)(b:k0)(hb:S b):C b:=((q b).mp hb).elim (λe=>e▸h) (k b)
theorem Tr.dom2:(∀{st:Bool}{v:V}{t:T}{S:gB},Tr K F H st v t S->∀b,S b->H b≠kv/\F b=kv)/\∀{st:Bool}{vs:LV}{ts:LT}{S:gB},Trs K F H st vs ts S->∀b,S b->H b≠kv/\F b=kv :=
 have y:∀{a:k0}{o:HO},H a=jr o->H a≠none:=λh z=>by rw[h]at z;cases z
 Tr.both (P:=λ_ _ _ S=>∀b,S b->H b≠kv/\F b=kv) (R:=λ_ _ _ S=>∀b,S b->H b≠kv/\F b=kv)
  (λ_ n b hb=>i2 hb (n b)) (λh f _ _ q x=>Va q #[y h,f] x) (λh f _ _ q x=>Va q #[y h,f] x) (λ_ _ n b hb=>i2 hb (n b)) (λh _ f _ _ q x=>Va q #[y h,f] x)
  (λn b hb=>i2 hb (n b)) λ_ _ _ q k u b hb=>((q b).mp hb).elim (k b) (u b)
theorem Tr.dom(h:Tr K F H st v t S):∀b,S b->H b≠kv/\F b=none:=Tr.dom2.1 h
theorem Trs.dom(h:Trs K F H st vs ts S):∀b,S b->H b≠kv/\F b=none:=Tr.dom2.2 h
theorem Tr.kept2(e:Same F w):(∀{st:Bool}{v:V}{t:T}{S:gB},Tr K F H st v t S->(∀b u,S b->H b=jr u->w b=jr u)->Rep K w v t.er)/\∀{st:Bool}{vs:LV}{ts:LT}{S:gB},Trs K F H st vs ts S->(∀b u,S b->H b=jr u->w b=jr u)->Reps K w vs (ersT ts) :=
 Tr.both (P:=λ_ v t S=>(∀b u,S b->H b=jr u->w b=jr u)->Rep K w v t.er) (R:=λ_ v t S=>(∀b u,S b->H b=jr u->w b=jr u)->Reps K w v (ersT t))
  (λr _ _=>r.mono e)
  (λ{_ a _ _ _ _} h _ _ _ q x k=>by unfold T.er;exact .lst (rC.of (k a _ ((q a).mpr (.inl rfl)) h)) (x λb u hb=>k b u ((q b).mpr (.inr hb))))
  (λ{_ a _ _ _ _} h _ _ _ q x k=>by unfold T.er;exact .tup (CD.of (k a _ ((q a).mpr (.inl rfl)) h)) (x λb u hb=>k b u ((q b).mpr (.inr hb))))
  (λh r _ _=>by unfold T.er;rw[fB];exact .lst (e.seq h) (r.mono e))
  (λ{_ _ a _ _ _ _ _ _} h f _ _ _ q x k=>by unfold T.er;exact .dct (k a _ ((q a).mpr (.inl rfl)) h) (f.mono e) (x λb u hb=>k b u ((q b).mpr (.inr hb))))
  (λ_ _=>.nil)
  (λ_ _ _ q z y k=>.cons (z λb u hb=>k b u ((q b).mpr (.inl hb))) (y λb u hb=>k b u ((q b).mpr (.inr hb))))
theorem Tr.kept(e:Same F w)(h:Tr K F H st v t S)(k:∀b u,S b->H b=jr u->w b=jr u):Rep K w v t.er:=(Tr.kept2 e).1 h k
theorem Tr.rep(f:Same F H)(h:Tr K F H st v t S):Rep K H v t.er:=h.kept f λ_ _ _ e=>e
theorem Trs.ind(z:∀{st:Bool}{S:gB},(∀b,¬ S b)->R st [] [] S)
  (x:∀{st:Bool}{v:V}{t:T}{vs:LV}{ts:LT}{S S1 y:gB},Tr K F H st v t S1->Trs K F H st vs ts y->(∀b,S1 b->¬ y b)->(∀b,S b↔S1 b∨y b)->R st vs ts y->R st (v::vs) (t::ts) S) (h:Trs K F H st vs ts S):R st vs ts S :=
 (Tr.both (P:=λ_ _ _ _=>True) (λ_ _=>trivial) (λ_ _ _ _ _ _=>trivial) (λ_ _ _ _ _ _=>trivial) (λ_ _ _=>trivial) (λ_ _ _ _ _ _ _=>trivial) z λh t n q _ r=>x h t n q r).2 h
theorem Trs.length(h:Trs K F H st vs ts S):vs.9=ts.length:=Trs.ind (R:=λ_ vs ts _=>vs.9=ts.9) (λ_=>rfl) (λ_ _ _ _ e=>o9 Nat.succ e) h
theorem Trs.of_reps(h:Reps K F vs ds):Trs K F H st vs (ds.map T.d) (λ_=>False) :=
 Reps.ind (R:=λvs ds=>Trs K F H st vs (ds.map T.d) λ_=>False) (.nil λ_ z=>z) (λh t=>.cons (.d h λ_ z=>z) t (λ_ z=>z.elim) λb=>by simp) h
theorem Trs.un(h:Trs K F H st vs ts S)(e:GG ts=jr ds):Reps K F vs ds/\∀b,¬ S b:=by
 have u:=ZM e;clear e;revert ds;refine Trs.ind (R:=λ_ vs ts S=>∀{ds:List D},ts=ds.map T.d->Reps K F vs ds/\∀b,¬ S b) (λn ds e=>?_) (λh _ _ q x ds e=>?_) h;cases ds with|nil=>exact#[.nil,n]|cons d r=>cases e
 cases ds with
 |nil=>cases e|cons d r =>
  injection e with e1 e2;let#[z,y]:=x e2;subst e1;cases h with|d rep m=>exact#[.cons rep z,λb hb=>((q b).mp hb).elim (m b) (y b)]
theorem Trs.get{i:Nat}(h:Trs K F H st vs ts S)(e:ts[i]?=jr t):∃v S1,vs[i]?=jr v/\Tr K F H st v t S1/\∀b,S1 b->S b:=by
 revert i;refine Trs.ind (R:=λst vs ts S=>∀{i:Nat},ts[i]?=jr t->∃v S1,vs[i]?=jr v/\Tr K F H st v t S1/\∀b,S1 b->S b) (λn i e=>by cases e) (λh _ n q x i e=>?_) h;cases i with|zero=>cases e;exact#[_,_,rfl,h,λb hb=>(q b).mpr (.inl hb)]|succ i=>let#[v,S1,u,z,y]:=x (i:=i) e;exact#[v,S1,u,z,λb hb=>(q b).mpr (.inr (y b hb))]
theorem Trs.at(r:Trs K F H st vs ts S)(h:PC ts i=jr t):∃v S1,PC vs i=jr v/\Tr K F H st v t S1/\∀b,S1 b->S b:=by
 unfold PC at h ⊢;rw[r.9];cases e:HS ts.9 i with|none=>rw[e]at h;cases h|some j=>rw[e]at h;exact r.get h
theorem Trs.append{ws:LV}{us:LT}{S1 x:gB}(h:Trs K F H st vs ts S1)(r:Trs K F H st ws us x)(k:∀b,S1 b->¬ x b):Trs K F H st (vs++ws) (ts++us) (λb=>S1 b∨x b) :=
 Trs.ind (R:=λst vs ts S1=>Trs K F H st ws us x->(∀b,S1 b->¬ x b)->Trs K F H st (vs++ws) (ts++us) λb=>S1 b∨x b)
  (λ{_ S} n r _=>by have e:(λb=>S b∨x b)=x:=funext λb=>i3 #[λz=>z.resolve_left (n b),.inr];rw[e];exact r)
  (λh _ n q y r k=>.cons h (y r λb hb=>k b ((q b).mpr (.inr hb))) (λb hb z=>z.elim (n b hb) (k b ((q b).mpr (.inl hb)))) λb=>by rw[q b,or_assoc]) h r k
theorem Trs.one(h:Tr K F H st v t S):Trs K F H st [v] [t] S:=.cons h (.nil (S:=λ_=>False) λ_ z=>z) (λ_ _ z=>z) λb=>by simp
theorem PH(e:(T.d (.dict kvs)).vw=.ls ts):False:=by
 have e:DB kvs=.ls ts:=e;unfold DB at e;cases h:FC kvs with|none=>rw[h]at e;cases e|some b=>rw[h]at e;cases e
theorem tM(e:(T.d (.dict kvs)).vw=.tp ts):False:=by
 have e:DB kvs=.tp ts:=e;unfold DB at e;cases h:FC kvs with|none=>rw[h]at e;cases e|some b=>rw[h]at e;cases e
theorem Tr.ls(f:Same F H)(h:Tr K F H st v t S)(e:t.vw=.ls ts):∃a vs S',v=.ref a/\rC K H a vs/\Trs K F H kb vs ts S'/\∀b,S' b->S b:=by
 cases h with
 |d r n =>
  cases r with|lst q r=>injection e with e;subst e;exact#[_,_,_,rfl,f.seq q,Trs.of_reps r,λb hb=>hb.elim]|dct _ _ _=>exact(PH e).elim|_=>cases e
 |lst h _ r n q=>injection e with e;subst e;exact#[_,_,_,rfl,rC.of h,r.weak,λb hb=>(q b).mpr (.inr hb)]|tup=>cases e|dct=>cases e|lstF h r n=>injection e with e;subst e;exact#[_,_,_,rfl,f.seq h,Trs.of_reps r,λb hb=>hb.elim]
theorem Tr.tp(f:Same F H)(h:Tr K F H st v t S)(e:t.vw=.tp ts):∃a vs S',v=.ref a/\CD K H a vs/\Trs K F H kb vs ts S'/\∀b,S' b->S b:=by
 cases h with
 |d r n =>
  cases r with|tup q r=>injection e with e;subst e;exact#[_,_,_,rfl,f.tupl q,Trs.of_reps r,λb hb=>hb.elim]|dct _ _ _=>exact(tM e).elim|_=>cases e
 |tup h _ r n q=>injection e with e;subst e;exact#[_,_,_,rfl,CD.of h,r.weak,λb hb=>(q b).mpr (.inr hb)]|lst=>cases e|lstF=>cases e|dct=>cases e
theorem sZ{u:Bool}{o:HO}(h:jL K H u o ks vs)(e:FC (ks.zip ds)=jr b):u=b:=by
 cases ks with
 |nil=>cases e|cons k ks =>
  cases ds with
  |nil=>cases e|cons d ds =>
   cases u with
   |true =>
    let#[m,kvs,_,y,_,g,_]:=h;cases kvs with
    |nil=>cases y|cons p r =>
     have a:=(g p QF).1;let#[f,n,j]:=p;cases f with|s x=>cases a|t l=>rw[QS]at y;injection y with y _;subst y;injection e
   |false =>
    rcases h with⟨kvs,_,_,y,_⟩| ⟨_,_,y,_⟩
    rotate_left
    cases y;cases kvs with
    |nil=>cases y|cons p r =>
     rw[QS]at y;injection y with y _;subst y;let#[k,v]:=p;cases k with|inl i=>cases e|inr z=>injection e
theorem Tr.dc(f:Same F H)(h:Tr K F H st v t S)(e:t.vw=.dc b ks ts):∃a o vs S',v=.ref a/\H a=jr o/\jL K F b o ks vs/\Trs K F H kb vs ts S'/\(∀b,S' b->S b)/\∀w c,Same F w->Same w c->(∀b,S b->c b=H b)->c a=jr o:=by
 cases h with
 |d r n =>
  cases r with
  |@dct X a o y l ds h q r =>
   have hl:y.9=ds.length:=by rw[q.len,Reps.length r]
   have g:(y.zip ds).map (λx=>x.1)=y:=Wx (w4 hl);have u:(y.zip ds).map (λx=>x.2)=ds:=WK (w4 hl.symm);have e:DB (y.zip ds)=.dc b ks ts:=e;unfold DB at e;cases z:FC (y.zip ds) with
   |none=>rw[z]at e;cases e|some p =>
    rw[z]at e;injection e with z1 z2 z3;subst z1;rw[g]at z2;subst z2;have m:ts=ds.map T.d:=by have j:=o9 (List.map T.d) u;rw[Qb]at j;rw[<- z3,<- j];rfl
    subst m;cases sZ q z;exact#[_,_,_,_,rfl,f _ _ h,q,Trs.of_reps r,λb hb=>hb.elim,λw c g u _=>u _ _ (g _ _ h)]
  |_=>cases e
 |dct h q _ r n s=>injection e with z1 z2 z3;subst z1 z2 z3;exact#[_,_,_,_,rfl,h,q,r.weak,λb hb=>(s b).mpr (.inr hb),λw c _ _ k=>(k _ ((s _).mpr (.inl rfl))).trans h]|lst=>cases e|tup=>cases e|lstF=>cases e
theorem Tr.sc{x:D}(h:Tr K F H st v t S)(e:t.vw=.sc x):t=.d x/\Rep K F v x:=by
 cases h with
 |@d _ _ y _ r n =>
  cases y with
  |list ds=>cases e|tuple ds=>cases e|dict ds =>
   have e:DB ds=.sc x:=e;unfold DB at e;cases z:FC ds with|none=>rw[z]at e;injection e with e;subst e;exact#[rfl,r]|some b=>rw[z]at e;cases e
  |_=>injection e with e;subst e;exact#[rfl,r]
 |tup=>cases e|lst=>cases e|lstF=>cases e|dct=>cases e
theorem Tr.int(h:Tr K F H st v t S)(e:t.vw=.sc (.int i)):v=.int i:=by let#[_,r]:=h.sc e;cases r;rfl
theorem Tr.str{i:Str}(h:Tr K F H st v t S)(e:t.vw=.sc (.str i)):v=.str i:=by let#[_,r]:=h.sc e;cases r;rfl
end
end
def Sl.t:Sl->T
 | .own t=>t|.bor t=>t
def Sl.st:Sl->Bool
 | .own _=>kf|.bor _=>kb
noncomputable abbrev Ft:=Nat->k0->Prop
structure Rl(K:QA)(F H:Hp)(S:Ft)(ρ:xA)(σ:St):Prop where
 fh:Same F H
 len:ρ.9=σ.9
 sl:∀(i:Nat) s,ρ[i]?=jr (jr s)->∃v,σ[i]?=jr (jr v)/\Tr K F H s.st v s.t (S i)
 dj:∀(i j:Nat) t s,i≠j->ρ[i]?=jr (jr (.own t))->ρ[j]?=jr (jr s)->∀b,S i b->¬ S j b
def U(ρ:xA)(S:Ft)(b:k0):Prop:=∃(i:Nat) (t:T),ρ[i]?=jr (jr (.own t))/\S i b
structure Stp(F H:Hp)(S:Ft)(ρ:xA)(F' H':Hp)(S':Ft)(ρ':xA):Prop where
 ff:Same F F'
 hh:∀b u,H b=jr u->¬ U ρ S b->H' b=jr u
 dm:∀b,H' b=kv->H b=kv
 fn:∀b,F b=kv->F' b≠kv->U ρ S b∨H b=kv
 uu:∀b,U ρ' S' b->U ρ S b∨H b=kv
 bo:∀(j:Nat) t,ρ'[j]?=jr (jr (.bor t))->t.isD=kb->ρ[j]?=jr (jr (.bor t))/\S' j=S j
structure Ste(F H:Hp)(S:Ft)(ρ:xA)(F' H':Hp)(S':Ft)(ρ':xA):Prop extends Stp F H S ρ F' H' S' ρ' where
 ow:∀(j:Nat) t,ρ'[j]?=jr (jr (.own t))->∃t0,ρ[j]?=jr (jr (.own t0))
section
variable{K:QA}{F H X m B E:Hp}{S S1 C:Ft}{ρ l A:xA}{σ:St}
section
variable{v:V}{t:T}{Z W:gB}{i:Nat}{s:Sl}{b p:k0}{vs:LN}{g:Hp}{c:Ft}{y:xA}{n:Bool}
theorem Stp.refl:Stp F H S ρ F H S ρ:=#[.refl _,λ_ _ h _=>h,λ_ h=>h,λb h z=>i2 h z,λ_ h=>.inl h,λ_ _ h _=>#[h,rfl]]
theorem Ste.refl:Ste F H S ρ F H S ρ:=#[Stp.refl,λ_ t h=>#[t,h]]
theorem Stp.trans(a:Stp F H S ρ X m S1 l)(b:Stp X m S1 l B E C A):Stp F H S ρ B E C A where
 ff:=a.ff.trans b.ff
 hh:=λx u h n=>b.hh x u (a.hh x u h n) λz=>by rcases a.uu x z with q|q;exact n q;rw[q]at h;cases h
 dm:=λx h=>a.dm x (b.dm x h)
 fn:=λx h z=>by
  by_cases q:X x=kv;rcases b.fn x q z with w|w
  ·exact a.uu x w
  exact .inr (a.dm x w);exact a.fn x h q
 uu:=λx h=>by rcases b.uu x h with w|w;exact a.uu x w;exact .inr (a.dm x w)
 bo:=λj t h n=>by let#[o,f]:=b.bo j t h n;let#[e,k]:=a.bo j t o n;exact#[e,f.trans k]
theorem Ste.trans(a:Ste F H S ρ X m S1 l)(b:Ste X m S1 l B E C A):Ste F H S ρ B E C A:=#[a.toStp.trans b.toStp,λj t h=>by let#[x,z]:=b.ow j t h;exact a.ow j x z]
theorem Stp.keep(s:Stp F H S ρ X m S1 l){st:Bool}(h:Tr K F H st v t Z)(n:∀b,Z b->¬ U ρ S b):Tr K X m st v t Z :=
 h.mono s.ff λb hb=>by
  let#[x,w]:=h.dom b hb;refine#[?_,?_];cases e:H b with|none=>exact i2 e x|some u=>exact s.hh b u e (n b hb)
  by_cases q:X b=kv
  ·exact q
  rcases s.fn b w q with z|z
  ·exact i2 z (n b hb)
  exact i2 z x
theorem Rl.dom(I:Rl K F H S ρ σ)(h:ρ[i]?=jr (jr s))(hb:S i b):H b≠kv/\F b=none:=by let#[v,_,r]:=I.sl i s h;exact r.dom b hb
theorem Rl.isD(I:Rl K F H S ρ σ)(h:ρ[i]?=jr (jr s))(x:s.t.isD=kf):¬ S i b:=by
 let#[v,_,r]:=I.sl i s h;generalize s.t=t at r x;generalize s.st=st at r;cases r with|d r n=>exact n b|_=>cases x
structure Held(F H:Hp)(S:Ft)(ρ:xA)(Z:gB):Prop where
 dom:∀b,Z b->H b≠kv/\F b=kv
 nw:∀(i:Nat) s,ρ[i]?=jr (jr s)->∀b,Z b->¬ S i b
theorem Held.nu(h:Held F H S ρ Z):∀b,Z b->¬ U ρ S b:=λb hb #[i,t,z,x]=>h.nw i _ z b hb x
theorem Held.step(h:Held F H S ρ Z)(s:Stp F H S ρ X m S1 l)(j:Rl K X m S1 l σ):Held X m S1 l Z where
 dom:=λb hb=>by
  let#[u,k]:=h.dom b hb;refine#[λz=>u (s.dm b z),?_];by_cases q:X b=kv;exact q;rcases s.fn b k q with z|z
  ·exact i2 z (h.nu b hb)
  exact i2 z u
 nw:=λi w e b hb z=>by
  cases w with
  |own t=>rcases s.uu b ⟨i,t,e,z⟩ with q|q;exact h.nu b hb q;exact(h.dom b hb).1 q
  |bor t =>
   cases x:t.isD with|true=>exact j.isD e x z|false=>let#[f,a]:=s.bo i t e x;rw[a]at z;exact h.nw i _ f b hb z
theorem Held.none:Held F H S ρ λ_=>False:=#[λ_ z=>z.elim,λ_ _ _ _ z=>z.elim]
theorem Held.or{Y:gB}(a:Held F H S ρ Z)(b:Held F H S ρ Y):Held F H S ρ λx=>Z x∨Y x:=#[λx h=>h.elim (a.dom x) (b.dom x),λi s e x h=>h.elim (a.nw i s e x) (b.nw i s e x)]
noncomputable def rJ(F H:Hp)(W:gB):Hp:=open Classical in λb=>if W b then H b else F b
theorem pJ(h:W b):rJ F H W b=H b:=i0 h
theorem oC(h:¬ W b):rJ F H W b=F b:=ii h
theorem vH(h:∀b,W b->F b=kv):Same F (rJ F H W):=λb u e=>by rw[oC λz=>by rw[h b z]at e;cases e];exact e
theorem rf(f:Same F H):Same (rJ F H W) H:=λb u e=>by by_cases hb:W b;rw[pJ hb]at e;exact e;rw[oC hb]at e;exact f b u e
theorem Rl.frz(I:Rl K F H S ρ σ){W:gB}(h:Held F H S ρ W):Rl K (rJ F H W) H S ρ σ where
 fh:=rf I.fh
 len:=I.len
 sl:=λi s e=>by let#[v,u,x]:=I.sl i s e;refine#[v,u,x.mono (vH λb hb=>(h.dom b hb).2) λb hb=>#[rfl,?_]];rw[oC λz=>h.nw i s e b z hb];exact(x.dom b hb).2
 dj:=I.dj
theorem Stp.frz(s:Stp F H S ρ X m S1 l){W:gB}(x:∀b,W b->X b=kv)(fr:∀b,W b->H b=kv∨U ρ S b):Stp F H S ρ (rJ X m W) m S1 l :=
 #[s.ff.trans (vH x),s.hh,s.dm,λb h z=>by by_cases q:W b;exact(fr b q).symm;rw[oC q]at z;exact s.fn b h z,s.uu,s.bo]
theorem Ste.frz(s:Ste F H S ρ X m S1 l){W:gB}(h:∀b,W b->X b=kv)(fr:∀b,W b->H b=kv∨U ρ S b):Ste F H S ρ (rJ X m W) m S1 l:=#[s.toStp.frz h fr,s.ow]
theorem Stp.new(s:Stp F H S ρ X m S1 l){p:k0}(h:m p=kv)(o:HO):Stp F H S ρ X (FA m p o) S1 l :=
 #[s.ff,λb u e n=>OB h b u (s.hh b u e n),λb e=>by by_cases hb:b=p;rw[hb,YA]at e;cases e;rw[uA hb]at e;exact s.dm b e,s.fn,s.uu,s.bo]
theorem Ste.new(s:Ste F H S ρ X m S1 l){p:k0}(h:m p=kv)(o:HO):Ste F H S ρ X (FA m p o) S1 l:=#[s.toStp.new h o,s.ow]
theorem Rl.same(I:Rl K F H S ρ σ)(h:Same H m):Rl K F m S ρ σ where
 fh:=I.fh.trans h
 len:=I.len
 sl:=λi s e=>by
  let#[v,z,x]:=I.sl i s e;refine#[v,z,x.mono (.refl _) λb hb=>#[?_,(x.dom b hb).2]];cases e:H b with|none=>exact i2 e (x.dom b hb).1|some u=>exact h b u e
 dj:=I.dj
theorem Rl.new(I:Rl K F H S ρ σ){p:k0}(h:H p=kv)(o:HO):Rl K F (FA H p o) S ρ σ:=I.same (OB h)
theorem Stp.newT(s:Stp F H S ρ X m S1 l)(h:m p=kv)(u:X p=kv)(o:HO):Stp F H S ρ (FA X p o) (FA m p o) S1 l :=
 let x:=s.new h o
 #[s.ff.trans (OB u),x.hh,x.dm,λb e z=>by by_cases hb:b=p;rw[hb];exact .inr (s.dm p h);rw[uA hb]at z;exact s.fn b e z,s.uu,s.bo]
theorem Ste.newT(s:Ste F H S ρ X m S1 l)(h:m p=kv)(x:X p=kv)(o:HO):Ste F H S ρ (FA X p o) (FA m p o) S1 l:=#[s.toStp.newT h x o,s.ow]
theorem Rl.newT(I:Rl K F H S ρ σ)(h:H p=kv)(o:HO):Rl K (FA F p o) (FA H p o) S ρ σ where
 fh:=λb u e=>by by_cases hb:b=p;rw[hb,YA]at e ⊢;exact e;rw[uA hb]at e ⊢;exact I.fh b u e
 len:=I.len
 sl:=λi s e=>by let#[v,k,x]:=I.sl i s e;refine#[v,k,x.mono (OB (I.fh.free h)) λb hb=>?_];have w:b≠p:=λz=>(x.dom b hb).1 (by rw[z];exact h);rw[uA w,uA w];exact#[rfl,(x.dom b hb).2]
 dj:=I.dj
theorem O3(ρ:xA)(i:Nat):(lockA ρ)[i]?=ρ[i]?.map dG:=by unfold lockA;rw[QX]
theorem iB{ρ:xA}(h:(lockA ρ)[i]?=jr (jr s)):∃x,ρ[i]?=jr (jr x)/\s=.bor x.t:=by
 rw[O3]at h;cases e:ρ[i]? with
 |none=>rw[e]at h;cases h|some o =>
  rw[e]at h;cases o with
  |none=>cases h|some x =>
   cases x with|own t=>injection h with h;injection h with h;subst h;exact#[_,rfl,rfl]|bor t=>injection h with h;injection h with h;subst h;exact#[_,rfl,rfl]
theorem xD(b:k0):¬ U (lockA ρ) S b:=λ#[i,t,h,_]=>by let#[x,_,e]:=iB h;cases e
theorem Rl.lockA(I:Rl K F H S ρ σ):Rl K F H S (lockA ρ) σ where
 fh:=I.fh
 len:=by unfold L3.lockA;rw[QD];exact I.len
 sl:=λi s e=>by let#[x,h,rfl]:=iB e;let#[v,u,z]:=I.sl i x h;exact#[v,u,z.weak]
 dj:=λi j t s _ h=>by let#[x,_,e]:=iB h;cases e
theorem Stp.unlockA(s:Stp F H S (L3.lockA ρ) X m S1 l):Stp F H S ρ X m S ρ :=
 #[s.ff,λb u e _=>s.hh b u e (xD b),s.dm,λb h z=>(s.fn b h z).elim (λq=>i2 q (xD b)) .inr,λ_ h=>.inl h,λ_ _ h _=>#[h,rfl]]
theorem Rl.unlockA(I:Rl K F H S ρ σ)(s:Stp F H S (L3.lockA ρ) X m S1 l)(f:Same X m):Rl K X m S ρ σ where
 fh:=f
 len:=I.len
 sl:=λi sl e=>by let#[v,x,h]:=I.sl i sl e;exact#[v,x,s.keep h λb _=>xD b]
 dj:=I.dj
structure VR(K:QA)(vs:LN)(g:Hp)(c:Ft)(y:xA)(F H:Hp)(S:Ft)(ρ:xA)(v:V)(t:T)(n:Bool)(Z:gB):Prop where
 tr:Tr K F H n v t Z
 fr:n=kf->∀b,Z b->g b=kv∨U y c b
 tm:n=kb->∀b,Z b->∃(i:Nat) (s:Sl),i∈vs/\ρ[i]?=jr (jr s)/\S i b
 nw:n=kf->∀(i:Nat) s,ρ[i]?=jr (jr s)->∀b,Z b->¬ S i b
theorem VR.d{vs:LN}{g:Hp}{c:Ft}{y:xA}{v:V}{x:D}(n:Bool)(r:Rep K F v x):VR K vs g c y F H S ρ v (.d x) n (λ_=>False) :=
 #[.d r λ_ z=>z,λ_ _ z=>z.elim,λ_ _ z=>z.elim,λ_ _ _ _ _ z=>z.elim]
theorem VR.held(h:VR K vs g c y F H S ρ v t kf Z):Held F H S ρ Z:=#[λb hb=>h.tr.dom b hb,h.nw rfl]
theorem VR.vars{ws:LN}(h:VR K vs g c y F H S ρ v t n Z)(k:∀i∈vs,i∈ws):VR K ws g c y F H S ρ v t n Z :=
 #[h.tr,h.fr,λe b hb=>let#[i,s,z,x]:=h.tm e b hb;#[i,s,k i z,x],h.nw]
theorem VR.from(s:Stp F H S ρ X m S1 l)(h:VR K vs m S1 l B E C A v t n Z):VR K vs H S ρ B E C A v t n Z :=
 #[h.tr,λe b hb=>by rcases h.fr e b hb with q|q;exact .inl (s.dm b q);exact(s.uu b q).symm,h.tm,h.nw]
theorem VR.frz{vs:LN}{v:V}{t:T}{n:Bool}{Z:gB}(s:Ste F H S ρ X m S1 l)(I:Rl K X m S1 l σ)(h:VR K vs H S ρ X m S1 l v t n Z) :
  ∃B o,Ste F H S ρ B m S1 l/\Rl K B m S1 l σ/\Tr K B m kb v (gA t n) o/\(uH t n=kf->Rep K B v t.er)/\(∀b,o b->∃(i:Nat) (s:Sl),i∈vs/\l[i]?=jr (jr s)/\S1 i b) /\
   ∀st a t' k,Tr K X m st a t' k->(∀b,k b->∃(i:Nat) (s:Sl),l[i]?=jr (jr s)/\S1 i b)->Tr K B m st a t' k:=by
 cases n with
 |true =>
  have w:=h.held;have j:=vH (H:=m) λb hb=>(w.dom b hb).2;have f:=h.tr.kept j λb u hb e=>by rw[pJ hb];exact e
  refine#[rJ X m Z,λ_=>False,s.frz (λb hb=>(w.dom b hb).2) (h.fr rfl),I.frz w,.d f λ_ z=>z,λ_=>f,λb z=>z.elim,λst a t' k r G=>r.mono j λb hb=>#[rfl,?_]];let#[i,Y,L,J]:=G b hb;rw[oC λz=>w.nw i Y L b z J];exact(r.dom b hb).2
 |false =>
  refine#[X,Z,s,I,h.tr,?_,h.tm rfl,λ_ _ _ _ r _=>r];intro e;have q:=h.tr;cases t with
  |d x=>cases q with|d r n=>exact r
  |_=>cases e
end
end
noncomputable abbrev uB(K:QA)(vs:LN)(F H:Hp)(S:Ft)(ρ:xA)(σ:St)(Q:TK)(R:VK):Prop :=
 ∀v z x y h t n Z,Ste F H S ρ z x y h->Rl K z x y h σ->VR K vs H S ρ z x y h v t n Z->Q t n h->R v x
noncomputable abbrev LH(K:QA)(F H:Hp)(S:Ft)(ρ:xA)(σ:St)(Q:Bool->xA->Prop)(R:Bool->Hp->Prop):Prop :=
 ∀b z x y h,Ste F H S ρ z x y h->Rl K z x y h σ->Q b h->R b x
section
variable{K:QA}{ws:LN}{F H B A:Hp}{S S1:Ft}{ρ Y:xA}{σ:St}{v w:V}{a b:T}{J G:gB}{Q:TK}{R:VK}{E C:Bool}
section
variable{X o:Hp}{m:Ft}{u:xA}{p:k0}{vs:LV}{ds:List D}
theorem uB.from(k:uB K ws F H S ρ σ Q R)(s:Ste F H S ρ X o m u):uB K ws X o m u σ Q R:=λv f e y h t n Z x z r q=>k v f e y h t n Z (s.trans x) z (r.from s.toStp) q
theorem LH.from{Q:Bool->xA->Prop}{R:Bool->Hp->Prop}(k:LH K F H S ρ σ Q R)(s:Ste F H S ρ X o m u):LH K X o m u σ Q R:=λb f e y h x z q=>k b f e y h (s.trans x) z q
theorem uB.vars{us:LN}(k:uB K ws F H S ρ σ Q R)(h:∀i∈us,i∈ws):uB K us F H S ρ σ Q R:=λv e z y x t n Z s I r q=>k v e z y x t n Z s I (r.vars h) q
theorem uB.d(k:uB K ws F H S ρ σ Q R)(s:Ste F H S ρ B A S1 Y)(I:Rl K B A S1 Y σ){x:D}{n:Bool}(r:Rep K B v x)(q:Q (.d x) n Y):R v A:=k v B A S1 Y _ n _ s I (VR.d n r) q
theorem uB.list(k:uB K ws F H S ρ σ Q R)(s:Ste F H S ρ B A S1 Y)(I:Rl K B A S1 Y σ)(x:A p=kv){ts:LT}{W:gB}(r:Trs K B A kf vs ts W)
  (fr:∀b,W b->H b=kv∨U ρ S b) (y:Held B A S1 Y W) (q:Q (.lst ts) kf Y):R (.ref p) (FA A p (.lst vs)):=by
 have g:∀b,A b≠kv->b≠p:=λb h z=>h (by rw[z];exact x);refine k _ B _ S1 Y _ kf (λb=>b=p∨W b) (s.new x _) (I.new x _) #[.lst YA (I.fh.free x) (r.mono (.refl _) λb hb=>#[?_,(y.dom b hb).2]) (λz=>(y.dom p z).1 x) (λb=>WZ),λ_ b hb=>?_,λz=>(by cases z),λ_ i f e b hb z=>?_] q;rw[uA (g b (y.dom b hb).1)];rcases hb with rfl|hb
 ·exact .inl (s.dm _ x)
 exact fr b hb;rcases hb with rfl|hb
 ·exact(I.dom e z).1 x
 exact y.nw i f e b hb z
theorem uB.listD(k:uB K ws F H S ρ σ Q R)(s:Ste F H S ρ B A S1 Y)(I:Rl K B A S1 Y σ)(h:A p=kv)(r:Reps K B vs ds)(q:Q (.lst (ds.map T.d)) kf Y):R (.ref p) (FA A p (.lst vs)) :=
 k.list s I h (Trs.of_reps r) (λb z=>z.elim) .none q
theorem uB.tupD(k:uB K ws F H S ρ σ Q R)(s:Ste F H S ρ B A S1 Y)(I:Rl K B A S1 Y σ)(h:A p=kv){n:Bool}(r:Reps K B vs ds)(q:Q (.d (.tuple ds)) n Y):R (.ref p) (FA A p (.tup vs)) :=
 uB.d k (s.newT h (I.fh.free h) _) (I.newT h _) (.tup (CD.of YA) (r.mono (OB (I.fh.free h)))) q
theorem uB.tup(k:uB K ws F H S ρ σ Q R)(s:Ste F H S ρ B A S1 Y)(I:Rl K B A S1 Y σ){p:k0}(x:A p=kv){vs:LV}{ts:LT}{W:gB}(r:Trs K B A kf vs ts W)
  (fr:∀b,W b->H b=kv∨U ρ S b) (y:Held B A S1 Y W) (q:Q (SD ts) kf Y):R (.ref p) (FA A p (.tup vs)):=by
 unfold SD at q;cases e:GG ts with
 |some ds=>rw[e]at q;exact k.tupD s I x (r.un e).1 q|none =>
  rw[e]at q;have g:∀b,A b≠kv->b≠p:=λb h z=>h (by rw[z];exact x);refine k _ B _ S1 Y _ kf (λb=>b=p∨W b) (s.new x _) (I.new x _) #[.tup YA (I.fh.free x) (r.mono (.refl _) λb hb=>#[?_,(y.dom b hb).2]) (λz=>(y.dom p z).1 x) (λb=>WZ),λ_ b hb=>?_,λz=>(by cases z),λ_ i f e b hb z=>?_] q;rw[uA (g b (y.dom b hb).1)];rcases hb with rfl|hb
  ·exact .inl (s.dm _ x)
  exact fr b hb;rcases hb with rfl|hb
  ·exact(I.dom e z).1 x
  exact y.nw i f e b hb z
theorem Bo{W:g7}(s:Ste F H S ρ B A S1 Y)(I:Rl K B A S1 Y σ)(Z:Tr K B A E v a J)(r:Tr K B A C w b G)(h:binT W a.vw b.vw λz n=>Q z n Y)(k:uB K ws F H S ρ σ Q R):Pf K W v w A R:=by
 have g:∀{i j:Int},a.vw=.sc (.int i)->b.vw=.sc (.int j)->v=.int i/\w=.int j:=λf e=>#[Z.int f,r.int e]
 cases W with
 |Add =>
  rcases h with⟨i,j,f,e,h⟩| ⟨x,y,f,e,h⟩| ⟨P,N,ds,es,f,e,e1,e2,hl,q⟩
  let#[rfl,rfl]:=g f e;exact k.d s I (.int _) h;obtain rfl:=Z.str f;obtain rfl:=r.str e;exact#[h.1,k.d s I (.str _) h.2];let#[p,xs,_,rfl,hp,rp,_]:=Z.ls I.fh f;let#[p2,O,_,rfl,hq,rq,_]:=r.ls I.fh e;have M:=(rp.un e1).1;have L:=(rq.un e2).1;exact#[xs,O,hp,hq,by rw[M.9,L.9];exact hl,λl hl=>k.listD s I hl (M.append L) q]
 |Sub=>let#[i,j,f,e,h]:=h;let#[rfl,rfl]:=g f e;exact k.d s I (.int _) h|Mult=>let#[i,j,f,e,h]:=h;let#[rfl,rfl]:=g f e;exact#[h.1,k.d s I (.int _) h.2]|FloorDiv=>let#[i,j,f,e,h]:=h;let#[rfl,rfl]:=g f e;exact#[h.1,k.d s I (.int _) h.2]|Mod=>let#[i,j,f,e,h]:=h;let#[rfl,rfl]:=g f e;exact#[h.1,k.d s I (.int _) h.2]|_=>exact h.elim
theorem Xh{x y:D}{r:Bool->Prop}(neg:Bool)(e:Rep K A v x)(z:Rep K A w y)(h:lw x y λk=>r (if neg then !k else k))(k:∀c,r c->R (.bl c) A):rEq K neg v w A R:=by
 have n:JE x/\JE y/\r (if neg then !PyData.eqv x y else Ql x y)->(∃l f,Rep K A v l/\Rep K A w f/\JE l/\JE f/\R (.bl (if neg then !PyData.eqv l f else Ql l f)) A):=λ#[Z,s,q] =>
  #[x,y,e,z,Z,s,k _ q]
 unfold lw at h;split at h;cases e;cases z;exact k _ h;cases e;cases z;exact k _ h;cases e;cases z;exact k _ h;have g:=n h;rename_i n1 n2 n3;cases e with
 |int i =>
  cases z with|int j=>exact i2 rfl (n1 i j rfl)|_=>exact g
 |str i =>
  cases z with|str j=>exact i2 rfl (n2 i j rfl)|_=>exact g
 |bl i =>
  cases z with|bl j=>exact i2 rfl (n3 i j rfl)|_=>exact g
 |_=>exact g
theorem X9{F:Hp}{v w:V}{a b:D}(x:Rep K F v a)(h:Rep K F w b)(z:rB a=kf)(y:rB b=kf):af v w=Ql a b:=by cases x<;>cases h<;>first|exact i2 (show kb=kf from z) QG|exact i2 (show kb=kf from y) QG | (simp only[Ql];rfl) | (simp only[Ql])
theorem tX{F:Hp}{v:V}{a:D}(h:Rep K F v a)(x:rB a=kf):nG v=true:=by cases h<;>first|rfl|exact i2 (show kb=kf from x) QG
theorem DU{F:Hp}(h:Reps K F vs ds)(f:ds.all rB=kf):vs.all nG=kf :=
 Reps.ind (R:=λvs ds=>ds.all rB=kf->vs.all nG=kf) (λ_=>rfl) (λh x f=>by rw[qi,Qa]at f ⊢;exact#[tX h f.1,x f.2]) h f
theorem NN{F:Hp}{v:V}{a:D}(x:Rep K F v a)(z:rB a=kf):∀{vs:LV}{ds:List D},Reps K F vs ds->ds.all rB=kf->inV v vs=ds.any λy=>Ql y a
 |_,_,.nil,_=>rfl|_,_,.cons h t,f=>by rw[qi,Qa]at f;have e:=NN x z t f.2;unfold inV at e ⊢;rw[WC,WC,X9 h x f.1 z,e]
end
mutual
theorem MY{F:Hp}:∀{k:NK}{v:V},Rep K F v (tD k)->yp K F k v
 | .s x,v,h=>by have h:Rep K F v (.str x):=h;cases h;rfl|.t ks,v,h=>by
  have h:Rep K F v (.tuple (tDs ks)):=h;cases h with|tup z y=>exact#[_,_,rfl,z,reps_key y]
theorem reps_key{F:Hp}:∀{ks:List NK}{vs:LV},Reps K F vs (tDs ks)->KyVs K F ks vs
 |[],vs,h=>by have h:Reps K F vs []:=h;cases h;rfl|k::ks,vs,h=>by
  have h:Reps K F vs (tD k::tDs ks):=h;cases h with|cons h t=>exact#[_,_,rfl,MY h,reps_key t]
end
section
variable{k x y:D}{o:HO}{ks ds:List D}{vs xs:LV}{X:Bool->Prop}{U:fm}{W:Bool->Hp->Prop}{n:String}{Y:gB}{ts:LT}
theorem NR{F:Hp}{v:V}(hk:aD kf k)(r:Rep K F v k):∃q p,k=tD q/\v=.ref p/\xP K F p q:=by let#[q,rfl,h]:=hk;have r:=MY r;let#[p,_,rfl,_]:=id r;exact#[_,p,rfl,rfl,r,h]
theorem FG(q:NK):∀(kvs:List KE),fH kvs q=(cA (kvs.map λp=>tD p.1) (tD q)).bind λn=>(kvs.map (·.2.2))[n]?
 |[]=>rfl|p::r=>by rw[QS,QS];unfold cA;by_cases e:p.1=q;rw[IS e,i0 (by rw[e])];rfl;rw[jT e,ii λz=>e (kW z),FG q r];cases cA (r.map λp=>tD p.1) (tD q)<;>rfl
theorem IJ(q:Key):∀(kvs:List (Key×V)),iM kvs q=(cA (kvs.map λp=>kD p.1) (kD q)).bind λn=>(kvs.map (·.2))[n]?
 |[]=>rfl|p::r=>by rw[QS,QS];unfold cA;by_cases e:p.1=q;rw[aM e,i0 (by rw[e])];rfl;rw[eM e,ii λz=>e (k9 z),IJ q r];cases cA (r.map λp=>kD p.1) (kD q)<;>rfl
theorem jL.get{a:k0}{b:Bool}(u:H1 a=jr o)(q:jL K H1 b o ks vs)(e:Rep K H1 w k)(hk:aD b k):US K H1 a w ((cA ks k).bind λn=>vs[n]?):=by
 cases b with
 |true=>let#[v,h,rfl,rfl,rfl,g,_]:=q;let#[q,p,rfl,rfl,f]:=NR hk e;exact#[v,h,q,u,g,f,(FG q h).symm]|false =>
  let#[z,rfl]:=hk;cases e;rcases q with⟨h,_,rfl,rfl,rfl,_⟩| ⟨v,rfl,rfl,rfl⟩
  exact .inl #[h,u,(IJ (.inr z) h).symm];exact .inr #[v,u,rfl]
theorem FU{b:Bool}(q:jL K H1 b o ks vs):((cA ks k).bind λn=>vs[n]?).isSome=(cA ks k).isSome:=by
 cases e:cA ks k with
 |none=>rfl|some n =>
  have z:=(Qg.mp (HC e)).1;have h:n<vs.length:=by rw[<- q.len];exact z
  simp[h]
theorem lX{b neg:Bool}{a:k0}(u:H1 a=jr o)(q:jL K H1 b o ks vs)(z:Rep K H1 v x)(hk:aD b x)(h:R (.bl (if neg then !(cA ks x).isSome else(cA ks x).isSome)) H1):YT K neg v (.ref a) H1 R :=
 .inr (.inr #[_,q.get u z hk,by rw[FU q];exact h])
theorem nh(neg:Bool)(z:Rep K H1 v x)(p:Rep K H1 w y)(h:Tt x y λk=>X (if neg then !k else k))(k:∀c,X c->R (.bl c) H1):YT K neg v w H1 R:=by
 have f:=p;have u:∀ds,Tt x (.list ds) (λk=>X (if neg then !k else k))∨Tt x (.tuple ds) (λk=>X (if neg then !k else k))->((rB x=kf/\ds.all rB=kf)∨(JE x/\JE (.list ds)))/\X (if neg then !(ds.any λy=>Ql y x) else ds.any λy=>Ql y x):=λds h=>by cases x<;>exact h.elim id id
 cases p with
 |lst l e =>
  let#[h,q]:=u _ (.inl h);rcases h with⟨g,fs⟩| ⟨j,i⟩
  refine .inl #[_,_,rfl,.inl l,tX z g,DU e fs,?_];rw[NN z g e fs];exact k _ q;exact .inr (.inl #[_,_,z,.inl f,j,i,k _ q])
 |tup l e =>
  let#[h,q]:=u _ (.inr h);rcases h with⟨g,fs⟩| ⟨j,i⟩
  refine .inl #[_,_,rfl,.inr l,tX z g,DU e fs,?_];rw[NN z g e fs];exact k _ q;exact .inr (.inl #[_,_,z,.inr f,j,i,k _ q])
 |@dct A a o ks vs ds s m r =>
  obtain⟨b,Z,hk,q⟩:∃b,FC (ks.zip ds)=jr b/\aD b x/\X (if neg then !(cA ((ks.zip ds).map (·.1)) x).isSome else(cA ((ks.zip ds).map (·.1)) x).isSome):=by cases x<;>exact h
  have hl:ks.9=ds.length:=by rw[m.len,Reps.length r]
  rw[Wx (w4 hl)]at q;cases sZ m Z;exact lX s m z hk (k _ q)
 |str=>cases z<;>first|exact k _ h|exact h.elim
 |_=>cases z<;>exact h.elim
theorem cR{g:Int->Int->Bool}(u:Rep K H1 v x)(z:Rep K H1 w y)(h:T1 g x y X)(k:∀c,X c->R (.bl c) H1):D1 g v w H1 R:=by unfold T1 at h;split at h;cases u;cases z;exact k _ h;exact h.elim
theorem Rep.non_iff(h:Rep K H1 v x):decide (v=.non)=d9 x:=by cases h<;>rfl
theorem UX(u:Rep K H1 v x)(z:Rep K H1 w y)(h:BX U x y X)(k:∀c,X c->R (.bl c) H1):E9 K U v w H1 R:=by
 cases U with|Eq=>exact Xh kb u z h k|NotEq=>exact Xh kf u z h k|Lt=>exact cR u z h k|LtE=>exact cR u z h k|Gt=>exact cR u z h k|GtE=>exact cR u z h k|In=>exact nh kb u z h k|NotIn=>exact nh kf u z h k|Is=>have a:z4 x y X:=h;unfold z4 at a;split at a;cases z;have e:=u.non_iff;show R (.bl (decide (v=.non))) H1;rw[e];exact k _ a;cases z;cases u;exact#[_,rfl,k _ a];exact a.elim|IsNot=>have a:z4 x y λk=>X (!k):=h;unfold z4 at a;split at a;cases z;have e:=u.non_iff;show R (.bl (!decide (v=.non))) H1;rw[e];exact k _ a;cases z;cases u;exact#[_,rfl,k _ a];exact a.elim
theorem Vf(f:Same F1 H1)(z:Rep K H1 v x)(u:Tr K F1 H1 sb w b Zb)(h:Xf U x b X)(k:∀c,X c->R (.bl c) H1):E9 K U v w H1 R:=by
 cases b with
 |d y=>exact UX z (u.rep f) h k|lst ts=>exact UX z (u.rep f) h k|tup ts=>exact UX z (u.rep f) h k|dct b ks ts =>
  let#[hk,h]:=h;cases u with
  |dct a e _ _ _ _ =>
   rcases h with⟨rfl,q⟩| ⟨rfl,q⟩
   exact lX (neg:=kb) a (e.mono f) z hk (k _ q);exact lX (neg:=kf) a (e.mono f) z hk (k _ q)
theorem oJ(r:Reps K F xs ds):(!ds.isEmpty)=!xs.isEmpty:=by cases r<;>rfl
theorem JY(w:Rep K H1 v x)(h:jK x X)(k:∀c,X c->W c H1):MF K v H1 W:=by
 cases w with|lst u z=>have h:X _:=h;rw[oJ z]at h;exact#[_,.inl #[_,u,rfl],k _ h]|tup u z=>have h:X _:=h;rw[oJ z]at h;exact#[_,.inr (.inl #[_,u,rfl]),k _ h]|_=>first|exact k _ h|exact#[h.1,k _ h.2]| exact h.elim
theorem Xa(z:Rep K H1 v x)(h:Po x X)(k:∀c,X c->W c H1):Ua v H1 W:=by unfold Po at h;split at h;cases z;exact k _ h;exact h.elim
theorem Vn(s:Ste F H S ρ F1 H1 S1 ρ1)(I:Rl K F1 H1 S1 ρ1 σ)(A:Tr K F1 H1 sa v a Za)(E:∀b,Za b->∃(i:Nat) (s:Sl),i∈ws/\ρ1[i]?=jr (jr s)/\S1 i b)(m:Tr K F1 H1 sb w b Zb)(h:GO a.vw b.vw λz=>Q z kb ρ1)(k:uB K ws F H S ρ σ Q R):G1 K v w H1 R:=by
 rcases h with⟨z,i,c,j,g,f,e,q⟩| ⟨ts,i,d,j,g,f,q⟩| ⟨ts,i,d,j,g,f,q⟩
 obtain rfl:=A.str j;obtain rfl:=m.int g;exact#[f,c,e,k.d s I (.str _) q];let#[p,xs,G,rfl,C,l,B]:=A.ls I.fh j;obtain rfl:=m.int g;let#[x,Z,e,r,u]:=l.at f;exact#[xs,x,.inl C,e,k _ F1 H1 S1 ρ1 _ kb Z s I #[r,λz=>(by cases z),λ_ b hb=>E b (B b (u b hb)),λz=>(by cases z)] q];let#[p,xs,G,rfl,C,l,B]:=A.tp I.fh j;obtain rfl:=m.int g;let#[x,Z,e,r,u]:=l.at f;exact#[xs,x,.inr C,e,k _ F1 H1 S1 ρ1 _ kb Z s I #[r,λz=>(by cases z),λ_ b hb=>E b (B b (u b hb)),λz=>(by cases z)] q]
theorem vo(s:Ste F H S ρ F1 H1 S1 ρ1)(I:Rl K F1 H1 S1 ρ1 σ)(l:Tr K F1 H1 sa v a Za)(e:∀b,Za b->∃(i:Nat) (s:Sl),i∈ws/\ρ1[i]?=jr (jr s)/\S1 i b)(j:Rep K H1 w y)(h:HU a.vw y λz=>Q z kb ρ1)(k:uB K ws F H S ρ σ Q R):G1 K v w H1 R:=by
 let#[b,ks,ts,n,d,G,hk,C,A,q]:=h;let#[p,o,vs,L,rfl,B,J,f,m,_]:=l.dc I.fh G;let#[x,Z,E,r,u]:=f.get A;have g:=(J.mono I.fh).get B j hk;rw[C]at g;have g:US K H1 p w (vs[n]?):=g;rw[E]at g;have fin:=k _ F1 H1 S1 ρ1 _ kb Z s I #[r,λz=>(by cases z),λ_ b hb=>e b (m b (u b hb)),λz=>(by cases z)] q;cases w with|str z=>exact#[x,g,fin]|ref c=>exact#[x,g,fin]|_=>exact g.elim
theorem Reps.cut(r:Reps K F xs ds)(h z:Option Int):Reps K F (NU xs h z) (pH ds h z):=by unfold NU pH;rw[r.9];exact(r.drop _).take _
theorem zk{g i:Option Int}(s:Ste F H S ρ F1 H1 S1 ρ1)(I:Rl K F1 H1 S1 ρ1 σ)(b:Tr K F1 H1 sa v a Za)(h:HI a.vw g i λz n=>Q z n ρ1)(k:uB K ws F H S ρ σ Q R):Px K v g i H1 R:=by
 rcases h with⟨z,u,h⟩| ⟨ts,ds,u,e,q⟩| ⟨ts,ds,u,e,n,q⟩
 obtain rfl:=b.str u;exact#[h.1,k.d s I (.str _) h.2];let#[p,xs,_,rfl,f,w,_]:=b.ls I.fh u;exact .inl #[p,xs,rfl,f,λl hl=>k.listD s I hl ((w.un e).1.cut _ _) q];let#[p,xs,_,rfl,f,w,_]:=b.tp I.fh u;refine .inr #[p,xs,rfl,f,by rw[(w.un e).1.length];exact n,λl hl=>k.tupD s I hl ((w.un e).1.cut _ _) q]
theorem ud{P:Option Int->Prop}{z:Option Int->Hp->Prop}(u:Rep K H1 v x)(h:uG x P)(k:∀o,P o->z o H1):dN v H1 z:=by unfold uG at h;split at h;cases u;exact k _ h;exact h.elim
noncomputable def Sv:D->kn
 | .none=>.type "NoneType"|.bool _=>.type "bool"|.int _=>.type "int"|.str _=>.type "str"|.list _=>.type "list"|.tuple _=>.type "tuple"|.dict _=>.type "dict"
theorem Rep.ty(w:Rep K H1 v x):TyOf K H1 v (Sv x)∨jAY K H1 v (Sv x):=by
 cases w with
 |non=>exact .inl .non|bl b=>exact .inl (.bl _)|int b=>exact .inl (.int _)|str b=>exact .inl (.str _)|lst h u=>exact .inr (.inl #[_,_,rfl,h,rfl])|tup h u=>exact .inr (.inr #[_,_,rfl,h,rfl])|@dct b _ _ _ _ _ h q _ =>
  cases b with
  |true=>let#[a,z,rfl,_]:=q;exact .inl (.dT h)|false =>
   rcases q with⟨z,_,rfl,_⟩| ⟨a,rfl,_⟩
   exact .inl (.dK h);exact .inl (.dT h)
theorem zn{k:Bool}(h:isD n x=jr k)(z:HP n=kf):QBk K (Sv x) (.type n)=jr k:=by simp only[HP,wn,beq_iff_eq]at z;rcases z with((((rfl|rfl)|rfl)|rfl)|rfl)|rfl<;>cases x<;>simp[isD]at h<;>subst h<;>rfl
theorem Yn{k:Bool}(z:Rep K H1 v x)(h:isD n x=jr k)(u:HP n=kf)(q:R (.bl k) H1):Bk K [v,.ty n] H1 R :=
 #[Sv x,.type n,k,z.ty,rfl,zn h u,q]
inductive Tn(K:QA)(F H:Hp)(Y:gB):LV->LT->Prop where
 |nil:Tn K F H Y [] []
 |cons {v:V}{t:T}{vs:LV}{ts:LT}{Z:gB}:Tr K F H kb v t Z->(∀b,Z b->Y b)->Tn K F H Y vs ts->Tn K F H Y (v::vs) (t::ts)
theorem sM(ts:LT):∀{xs:List (T×Bool)},LO xs=ts->CB xs=ts.map T.vw
 |[],h=>by subst h;rfl|p::r,h=>by subst h;simp only[CB,LO,QS,sM _ rfl]
theorem Tn.one{x:Vw}(h:Tn K F H Y vs ts)(e:ts.map T.vw=[x]):∃v t Z,vs=[v]/\ts=[t]/\t.vw=x/\Tr K F H kb v t Z/\∀b,Z b->Y b:=by
 cases h with
 |nil=>cases e|cons r z t =>
  simp only[QS,Wa]at e;cases t with|nil=>exact#[_,_,_,rfl,rfl,e.1,r,z]|cons _ _ _=>simp at e
theorem Tn.two{x y:Vw}(h:Tn K F H Y vs ts)(e:ts.map T.vw=[x,y]):∃v w t u Z a,vs=[v,w]/\ts=[t,u]/\t.vw=x/\u.vw=y/\Tr K F H kb v t Z/\Tr K F H kb w u a/\(∀b,Z b->Y b)/\(∀b,a b->Y b):=by
 cases h with|nil=>cases e|cons r z t=>simp only[QS,Wa]at e;let#[v,u,a,rfl,rfl,i,g,f]:=t.one e.2;exact#[_,_,_,_,_,_,rfl,rfl,e.1,i,r,g,z,f]
theorem bK:∀{xs:LV}{z:LS},Reps K F xs (z.map j0)->xs=z.map V.str
 |_,[],.nil=>rfl|_,y::z,.cons h t=>by cases h;rw[QS,bK t]
theorem gP:∀(h:LS),Reps K F (h.map V.str) (h.map j0)
 |[]=>.nil|y::h=>.cons (.str y) (gP h)
theorem YU:∀{xs:LV}{z:LJ},Reps K F xs (z.map j1)->xs=z.map V.int
 |_,[],.nil=>rfl|_,y::z,.cons h t=>by cases h;rw[QS,YU t]
theorem LP:∀(h:LJ),Reps K F (h.map V.int) (h.map j1)
 |[]=>.nil|y::h=>.cons (.int y) (LP h)
theorem B1{α:Type}{g:α->D}{u:LV}(Z:xs.Perm u):∀{l:List α},Reps K F xs (l.map g)->∃z:List α,z.Perm l/\Reps K F u (z.map g):=by
 induction Z with
 |nil=>intro l r;exact#[l,QCC.refl _,r]|cons x _ m =>
  intro l r;cases l with
  |nil=>cases r|cons a l=>cases r with|cons h t=>let#[z,p,v]:=m t;exact#[a::z,p.cons _,.cons h v]
 |swap x y C =>
  intro l r;cases l with
  |nil=>cases r|cons a l=>cases l with
   |nil=>cases r with|cons h t=>cases t
   |cons b l=>cases r with
    |cons h t=>cases t with|cons A t=>exact#[b::a::l,QCC.swap _ _ _,.cons A (.cons h t)]
 |trans _ _ s q=>intro l r;let#[B,i,e]:=s r;let#[j,f,w]:=q e;exact#[j,f.trans i,w]
theorem tupl{K:QA}{H z:Hp}{a:k0}(e:Same H z)(h:CD K H a xs):CD K z a xs:=by rcases h with(h|⟨o,h⟩)|h;exact .inl (.inl (e _ _ h));exact .inl (.inr #[o,e _ _ h]);exact .inr h
theorem jR{α:Type}{f:α->D}:∀{z:List α}{xs:LV},Reps K F xs (z.map f)->xb (λx r=>Rep K F x (f r)) xs z
 |[],_,.nil=>.nil|_::_,_,.cons h t=>.cons h (jR t)
theorem EY{α:Type}{f:α->D}:∀{z:List α}{xs:LV},xb (λx r=>Rep K F x (f r)) xs z->Reps K F xs (z.map f)
 |_,_,.nil=>.nil|_,_,.cons h t=>.cons h (EY t)
theorem Vk{H:Hp}{x:V}{r:List Ky}(e:Same F H)(h:Rep K F x (x5 r)):gv K H x r:=by
 unfold x5 at h;cases h with
 |tup sq u =>
  refine#[_,_,rfl,tupl e sq,L2.Paired.mapP (jR u) λy k h=>?_];cases k with|i n=>exact(by cases h;rfl:y=.int n)|s z=>exact(by cases h;rfl:y=.str z)
theorem pW{ls:List (LS)}(h:Reps K F xs (ls.map MD)):∀x∈xs,∃a,∃u:LS,x=.ref a/\rC K F a (u.map V.str):=by
 induction ls generalizing xs with
 |nil=>cases h;exact λ_ z=>nomatch z
 |cons l ls v =>
  cases h with
  |cons r t =>
   intro x h;rcases QL.mp h with e|h;subst e;cases r with|lst q r=>exact#[_,l,rfl,by rw[<- bK r];exact q]
   exact v t x h
theorem Mo{P:Bi}(s:Ste F H S ρ F1 H1 S1 ρ1)(I:Rl K F1 H1 S1 ρ1 σ)(m:Tn K F1 H1 Y vs ts)(h:vY P (ts.map T.vw) λz n=>Q z n ρ1)(k:uB K ws F H S ρ σ Q R):Ru K P vs H1 R:=by
 cases P with
 |len =>
  rcases h with⟨z,e,h⟩| ⟨A,e,h⟩| ⟨A,e,h⟩
  let#[v,t,Z,rfl,rfl,e,r,_]:=m.one e;obtain rfl:=r.str e;exact .inl #[_,rfl,h.1,k.d s I (.int _) h.2];let#[v,t,Z,rfl,rfl,e,r,_]:=m.one e;let#[p,xs,_,rfl,b,f,_]:=r.ls I.fh e;exact .inr #[_,xs,rfl,.inl b,by rw[f.9];exact k.d s I (.int _) h];let#[v,t,Z,rfl,rfl,e,r,_]:=m.one e;let#[p,xs,_,rfl,b,f,_]:=r.tp I.fh e;exact .inr #[_,xs,rfl,.inr b,by rw[f.9];exact k.d s I (.int _) h]
 |any=>let#[A,bs,e,hb,q]:=h;let#[v,t,Z,rfl,rfl,e,r,_]:=m.one e;let#[p,xs,_,rfl,b,f,_]:=r.ls I.fh e;obtain rfl:=(f.un hb).1.bools;exact#[bs,b,k.d s I (.bl _) q]|min=>let#[i,j,e,q]:=h;let#[v,w,t,u,Z1,Z2,rfl,rfl,e1,e2,N,r2,_]:=m.two e;obtain rfl:=N.int e1;obtain rfl:=r2.int e2;exact#[i,j,rfl,k.d s I (.int _) q]|sorted =>
  rcases h with⟨A,L,e,hb,g,q⟩| ⟨A,ls,e,hb,g,q⟩| ⟨A,ns,e,hb,g,q⟩| ⟨A,rs,e,hb,⟨g,sh⟩,q⟩
  let#[v,t,Z,rfl,rfl,e,r,_]:=m.one e;let#[p,xs,_,rfl,b,f,_]:=r.ls I.fh e;obtain rfl:=bK (f.un hb).1;exact#[_,rfl,.inl #[L,b,g,λl E hl B G=>k.listD s I hl (gP E) (q E B G)]];let#[v,t,Z,rfl,rfl,e,r,_]:=m.one e;let#[p,xs,_,rfl,b,f,_]:=r.ls I.fh e;have C:=(f.un hb).1;refine#[_,rfl,.inr (.inl #[xs,b,by rw[Reps.length C,QD];exact g,λx hx=>?_,λl ys hl b=>?_])];let#[a,L,e,sq]:=pW C x hx;exact#[a,L,e,I.fh.seq sq];let#[O,B,N]:=B1 b.symm C;exact k.listD s I hl N (q O B);let#[v,t,Z,rfl,rfl,e,r,_]:=m.one e;let#[p,xs,_,rfl,b,f,_]:=r.ls I.fh e;obtain rfl:=YU (f.un hb).1;exact#[_,rfl,.inr (.inr (.inl #[ns,b,g,λl J hl B G=>k.listD s I hl (LP J) (q J B G)]))];let#[v,t,Z,rfl,rfl,e,r,_]:=m.one e;let#[p,xs,_,rfl,b,f,_]:=r.ls I.fh e;have C:=(f.un hb).1;exact#[_,rfl,.inr (.inr (.inr #[λx r=>Rep K _ x (x5 r),xs,rs,#[b,jR C,λx r h=>Vk I.fh h],by rw[Reps.length C,QD];exact g,sh,λl xs' M hl pr B G=>k.listD s I hl (EY pr) (q M B G)]))]
 |tuple=>let#[A,ds,e,hb,q]:=h;let#[v,t,Z,rfl,rfl,e,r,_]:=m.one e;let#[p,xs,_,rfl,b,f,_]:=r.ls I.fh e;exact#[_,xs,rfl,b,λl hl=>k.tupD s I hl (f.un hb).1 q]
theorem Cm{m:Mt}(s:Ste F H S ρ F1 H1 S1 ρ1)(I:Rl K F1 H1 S1 ρ1 σ)(w:Tr K F1 H1 sa v a Za)(b:Tn K F1 H1 Y vs ts)(h:zw m a.vw (ts.map T.vw) λz n=>Q z n ρ1)(k:uB K ws F H S ρ σ Q R):Xe K m v vs H1 R:=by
 cases m with|index=>let#[z,y,i,u,g,e,f,q]:=h;obtain rfl:=w.str g;let#[v,t,Z,rfl,rfl,e,r,_]:=b.one e;obtain rfl:=r.str e;exact#[z,y,i,u,rfl,rfl,f,k.d s I (.int _) q]|_=>exact h.elim
theorem Dt{x:Vw}(h:x.isS=kf):∃z,x=.sc (.str z):=by
 cases x with
 |sc d=>cases d with|str z=>exact#[z,rfl]|_=>exact(QG h).elim
 |_=>exact(QG h).elim
theorem Ps{m:Mt}(u:Tr K F1 H1 sa v a Za)(h:Y8 m a.vw=kf):j5 K m.ty v H1:=by
 have h:=zA h;let#[z,w]:=Dt h.1;obtain rfl:=u.str w;cases m with|index=>rfl|_=>exact(QG h.2).elim
end
end
inductive AV(K:QA)(F H:Hp):List Md->LV->List (T×Bool)->(k0->Prop)->(k0->Prop)->Prop where
 |nil {md:List Md}{W Y:gB}:(∀b,¬ W b)->AV K F H md [] [] W Y
 |chg {md:List Md}{v:V}{vs:LV}{x:T}{xs:List (T×Bool)}{W Y:gB}:(md.headD .fro).isMut=kf->AV K F H md.tail vs xs W Y->AV K F H md (v::vs) ((x,kf)::xs) W Y
 |new {md:List Md}{v:V}{vs:LV}{x:T}{xs:List (T×Bool)}{Z W W' Y:gB}:(md.headD .fro).isMut=kb->Tr K F H kf v x Z->AV K F H md.tail vs xs W' Y->(∀b,Z b->¬ W' b)->(∀b,W b↔Z b∨W' b) ->
   AV K F H md (v::vs) ((x,kf)::xs) W Y
 |tmp {md:List Md}{v:V}{vs:LV}{x:T}{xs:List (T×Bool)}{Z W Y:gB}:(md.headD .fro).isMut=kb->Tr K F H kb v x Z->(∀b,Z b->Y b)->AV K F H md.tail vs xs W Y ->
   AV K F H md (v::vs) ((x,kb)::xs) W Y
section
variable{K:QA}{F H o l:Hp}{S S1:Ft}{ρ g:xA}{σ:St}
section
variable{Y W:gB}{md:List Md}{vs:LV}{xs:List (T×Bool)}{ws:LN}{c:Hp}{w:Ft}{y:xA}
theorem AV.sub{u:gB}(h:AV K F H md vs xs W Y)(k:∀b,Y b->u b):AV K F H md vs xs W u:=by
 induction h with|nil h=>exact .nil h|chg h t x=>exact .chg h (x k)|new h r t n q x=>exact .new h r (x k) n q|tmp h r z t x=>exact .tmp h r (λb hb=>k b (z b hb)) (x k)
theorem AV.dom(h:AV K F H md vs xs W Y):∀b,W b->H b≠kv/\F b=none:=by
 induction h with|nil h=>exact λb hb=>i2 hb (h b)|chg h t x=>exact x|new h r t n q x=>exact λb hb=>((q b).mp hb).elim (r.dom b) (x b)|tmp h r z t x=>exact x
theorem AV.length(h:AV K F H md vs xs W Y):vs.9=xs.length:=by
 induction h with|nil h=>rfl|chg h t x=>simp[x]|new h r t n q x=>simp[x]|tmp h r z t x=>simp[x]
theorem AV.trs(h:AV K F H md vs xs W Y):(∀(i:Nat),(md.getD i .fro).isMut=kb)->mE xs=kf->Trs K F H kf vs (zF xs) W:=by
 induction h with
 |nil h=>exact λ_ _=>.nil h|@chg md _ _ _ _ _ _ h t u =>
  intro m;have:=m 0;cases md with|nil=>cases h|cons a r=>exact i2 h (by simpa using this)
 |@new md v vs x xs Z W k Y h r t n q u =>
  intro m e;simp only[mE,Qa]at e;exact .cons r (u (λi=>by cases md with|nil=>exact m i|cons a md=>exact m (i+1)) e.2) n q
 |@tmp md v vs x xs Z W Y h r z t u =>
  intro m e;simp only[mE,Qa]at e;refine .cons (S1:=λ_=>False) ?_ (u (λi=>by cases md with|nil=>exact m i|cons a md=>exact m (i+1)) e.2) (λ_ z=>z.elim) λb=>by simp
  cases x with
  |d x=>cases r with|d r n=>exact .d r λ_ z=>z
  |_=>exact i2 e.1 (by simp[uH,T.isD])
theorem Xm(i:Nat):((([]:List Md).getD i .fro).isMut)=false:=rfl
theorem AV.tn(h:AV K F H md vs xs W Y)(e:Same F o)(k:∀b,W b->o b=H b)(f:∀b,Y b->F b=kv->o b=kv)(hm:md=[]):Tn K o H Y vs (LO xs):=by
 induction h with|nil h=>exact .nil|chg h t a=>subst hm;cases h|@new md v vs x xs Z W j Y h r t n q a=>subst hm;refine .cons (Z:=λ_=>False) ?_ (λb z=>z.elim) (a (λb hb=>k b ((q b).mpr (.inr hb))) f rfl);exact .d (r.kept e λb u hb i=>by rw[k b ((q b).mpr (.inl hb))];exact i) λ_ z=>z|@tmp md v vs x xs Z W Y h r z t a=>subst hm;exact .cons (r.mono e λb hb=>#[rfl,f b (z b hb) (r.dom b hb).2]) z (a k f rfl)
structure AR(K:QA)(ws:LN)(md:List Md)(c:Hp)(w:Ft)(y:xA)(F H:Hp)(S:Ft)(ρ:xA)(vs:LV)(xs:List (T×Bool))(W Y:gB):Prop where
 av:AV K F H md vs xs W Y
 fr:∀b,W b->c b=kv∨U y w b
 tm:∀b,Y b->∃(i:Nat) (s:Sl),i∈ws/\ρ[i]?=jr (jr s)/\S i b
 nw:∀(i:Nat) s,ρ[i]?=jr (jr s)->∀b,W b->¬ S i b
theorem AR.held(h:AR K ws md c w y F H S ρ vs xs W Y):Held F H S ρ W:=#[h.av.dom,h.nw]
theorem AR.from{v u:Hp}{z:Ft}{x:xA}(s:Stp F H S ρ o l S1 g)(h:AR K ws md l S1 g v u z x vs xs W Y):AR K ws md H S ρ v u z x vs xs W Y :=
 #[h.av,λb hb=>by rcases h.fr b hb with q|q;exact .inl (s.dm b q);exact(s.uu b q).symm,h.tm,h.nw]
theorem AR.vars{us:LN}(h:AR K ws md c w y F H S ρ vs xs W Y)(k:∀i∈ws,i∈us):AR K us md c w y F H S ρ vs xs W Y :=
 #[h.av,h.fr,λb hb=>let#[i,s,z,x]:=h.tm b hb;#[i,s,k i z,x],h.nw]
theorem AR.frz{ws:LN}{vs:LV}{xs:List (T×Bool)}{W Y:gB}(s:Ste F H S ρ o l S1 g)(I:Rl K o l S1 g σ)(h:AR K ws [] H S ρ o l S1 g vs xs W Y) :
  ∃v,Ste F H S ρ v l S1 g/\Rl K v l S1 g σ/\Tn K v l Y vs (LO xs) /\
   ∀st k t' u,Tr K o l st k t' u->(∀b,u b->∃(i:Nat) (s:Sl),g[i]?=jr (jr s)/\S1 i b)->Tr K v l st k t' u:=by
 have x:=h.held;have f:=vH (H:=l) λb hb=>(x.dom b hb).2;refine#[rJ o l W,s.frz (λb hb=>(x.dom b hb).2) h.fr,I.frz x,h.av.tn f (λb hb=>pJ hb) (λb m n=>?_) rfl,λst k t' u r j=>r.mono f λb hb=>#[rfl,?_]];let#[i,a,_,e,p]:=h.tm b m;rw[oC λz=>h.nw i a e b z p];exact n;let#[i,a,q,e]:=j b hb;rw[oC λz=>x.nw i a q b z e];exact(r.dom b hb).2
noncomputable def pB:List Md->LV->LV
 |_,[]=>[]|md,v::vs=>match md.headD .fro with
  | .chg=>v::pB md.tail vs|_=>pB md.tail vs
noncomputable abbrev Xv(K:QA)(p:PX)(md:List Md)(F H:Hp)(S:Ft)(ρ:xA)(σ:St)(Q:List (T×Bool)->xA->Prop)(R:LV->Hp->Prop):Prop :=
 ∀vs u x z h xs W Y,Ste F H S ρ u x z h->Rl K u x z h σ->AR K (PF p) md H S ρ u x z h vs xs W Y->(pB md vs).map (λv=>jr (jr v))=(bA md p).map (λj=>σ[j]?)->Q xs h->R vs x
def vv(K:QA)(F H:Hp)(x:XD)(h:Option k0):Prop:=∃a fs,h=jr a/\H a=jr (.xd fs)/\xb (λ(p:Str×V) (q:Str×D)=>p.1=q.1/\Rep K F p.2 q.2) fs x.2
def EE(K:QA)(F H:Hp)(S:Ft)(ρ:xA)(E:XE)(a:XK):Prop:=∀x v u h k z,Stp F H S ρ u h k z->Same u h->vv K u h x v->E x->a x.1 v h
theorem EE.from{E:XE}{u:XK}(h:EE K F H S ρ E u)(s:Stp F H S ρ o l S1 g):EE K o l S1 g E u:=λx k e b a z v f r q=>h x k e b a z (s.trans v) f r q
theorem EE.never:EE K F H S ρ (λ_=>False) (λ_ _ _=>False):=λ_ _ _ _ _ _ _ _ _ z=>z
inductive ArgsR(K:QA)(F H:Hp)(Y:gB):List Md->LV->LT->Prop where
 |nil {md:List Md}:ArgsR K F H Y md [] []
 |chg {md:List Md}{v:V}{vs:LV}{t:T}{ts:LT}:md.headD .fro=.chg->ArgsR K F H Y md.tail vs ts->ArgsR K F H Y md (v::vs) (t::ts)
 |rd {md:List Md}{v:V}{vs:LV}{t:T}{ts:LT}{Z:gB}:md.headD .fro≠.chg->Tr K F H kb v t Z->(∀b,Z b->Y b)->ArgsR K F H Y md.tail vs ts->ArgsR K F H Y md (v::vs) (t::ts)
structure Frm(M:gB)(F H F' H':Hp):Prop where
 ff:Same F F'
 fh:Same F' H'
 hh:∀b u,H b=jr u->¬ M b->H' b=jr u
 dm:∀b,H' b=kv->H b=kv
 fn:∀b,F b=kv->F' b≠kv->M b∨H b=kv
def lift(K:QA)(P:PSp):Sp:=λvs H Q E=>∃(F:Hp) (u:LT) (M Y:gB),Same F H/\ArgsR K F H Y P.md vs u/\Trs K F H kf (pB P.md vs) (LB P.md u) M/\(∀b,Y b->¬ M b) /\
 P.run u (λr e=>∀v z h Z k,Frm M F H z h->Tr K z h kf v r Z->Trs K z h kf (pB P.md vs) e k->(∀b,Z b->¬ k b)->(∀b,Z b∨k b->M b∨H b=kv)->Q v h)
  (λx=>∀a z h,Frm M F H z h->vv K z h x a->E x.1 a h)
structure GOk(K:QA)(Γ:Ev)(Ψ:PEv):Prop where
 sp:∀f vs H Q E,lift K (Ψ.sp f) vs H Q E->Γ.sp f vs H Q E
 va:∀x d,Ψ.va x=jr d->∀F,Rep K F (Γ.va x) d
structure PSnd(K:QA)(Γ:Ev)(Ψ:PEv)(p:PX):Prop where
 e:∀{E:XE}{EK:XK}{F H:Hp}{S:Ft}{ρ:xA}{σ:St}{Q:TK}{R:VK},Rl K F H S ρ σ->EE K F H S ρ E EK->(pe Ψ p E).e ρ Q->uB K (PF p) F H S ρ σ Q R->(wp K Γ p EK).e σ H R
 t:∀{E:XE}{EK:XK}{F H:Hp}{S:Ft}{ρ:xA}{σ:St}{Q:Bool->xA->Prop}{R:Bool->Hp->Prop},Rl K F H S ρ σ->EE K F H S ρ E EK->(pe Ψ p E).t ρ Q->LH K F H S ρ σ Q R->(wp K Γ p EK).t σ H R
 a:∀{E:XE}{EK:XK}{F H:Hp}{S:Ft}{ρ:xA}{σ:St}{md:List Md}{Q:List (T×Bool)->xA->Prop}{R:LV->Hp->Prop},Rl K F H S ρ σ->EE K F H S ρ E EK->(∀j∈bA md p,∃v,σ[j]?=jr (jr v))->(pe Ψ p E).a md ρ Q->Xv K p md F H S ρ σ Q R->(wp K Γ p EK).a σ H R
end
end
section
variable{K:QA}{Γ:Ev}{Ψ:PEv}{E:XE}{c:XK}{F H A U:Hp}{S S1:Ft}{ρ o:xA}{σ:St}
section
variable{b a u:PX}{RR:LV->Hp->Prop}{P:List (T×Bool)->xA->Prop}{Y Z:gB}{t:T}{st:Bool}{ts:LT}{v:V}
theorem Mq(N:PSnd K Γ Ψ b)(I:Rl K F H S ρ σ)(X:EE K F H S ρ E c){x:T}{P:T×Bool->xA->Prop}{RR:VK}(h:sq x ρ (cu (pe Ψ b E).e) P)
  (M:∀w p g S' k y m Z,Ste F H S ρ p g S' k->Rl K p g S' k σ->(∀st v l,Tr K F H st v x l->Tr K p g st v x l)->(x.isD=kb->k=ρ/\S'=S)->VR K (PF b) H S ρ p g S' k w y m Z->P (y,m) k->RR w g) :
  (wp K Γ b c).e σ H RR:=by
 unfold sq at h;cases W:x.isD with
 |true =>
  rw[W,i0 rfl]at h;refine N.e I X h λw p g S' k y m Z s C r q=>M w p g S' k y m Z s C (λst v l B=>?_) (λz=>(by rw[W]at z;cases z)) r q;cases x with
  |d x=>cases B with|d r n=>exact .d (r.mono s.ff) n
  |_=>cases W
 |false =>
  rw[W,ii (by simp)]at h;have X':EE K F H S (lockA ρ) E c:=λx dx F2 H2 S2 O Q f r q=>X x dx F2 H2 S ρ Q.unlockA f r q;refine N.e I.lockA X' h λw p g S' k y m Z s C r q=>?_;have kp:∀st v t l,Tr K F H st v t l->Tr K p g st v t l:=λst v t l B=>s.keep B λb _=>xD b;refine M w p g S ρ y m Z #[s.unlockA,λj t h=>#[t,h]] (I.unlockA s.toStp C.fh) (λst v l B=>kp st v _ l B) (λ_=>#[rfl,rfl]) #[r.tr,λe b hb=>?_,λe b hb=>?_,λe i L hi b hb z=>?_] q;exact .inl ((r.fr e b hb).elim id λz=>i2 z (xD b));let#[i,L,h1,J,G]:=r.tm e b hb;cases L with
  |own t=>let#[t0,h0]:=s.ow i t J;let#[_,_,e0]:=iB h0;cases e0|bor t =>
   cases W:t.isD with|true=>exact i2 G (C.isD J W)|false=>let#[g1,g2]:=s.bo i t J W;let#[R,g3,_]:=iB g1;rw[g2]at G;exact#[i,R,h1,g3,G]
  rcases r.fr e b hb with q|q
  ·exact(I.dom hi z).1 q
  exact i2 q (xD b)
theorem Nq{md:List Md}(O:PSnd K Γ Ψ b)(I:Rl K F H S ρ σ)(X:EE K F H S ρ E c)(hm:∀j∈bA md b,∃v,σ[j]?=jr (jr v)){x:T}(h:sq x ρ ((pe Ψ b E).a md) P)
  (N:∀ws l e S' k L W Y,Ste F H S ρ l e S' k->Rl K l e S' k σ->(∀st v g,Tr K F H st v x g->Tr K l e st v x g)->(x.isD=kb->k=ρ/\S'=S)->AR K (PF b) md H S ρ l e S' k ws L W Y->(pB md ws).map (λv=>jr (jr v))=(bA md b).map (λj=>σ[j]?)->P L k->RR ws e) :
  (wp K Γ b c).a σ H RR:=by
 unfold sq at h;cases m:x.isD with
 |true =>
  rw[m,i0 rfl]at h;refine O.a I X hm h λw l e S' k y W Y s B r C q=>N w l e S' k y W Y s B (λst v g p=>?_) (λz=>(by rw[m]at z;cases z)) r C q;cases x with
  |d x=>cases p with|d r n=>exact .d (r.mono s.ff) n
  |_=>cases m
 |false =>
  rw[m,ii (by simp)]at h;have X':EE K F H S (lockA ρ) E c:=λx dx F2 H2 S2 Q R f r q=>X x dx F2 H2 S ρ R.unlockA f r q;refine O.a I.lockA X' hm h λw l e S' k y W Y s B r C q=>?_;have kp:∀st v t g,Tr K F H st v t g->Tr K l e st v t g:=λst v t g p=>s.keep p λb _=>xD b;refine N w l e S ρ y W Y #[s.unlockA,λj t h=>#[t,h]] (I.unlockA s.toStp B.fh) (λst v g p=>kp st v _ g p) (λ_=>#[rfl,rfl]) #[r.av,λb hb=>?_,λb hb=>?_,λi M hi b hb z=>?_] C q;exact .inl ((r.fr b hb).elim id λz=>i2 z (xD b));let#[i,M,h1,J,G]:=r.tm b hb;cases M with
  |own t=>let#[t0,h0]:=s.ow i t J;let#[_,_,e0]:=iB h0;cases e0|bor t =>
   cases m:t.isD with|true=>exact i2 G (B.isD J m)|false=>let#[g1,g2]:=s.bo i t J m;let#[s0,g3,_]:=iB g1;rw[g2]at G;exact#[i,s0,h1,g3,G]
  rcases r.fr b hb with q|q
  ·exact(I.dom hi z).1 q
  exact i2 q (xD b)
theorem UE(l:PSnd K Γ Ψ a)(I:Rl K F H S ρ σ)(X:EE K F H S ρ E c){P:TK}{RR:VK}(h:(pe Ψ a E).e ρ P)
  (j:∀v w z S' y x n Z,Ste F H S ρ w z S' y->Rl K w z S' y σ->EE K w z S' y E c->Tr K w z kb v (gA x n) Z->(uH x n=kf->Rep K w v x.er)->(∀b,Z b->∃(i:Nat) (s:Sl),i∈PF a/\y[i]?=jr (jr s)/\S' i b)->P x n y->RR v z) :
  (wp K Γ a c).e σ H RR:=by
 refine l.e I X h λv w z S' y x n Z s B r q=>?_;let#[C,p,k,W,g,m,f,_]:=r.frz s B;exact j v C z S' y x n p k W (X.from k.toStp) g m f q
theorem S5(ia:PSnd K Γ Ψ a)(ib:PSnd K Γ Ψ b)(I:Rl K F H S ρ σ)(X:EE K F H S ρ E c){P:T->Bool->T->Bool->xA->Prop}{RR:V->V->Hp->Prop}
  (h:(pe Ψ a E).e ρ λx n o=>sq (gA x n) o (cu (pe Ψ b E).e) λy k=>P x n y.1 y.2 k)
  (kk:∀v w l f S' z x n y m j Zb,Ste F H S ρ l f S' z->Rl K l f S' z σ->EE K l f S' z E c->Tr K l f kb v (gA x n) j->(∀b,j b->∃(i:Nat) (s:Sl),i∈PF a/\z[i]?=jr (jr s)/\S' i b)->Tr K l f kb w (gA y m) Zb ->
   P x n y m z->RR v w f):(wp K Γ a c).e σ H λv U=>(wp K Γ b c).e σ U λw W=>RR v w W:=by
 refine UE ia I X h λv A U S1 o x n j M I1 X1 p _ G R=>?_;refine Mq ib I1 X1 R λw F2 W C k y m Z L I2 kp hs O Q=>?_;let#[F3,Z3,J,I3,N,_,_,k3]:=O.frz L I2;have B:∀b,j b->∃(i:Nat) (s:Sl),i∈PF a/\k[i]?=jr (jr s)/\C i b:=by
  cases q:(gA x n).isD with
  |true =>
   intro b hb;exfalso;generalize gA x n=t at p q;cases p with|d r n=>exact n b hb|_=>cases q
  |false=>let#[e1,e2]:=hs q;rw[e1,e2];exact G
 have g:=M.trans J;exact kk v w F3 W C k x n y m j Z3 g I3 (X.from g.toStp) (k3 _ _ _ _ (kp _ _ _ p) λb hb=>let#[i,s,_,h2]:=B b hb;#[i,s,h2]) B N Q
theorem uY(e:PSnd K Γ Ψ u)(I:Rl K F H S ρ σ)(X:EE K F H S ρ E c)(h:(pe Ψ u E).a [] ρ P)
  (k:∀vs z y S' x xs Y,Ste F H S ρ z y S' x->Rl K z y S' x σ->EE K z y S' x E c->Tn K z y Y vs (LO xs)->(∀b,Y b->∃(i:Nat) (s:Sl),i∈PF u/\x[i]?=jr (jr s)/\S' i b)->P xs x->RR vs y):(wp K Γ u c).a σ H RR:=by
 refine e.a (md:=[]) I X (λj f=>by cases u<;>cases f) h λvs z y S' x xs W Y s l r _ q=>?_;let#[m,w,g,t,_]:=r.frz s l;exact k vs m y S' x xs Y w g (X.from w.toStp) t r.tm q
theorem pq(ia:PSnd K Γ Ψ a)(ib:PSnd K Γ Ψ u)(I:Rl K F H S ρ σ)(X:EE K F H S ρ E c){P1:T->Bool->Prop}{P:T->Bool->List (T×Bool)->xA->Prop}{R1:V->Hp->Prop}{RR:V->LV->Hp->Prop}
  (h:(pe Ψ a E).e ρ λx n o=>P1 x n/\sq (gA x n) o ((pe Ψ u E).a []) λxs z=>P x n xs z)
  (k1:∀v f w x n k,Tr K f w kb v (gA x n) k->P1 x n->R1 v w)
  (kk:∀v vs f w S' y x n xs k Y,Ste F H S ρ f w S' y->Rl K f w S' y σ->EE K f w S' y E c->Tr K f w kb v (gA x n) k->(∀b,k b->∃(i:Nat) (s:Sl),i∈PF a/\y[i]?=jr (jr s)/\S' i b)->Tn K f w Y vs (LO xs) ->
   P x n xs y->RR v vs w):(wp K Γ a c).e σ H λv U=>R1 v U/\(wp K Γ u c).a σ U λvs p=>RR v vs p:=by
 refine UE ia I X h λv A U S1 o x n k L I1 X1 l _ C #[Q,O]=>#[k1 v A U x n k l Q,?_]
 refine Nq ib I1 X1 (λj hj=>by cases u<;>cases hj) O λvs F2 p B z xs W Y J I2 R hs M _ N=>?_;let#[F3,G,I3,tn,k3]:=M.frz J I2;have q:∀b,k b->∃(i:Nat) (s:Sl),i∈PF a/\z[i]?=jr (jr s)/\B i b:=by
  cases m:(gA x n).isD with
  |true =>
   intro b hb;exfalso;generalize gA x n=t at l m;cases l with|d r n=>exact n b hb|_=>cases m
  |false=>let#[e1,e2]:=hs m;rw[e1,e2];exact C
 have g:=L.trans G;exact kk v vs F3 p B z x n xs k Y g I3 (X.from g.toStp) (k3 _ _ _ _ (R _ _ _ l) λb hb=>let#[i,s,_,h2]:=q b hb;#[i,s,h2]) q tn N
def A4(K:QA)(F H:Hp)(Y:gB):Item->T->Prop
 | .one v,t=>∃Z,Tr K F H kb v t Z/\∀b,Z b->Y b|.tup vs,t=>∃h,t=.d (.tuple h)/\Reps K F vs h
theorem A4.mono{it:Item}(h:A4 K F H Y it t)(e:Same F A)(k:∀b,Y b->U b=H b/\A b=kv):A4 K A U Y it t:=by
 cases it with|one v=>let#[Z,r,z]:=h;exact#[Z,r.mono e λb hb=>k b (z b hb),z]|tup y=>let#[ts,x,r]:=h;exact#[ts,x,r.mono e]
theorem cX{xs:LV}(h:Trs K F H st xs ts Z)(z:∀b,Z b->Y b):xb (A4 K F H Y) (xs.map .one) ts :=
 Trs.ind (R:=λ_ xs ts Z=>(∀b,Z b->Y b)->xb (A4 K F H Y) (xs.map .one) ts) (λ_ _=>.nil) (λh _ _ q x z=>.cons #[_,h.weak,λb hb=>z b ((q b).mpr (.inl hb))] (x λb hb=>z b ((q b).mpr (.inr hb)))) h z
theorem tZ{Y:gB}{α:Type}(f:α->V)(g:α->D)(h:∀x,Rep K F (f x) (g x)):∀(l:List α),xb (A4 K F H Y) (l.map λx=>.one (f x)) (l.map λx=>T.d (g x))
 |[]=>.nil|x::r=>.cons #[λ_=>False,.d (h x) λ_ z=>z,λ_ z=>z.elim] (tZ f g h r)
theorem Tr.lsS(f:Same F H)(h:Tr K F H st v t Z)(e:t.vw=.ls ts):∃a vs S',v=.ref a/\rC K H a vs/\Trs K F H kb vs ts S'/\(∀b,S' b->Z b)/\∀y x,Same F y->Same y x->(∀b,Z b->x b=H b)->rC K x a vs:=by
 cases h with
 |d r n =>
  cases r with|lst q r=>injection e with e;subst e;exact#[_,_,_,rfl,f.seq q,Trs.of_reps r,λb hb=>hb.elim,λy x w z _=>(w.trans z).seq q]|dct _ _ _=>exact(PH e).elim|_=>cases e
 |lst h _ r n q=>injection e with e;subst e;exact#[_,_,_,rfl,rC.of h,r.weak,λb hb=>(q b).mpr (.inr hb),λy x _ _ k=>rC.of ((k _ ((q _).mpr (.inl rfl))).trans h)]|tup=>cases e|dct=>cases e|lstF h r n=>injection e with e;subst e;exact#[_,_,_,rfl,f.seq h,Trs.of_reps r,λb hb=>hb.elim,λy x w z _=>(w.trans z).seq h]
theorem Tr.tpS(f:Same F H)(h:Tr K F H st v t Z)(e:t.vw=.tp ts):∃a vs S',v=.ref a/\CD K H a vs/\Trs K F H kb vs ts S'/\(∀b,S' b->Z b)/\∀y x,Same F y->Same y x->(∀b,Z b->x b=H b)->CD K x a vs:=by
 cases h with
 |d r n =>
  cases r with|tup q r=>injection e with e;subst e;exact#[_,_,_,rfl,f.tupl q,Trs.of_reps r,λb hb=>hb.elim,λy x w z _=>(w.trans z).tupl q]|dct _ _ _=>exact(tM e).elim|_=>cases e
 |tup h _ r n q=>injection e with e;subst e;exact#[_,_,_,rfl,CD.of h,r.weak,λb hb=>(q b).mpr (.inr hb),λy x _ _ k=>CD.of ((k _ ((q _).mpr (.inl rfl))).trans h)]|lst=>cases e|lstF=>cases e|dct=>cases e
theorem Tr.seqS(f:Same F H)(h:Tr K F H st v t Z)(e:t.vw.seq=jr ts):∃a vs sz,v=.ref (Src.adr sz)/\c5 K H sz vs/\(∃S',Trs K F H kb vs ts S')/\a=Src.adr sz/\∀k z,Same F k->Same k z->(∀b,Z b->z b=H b)->c5 K z sz vs:=by
 generalize ev:t.vw=w at e;cases w with|ls g=>cases e;let#[a,vs,S',rfl,y,x,_,hs]:=h.lsS f ev;exact#[a,vs,.l a,rfl,y,#[S',x],rfl,hs]|tp g=>cases e;let#[a,vs,S',rfl,y,x,_,hs]:=h.tpS f ev;exact#[a,vs,.t a,rfl,y,#[S',x],rfl,hs]|_=>cases e
end
mutual
theorem bX{F:Hp}:∀{k:NK}{v:V},yp K F k v->Rep K F v (tD k)
 | .s x,v,h=>by cases(show v=.str x from h);exact .str x|.t ks,v,#[a,xs,e,q,p]=>by subst e;exact .tup q (ky_reps p)
theorem ky_reps{F:Hp}:∀{ks:List NK}{vs:LV},KyVs K F ks vs->Reps K F vs (tDs ks)
 |[],vs,h=>by cases(show vs=[] from h);exact .nil|k::ks,vs,#[x,r,e,p,q]=>by subst e;exact .cons (bX p) (ky_reps q)
end
theorem iZ{Y:gB}:∀{kvs:List KE}{ds:List D},CG K F kvs->Reps K F (kvs.map (·.2.2)) ds->xb (A4 K F H Y) (kvs.map λp=>.tup [.ref p.2.1,p.2.2]) (((kvs.map λp=>tD p.1).zip ds).map λp=>T.d (.tuple [p.1,p.2]))
 |[],_,_,.nil=>.nil|p::r,_,hk,.cons h t=>by simp only[QS,QAW];exact .cons #[[_,_],rfl,.cons (bX (hk p QF).1) (.cons h .nil)] (iZ (λp x=>hk p (QE _ x)) t)
theorem aZ{Y:gB}:∀{kvs:List KE},CG K F kvs->xb (A4 K F H Y) (kvs.map λp=>.one (.ref p.2.1)) ((kvs.map λp=>tD p.1).map T.d)
 |[],_=>.nil|p::r,hk=>.cons #[λ_=>False,.d (bX (hk p QF).1) λ_ z=>z,λ_ z=>z.elim] (aZ λp h=>hk p (QE _ h))
theorem tU{Y:gB}:∀{xs:LV}{ds:List D}(_:Reps K F xs ds) (g:Nat->Int) (n:Nat),xb (A4 K F H Y) ((xs.zipIdx n).map λp=>.tup [.int (g p.2),p.1]) ((ds.zipIdx n).map λp=>T.d (.tuple [.int (g p.2),p.1]))
 |_,_,.nil,g,n=>by simp only[List.zipIdx_nil,wT];exact .nil|_,_,.cons h t,g,n=>by simp only[List.zipIdx_cons,QS];exact .cons #[[_,_],rfl,.cons (.int _) (.cons h .nil)] (tU t g (n+1))
theorem lN{α x:Type}{R:α->x->Prop}:∀{l z:List α}{m y:List x},xb R l m->xb R z y->xb R (l++z) (m++y)
 |_,_,_,_,.nil,h=>h|_,_,_,_,.cons r t,h=>.cons r (lN t h)
theorem fN{α h:Type}{R:α->h->Prop}:∀{l:List α}{m:List h},xb R l m->xb R l.reverse m.reverse
 |_,_,.nil=>.nil|_,_,.cons r t=>by rw[wk,wk];exact lN (fN t) (.cons r .nil)
theorem pK{L:ItK}{Y:gB}{vs:LV}{ts:LT}{S:LT->Prop}{RR:List Item->(Hp->Prop)->Hp->Prop}(f:Same F H)(X:Tn K F H Y vs ts)(h:MB L (ts.map T.vw) S)
  (k:∀xs Q st,xb (A4 K F H Y) xs Q->(∀l w,Same F l->Same l w->(∀b,Y b->w b=H b)->st w)->S Q->RR xs st H):mC K L vs H RR:=by
 cases L with
 |val =>
  rcases h with⟨G,e,h⟩| ⟨G,e,h⟩| ⟨A,G,e,h⟩
  let#[v,t,Z,rfl,rfl,e,r,z]:=X.one e;let#[p,xs,R,rfl,I,m,E,hs]:=r.lsS f e;exact .inl #[xs,I,k _ _ _ (cX m λb hb=>z b (E b hb)) (λl w y u q=>hs l w y u λb hb=>q b (z b hb)) h];let#[v,t,Z,rfl,rfl,e,r,z]:=X.one e;let#[p,xs,R,rfl,I,m,E,hs]:=r.tpS f e;exact .inr (.inl #[xs,I,k _ _ _ (cX m λb hb=>z b (E b hb)) (λl w y u q=>hs l w y u λb hb=>q b (z b hb)) h]);let#[v,t,Z,rfl,rfl,y,W,B]:=X.one e;let#[a,o,xs,_,rfl,M,P,m,_,hs]:=W.dc f y;let#[s,g,rfl,rfl,rfl,N,_]:=P;exact .inr (.inr #[s,g,M,k _ _ _ (aZ N) (λl w y u q=>hs l w y u λb hb=>q b (B b hb)) h])
 |rng1=>let#[j,e,h]:=h;let#[v,t,Z,rfl,rfl,e,r,_]:=X.one e;obtain rfl:=r.int e;exact#[h.1,k _ _ _ (tZ (λ(i:Nat)=>.int (i:Int)) (λ(i:Nat)=>.int (i:Int)) (λc=>.int _) _) (λ_ _ _ _ _=>trivial) h.2]|rev=>let#[G,e,h]:=h;let#[v,t,Z,rfl,rfl,e,r,z]:=X.one e;let#[p,xs,R,rfl,I,m,E,hs]:=r.lsS f e;have q:=fN (cX m λb hb=>z b (E b hb));rw[<- W0]at q;exact#[xs,I,k _ _ _ q (λl w y u q=>hs l w y u λb hb=>q b (z b hb)) h]|enum=>let#[x,G,C,e,g1,O,q]:=h;let#[v,t,Z,rfl,rfl,y,W,B]:=X.one e;let#[a,xs,sz,rfl,hq,#[_,m],_,hs]:=W.seqS f (by rw[y];exact g1);exact#[sz,xs,rfl,hq,k _ _ _ (tU (m.un O).1 (λi=>(i:Int)) 0) (λl w y u q=>hs l w y u λb hb=>q b (B b hb)) q]|itm =>
  rcases h with⟨A,G,C,e,O,q⟩| ⟨e,q⟩
  rotate_left
  let#[v,t,Z,rfl,rfl,y,W,B]:=X.one e;let#[_,m]:=W.sc y;generalize ed:PyData.dict []=d at m;cases m with
  |@dct b a o A vs C h J r =>
   have ez:A.zip C=[]:=by injection ed with ed;exact ed.symm
   have hl:A.9=C.length:=by rw[J.len,Reps.length r]
   have ek:A=[]:=by
    cases A with
    |nil=>rfl|cons k A =>
     cases C with|nil=>cases hl|cons d C=>cases ez
   subst ek;have eo:∃s,o=.dT s []:=by
    cases b with
    |true =>
     let#[s,g,y,u,_]:=J;cases g with|nil=>exact#[s,y]|cons p r=>cases u
    |false =>
     rcases J with⟨g,n,_,u,_⟩| ⟨s,y,_⟩
     cases g with|nil=>exact i2 rfl n|cons p r=>cases u
     exact#[s,y]
   let#[s,rfl]:=eo;exact#[s,[],f _ _ h,k _ _ _ .nil (λl w y u _=>u _ _ (y _ _ h)) q]
  |_=>cases ed
  let#[v,t,Z,rfl,rfl,y,W,B]:=X.one e;let#[a,o,xs,_,rfl,M,P,m,_,hs]:=W.dc f y;let#[s,g,rfl,rfl,rfl,N,_]:=P;exact#[s,g,M,k _ _ _ (iZ N (m.un O).1) (λl w y u q=>hs l w y u λb hb=>q b (B b hb)) q]
end
section
variable{i j:Nat}{Z:gB}
def RH(S:Ft)(i:Nat)(Z:gB):Ft:=λj=>if j=i then Z else S j
theorem IA{S:Ft}:RH S i Z i=Z:=i0 rfl
theorem ZA{S:Ft}(h:j≠i):RH S i Z j=S j:=ii h
theorem dA{α:Type}{l:List α}{x y:α}(h:(l.set i x)[j]?=jr y):(i=j/\y=x/\i<l.9)∨(i≠j/\l[j]?=jr y):=by rw[wJ]at h;by_cases e:i=j;subst e;rw[i0 rfl]at h;by_cases hl:i<l.9;rw[i0 hl]at h;cases h;exact .inl #[rfl,rfl,hl];rw[ii hl]at h;cases h;rw[ii e]at h;exact .inr #[e,h]
theorem CY{α:Type}{l:List α}{x:α}(h:i<l.9):(l.set i x)[i]?=jr x:=by rw[wJ,i0 rfl,i0 h]
theorem xE{α:Type}{l:List α}{x:α}(h:i≠j):(l.set i x)[j]?=l[j]?:=by rw[wJ,ii h]
end
section
variable{K:QA}{Γ:Ev}{Ψ:PEv}{E:XE}{L:XK}{F H D G:Hp}{S S1:Ft}{ρ C:xA}{σ:St}
section
variable{Z Y:gB}{A X:Hp}{S':Ft}{g:xA}{o:St}{st:Bool}{B:Tg}{k:Nat}{l:List Bool}
theorem Rl.setB(I:Rl K F H S ρ σ)(i:Nat){v:V}{t:T}(r:Tr K F H kb v t Z)(m:∀(j:Nat) u,j≠i->ρ[j]?=jr (jr (.own u))->∀b,Z b->¬ S j b):Rl K F H (RH S i Z) (ρ.set i (jr (.bor t))) (σ.set i (jr v)) where
 fh:=I.fh
 len:=by simpa using I.len
 sl:=λj s h=>by
  rcases dA h with⟨rfl,e,hl⟩| ⟨w,h⟩
  cases e;exact#[v,CY (by rw[<- I.len];exact hl),by rw[IA];exact r];rw[xE w,ZA (qC w)];exact I.sl j s h
 dj:=λj k z s n x y b hb hk=>by
  rcases dA x with⟨_,e,_⟩| ⟨f,x⟩
  cases e;rw[ZA (qC f)]at hb;rcases dA y with⟨e,_,_⟩| ⟨a,y⟩
  subst e;rw[IA]at hk;exact m j z n x b hk hb;rw[ZA (qC a)]at hk;exact I.dj j k z s n x y b hb hk
structure Bd(J:LN)(F H:Hp)(S:Ft)(ρ:xA)(σ:St)(A X:Hp)(S':Ft)(g:xA)(o:St):Prop where
 ff:Same F A
 hh:Same H X
 fn:∀b,F b=kv->A b≠kv->H b=kv
 out:∀j,j∉J->g[j]?=ρ[j]?/\S' j=S j/\o[j]?=σ[j]?
 inn:∀j t,j∈J->g[j]?≠jr (jr (.own t))
theorem Bd.U{J:LN}(h:Bd J F H S ρ σ A X S' g o){b:k0}(u:U g S' b):L3.U ρ S b:=by let#[i,t,x,z]:=u;by_cases y:i∈J;exact i2 x (h.inn i t y);let#[w,v,_]:=h.out i y;rw[w]at x;rw[v]at z;exact#[i,t,x,z]
theorem Bd.dm{J:LN}(h:Bd J F H S ρ σ A X S' g o)(b:k0)(e:X b=kv):H b=none:=h.hh.free e
theorem FY{Y:gB}(s:∀b,Y b->¬ U ρ S b):∀(w:LN) {vs:LV}{ts:LT}{S1:Ft}{C g:xA}{x:St}{J:LN},(∀i∈w,i∈J)->Rl K F H S1 C x->(∀b,U C S1 b->U ρ S b)->Tn K F H Y vs ts->eB w ts C=jr g ->
  ∃o S',bB w vs x=jr o/\Rl K F H S' g o/\(∀j,j∉J->g[j]?=C[j]?/\S' j=S1 j/\o[j]?=x[j]?)/\(∀j t,g[j]?=jr (jr (.own t))->j∉w/\C[j]?=jr (jr (.own t)))
 |[],_,_,S1,C,g,x,J,hJ,I,hu,.nil,h=>by simp only[eB,Qr]at h;subst h;exact#[x,S1,rfl,I,λ_ _=>#[rfl,rfl,rfl],λj t h=>#[(by simp),h]]|[],_,_,_,_,_,_,_,_,_,_,.cons _ _ _,h=>by simp[eB]at h|_::_,_,_,_,_,_,_,_,_,_,_,.nil,h=>by simp[eB]at h|i::w,_,_,S1,C,g,x,J,hJ,I,hu,.cons (v:=v) (t:=t) (Z:=Z) r z tl,h=>by
  simp only[eB]at h;have nu:∀b,Z b->¬ U C S1 b:=λb hb u=>s b (z b hb) (hu b u);have R:=I.setB i r λj u _ y b hb hs=>nu b hb #[j,u,y,hs];have p:∀b,U (C.set i (jr (.bor t))) (RH S1 i Z) b->U ρ S b:=λb #[j,u,q,W]=>by
   rcases dA q with⟨_,e,_⟩| ⟨n,q⟩
   cases e;rw[ZA (qC n)]at W;exact hu b #[j,u,q,W]
  let#[o,S',Q,P,O,N]:=FY s w (λj y=>hJ j (QE _ y)) R p tl h;refine#[o,S',Q,P,λj y=>?_,λj u y=>?_];let#[f,a,M]:=O j y;have n:i≠j:=λe=>y (e▸hJ i QF);rw[xE n]at f M;rw[ZA (qC n)]at a;exact#[f,a,M];let#[f,a]:=N j u y;rcases dA a with⟨_,e,_⟩| ⟨n,a⟩
  cases e;exact#[λm=>(QL.mp m).elim (λe=>n e.symm) f,a]
theorem Tn.of_trs{vs:LV}{ts:LT}(h:Trs K F H st vs ts Z)(z:∀b,Z b->Y b):Tn K F H Y vs ts :=
 Trs.ind (R:=λ_ vs ts Z=>(∀b,Z b->Y b)->Tn K F H Y vs ts) (λ_ _=>.nil) (λh _ _ q x z=>.cons h.weak (λb hb=>z b ((q b).mpr (.inl hb))) (x λb hb=>z b ((q b).mpr (.inr hb)))) h z
theorem kO{it:Item}{t:T}{QP:xA->Prop}{RP:St->Hp->Prop}(I:Rl K F H S ρ σ)(hy:∀b,Y b->¬ U ρ S b)(r:A4 K F H Y it t)(h:JL B t ρ QP)
  (k:∀m f w x O,Bd B.ix F H S ρ σ w x O m f->Rl K w x O m f->QP m->RP f x):bindI K B it σ H RP:=by
 have nm:∀(i:Nat) {v:V}{t:T}{Z:gB}{w x:Hp}{O:Ft},Same F w->Same H x->(∀b,F b=kv->w b≠kv->H b=kv)->Rl K w x O ρ σ->O=S->Tr K w x kb v t Z->(∀b,Z b->¬ U ρ S b)->QP (ρ.set i (jr (.bor t)))->B=.nm i->RP (σ.set i (jr v)) x:=by
  intro i v t Z w x O R e2 e3 I2 hS r hz q ht;subst hS ht;refine k _ _ w x (RH O i Z) #[R,e2,e3,λj N=>?_,λj u N hu=>?_] (I2.setB i r λj u _ N b hb hs=>hz b hb #[j,u,N,hs]) q;have n:i≠j:=λe=>N (by subst e;exact QJ.mpr rfl);exact#[xE n,ZA (qC n),xE n];have e:j=i:=QJ.mp N;subst e;rcases dA hu with⟨_,e,_⟩| ⟨n,_⟩
  cases e;exact n rfl
 have tp:∀(y:LN) {W:LV}{P:LT}{x:Hp}{g:xA},Same H x->B=.tp y->Tn K F x Y W P->eB y P ρ=jr g->QP g->∃o,bB y W σ=jr o/\RP o x:=by intro y W P x g e2 ht r e q;subst ht;let#[o,S',g1,g2,g3,g4]:=FY hy y (J:=y) (λi hi=>hi) (I.same e2) (λb u=>u) r e;exact#[o,g1,k _ _ F x S' #[.refl _,e2,λb h z=>i2 h z,g3,λj u N hu=>(g4 j u hu).1 N] g2 q]
 cases it with
 |one v =>
  let#[Z,r,z]:=r;cases B with|nm i=>exact nm i (.refl _) (.refl _) (λb h z=>i2 h z) I rfl r (λb hb=>hy b (z b hb)) h rfl|tp y=>have Q:(match t.vw with | .tp P=>∃g,eB y P ρ=jr g/\QP g|_=>False):=h;split at Q;rename_i P e;let#[g,R,q]:=Q;let#[a,W,S',rfl,M,rp,z2]:=r.tp I.fh e;let#[o,g1,g2]:=tp y (.refl _) rfl (Tn.of_trs rp λb hb=>z b (z2 b hb)) R q;exact#[W,o,M,g1,g2];exact Q.elim
 |tup W =>
  let#[ds,rfl,rd]:=r;cases B with|nm i=>intro p M;refine nm i (OB (I.fh.free M)) (OB M) (λb h1 Q=>?_) (I.newT M (.tup W)) rfl (.d (S:=λ_=>False) (.tup (CD.of YA) (rd.mono (OB (I.fh.free M)))) λ_ z=>z) (λb z=>z.elim) h rfl;by_cases hb:b=p;rw[hb];exact M;rw[uA hb]at Q;exact i2 h1 Q|tp y=>intro X s;let#[g,R,q]:=h;exact tp y s rfl (Tn.of_trs (Trs.of_reps (st:=kb) rd) λb hb=>hb.elim) R q
noncomputable def Jf(k:Nat)(S:Ft):Ft:=λi=>if i<k then λ_=>False else S (i - k)
theorem DP:∀(m:List Bool) (ρ:xA) (i:Nat) s,(fC m ρ)[i]?=jr (jr s)->ρ[i]?=jr (jr s)/\m.getD i kb=kb
 |[],ρ,i,s,h=>by
  have e:fC [] ρ=ρ:=by cases ρ<;>rfl
  rw[e]at h;exact#[h,rfl]
 |b::m,[],i,s,h=>by simp[fC]at h|b::m,v::ρ,0,s,h=>by
  cases b with|true=>simp[fC]at h|false=>simp[fC]at h;simp[h]
 |b::m,v::ρ,i+1,s,h=>by simp only[fC,wq]at h;let#[y,x]:=DP m ρ i s h;exact#[by simpa using y,by simpa using x]
theorem BP:∀(m:List Bool) (σ:St) (i:Nat) v,σ[i]?=jr (jr v)->m.getD i kb=kb->(CC m σ)[i]?=jr (jr v)
 |[],σ,i,v,h,_=>by
  have e:CC [] σ=σ:=by cases σ<;>rfl
  rw[e];exact h
 |b::m,[],i,v,h,_=>by simp at h|b::m,w::σ,0,v,h,hb=>by
  have:b=false:=by simpa using hb
  subst this;simpa[CC]using h
 |b::m,w::σ,i+1,v,h,hb=>by simp only[CC,wq];exact BP m σ i v (by simpa using h) (by simpa using hb)
theorem CP:∀(m:List Bool) (ρ:xA),(fC m ρ).9=ρ.9
 |[],ρ=>by cases ρ<;>rfl|_::_,[]=>rfl|b::m,v::ρ=>by simp[fC,CP m ρ]
theorem pG{ρ:xA}{i:Nat}{s:Sl}(h:(MO k l ρ)[i]?=jr (jr s)):k<=i/\ρ[i - k]?=jr (jr s)/\l.getD (i - k) kb=false:=by unfold MO at h;rcases QBO i k with z|z;rw[qP (by simpa using z),wt]at h;split at h<;>cases h;rw[Qx (by simpa using z)]at h;simp only[wA]at h;let#[y,x]:=DP l ρ _ s h;exact#[z,y,x]
theorem Rl.ent(I:Rl K F H S ρ σ)(k:Nat)(l:List Bool):Rl K F H (Jf k S) (MO k l ρ) (iJ k l σ) where
 fh:=I.fh
 len:=by simp[MO,iJ,CP,oK,I.len]
 sl:=λi s h=>by let#[h0,z,y]:=pG h;let#[v,w,u]:=I.sl _ s z;refine#[v,?_,?_];unfold iJ;rw[Qx (by simpa using h0)];simp only[wA];exact BP l σ _ v w y;unfold Jf;rw[ii ()];exact u
 dj:=λi j t s n z y b hb x=>by let#[m,e,_]:=pG z;let#[f,a,_]:=pG y;unfold Jf at hb x;rw[ii ()]at hb x;exact I.dj (i - k) (j - k) t s () e a b hb x
theorem LZ(b:k0):¬ U (MO k l (lockA ρ)) S' b:=λ#[i,t,h,_]=>by let#[_,x,_]:=pG h;let#[_,_,e]:=iB x;cases e
theorem Paired.get_of{α v:Type}{R:α->v->Prop}{xs:List α}{u:List v}(h:xb R xs u):∀{i:Nat}{x:α},xs[i]?=jr x->∃y,u.drop i=y::u.drop (i+1)/\R x y:=by
 induction h with
 |nil=>intro i x e;simp at e|@cons x y xs u h t a =>
  intro i z e;cases i with|zero=>simp at e;subst e;exact#[y,by simp,h]|succ i=>let#[w,f,b]:=a (i:=i) (by simpa using e);exact#[w,by simpa using f,b]
structure Pur(F H A X:Hp):Prop where
 ff:Same F A
 hh:Same H X
 fn:∀b,F b=kv->A b≠kv->H b=kv
theorem Pur.trans{u y:Hp}(a:Pur F H D G)(b:Pur D G u y):Pur F H u y:=#[a.ff.trans b.ff,a.hh.trans b.hh,λx h z=>by by_cases q:D x=kv;exact a.hh.free (b.fn x q z);exact a.fn x h q]
theorem Pur.ste(p:Pur F H D G):Ste F H S ρ D G S ρ:=#[#[p.ff,λb u h _=>p.hh b u h,λb h=>p.hh.free h,λb h z=>.inr (p.fn b h z),λb h=>.inl h,λ_ _ h _=>#[h,rfl]],λ_ t h=>#[t,h]]
theorem Pur.rl(p:Pur F H D G)(f:Same D G)(I:Rl K F H S ρ σ):Rl K D G S ρ σ:=#[f,I.len,λi s e=>by
 let#[v,y,h]:=I.sl i s e;exact#[v,y,h.mono p.ff λb hb=>by
  let#[x,z]:=h.dom b hb;refine#[?_,?_];cases e:H b with|none=>exact i2 e x|some u=>exact p.hh b u e
  by_cases q:D b=kv
  ·exact q
  exact i2 (p.fn b z q) x],I.dj]
theorem Stp.pur(s:Stp F H S ρ D G S' g)(n:∀b,¬ U ρ S b):Pur F H D G:=#[s.ff,λb u h=>s.hh b u h (n b),λb h z=>(s.fn b h z).elim (λq=>i2 q (n b)) id]
theorem Pur.trs(p:Pur F H D G){v:LV}{t:LT}(h:Trs K F H st v t Z):Trs K D G st v t Z:=h.mono p.ff λb hb=>by
  let#[x,y]:=h.dom b hb;refine#[?_,?_];cases e:H b with|none=>exact i2 e x|some u=>exact p.hh b u e
  by_cases q:D b=kv
  ·exact q
  exact i2 (p.fn b y q) x
theorem R9{ws:LN}{N:Nat}{c:xA->(Bool->xA->Prop)->Prop}{e:xA->TK->Prop}{tc:TT}{te:TE}{us:LN}
  (ic:∀{F H:Hp}{S:Ft}{ρ:xA}{σ:St}{Q:Bool->xA->Prop}{R:Bool->Hp->Prop},Rl K F H S ρ σ->c ρ Q->LH K F H S ρ σ Q R->tc σ H R)
  (ie:∀{F H:Hp}{S:Ft}{ρ:xA}{σ:St}{Q:TK}{R:VK},Rl K F H S ρ σ->e ρ Q->uB K us F H S ρ σ Q R->te σ H R)
  {F0 H0:Hp}{S0:Ft}{P:xA}(s:Ste F0 H0 S0 P F H S ρ) (I:Rl K F H S ρ σ) {xs:List Item}{M:LT}{st:Hp->Prop}(pr:xb (A4 K F H Y) xs M) (hyd:∀b,Y b->H b≠kv/\F b=kv) (hst:∀A X,Same F A->Same A X->(∀b,Y b->X b=H b)->st X) {Q:TK}{R:VK}
  (h:vD (sG B (MO N l (lockA ρ)) c e) M [] λM=>Q (.lst M) kf ρ) (k:uB K ws F0 H0 S0 P σ Q R) :
  V0 K xs st B tc te (iJ N l σ) H R:=by
 refine S9 ?_;have len:=Q6 pr;have yk:∀{A X:Hp},Pur F H A X->∀b,Y b->X b=H b/\A b=none:=λ{A X} p b hb=>by
  let#[d1,d2]:=hyd b hb;refine#[?_,?_];cases e:H b with|none=>exact i2 e d1|some u=>exact p.hh b u e
  by_cases q:A b=kv
  ·exact q
  exact i2 (p.fn b d2 q) d1
 refine#[λi m X=>∃A w W,Pur F H A X/\Same A X/\Trs K A X kf m w W/\(∀b,W b->H b=kv)/\vD (sG B (MO N l (lockA ρ)) c e) (M.drop i) w λM=>Q (.lst M) kf ρ,
  #[F,[],λ_=>False,#[.refl _,.refl _,λb h z=>i2 h z],I.fh,.nil λ_ z=>z,λ_ z=>z.elim,by simpa using h],?_,?_,?_]
 rintro i m X _ ⟨A,w,W,p,f,_,_,_⟩;exact hst A X p.ff f λb hb=>(yk p b hb).1;rintro i x m G hx ⟨D,w,W,p1,f1,J,hw,hc⟩;let#[y,hd,ry]:=Paired.get_of pr hx;rw[hd]at hc;unfold vD at hc;unfold sG at hc;have I1:Rl K D G (Jf N S) (MO N l (lockA ρ)) (iJ N l σ):=((p1.rl f1 I).lockA).ent N l;refine kO I1 (λb _=>LZ b) (ry.mono p1.ff (yk p1)) hc λρ2 σ2 F2 H2 S2 O I2 hc=>?_;have p2:Pur D G F2 H2:=#[O.ff,O.hh,O.fn]
 have nu2:∀b,¬ U ρ2 S2 b:=λb u=>LZ b (O.U u);refine ic I2 hc λb F3 H3 S3 ρ3 s3 I3 q=>?_;have p3:Pur F2 H2 F3 H3:=s3.toStp.pur nu2;have nu3:∀b,¬ U ρ3 S3 b:=λb #[j,t,h1,_]=>by let#[t0,h0]:=s3.ow j t h1;by_cases hj:j∈B.ix;exact O.inn j t0 hj h0;rw[(O.out j hj).1]at h0;let#[_,h1,_]:=pG h0;let#[_,_,e]:=iB h1;cases e
 have a:=p1.trans (p2.trans p3);cases b with
 |false=>exact#[F3,w,W,a,I3.fh,p3.trs (p2.trs J),hw,q]|true =>
  refine ie I3 q λv F4 H4 S4 ρ4 z n Z s4 I4 r4 #[hk,hl,hc]=>?_;have p4:Pur F3 H3 F4 H4:=s4.toStp.pur nu3;have ra4:=p4.trs (p3.trs (p2.trs J));have rz:∃Z',Tr K F4 H4 kf v z Z'/\∀b,Z' b->H3 b=none:=by
   cases n with
   |true=>exact#[Z,r4.tr,λb hb=>(r4.fr rfl b hb).elim id λu=>i2 u (nu3 b)]|false =>
    cases z with
    |d x =>
     have tr:=r4.tr;cases tr with|d r n=>exact#[λ_=>False,.d r λ_ z=>z,λ_ z=>z.elim]
    |_=>exact i2 hk (by simp[uH,T.isD])
  let#[Z',rz,fz]:=rz;refine#[by rw[J.9];exact hl,F4,_,λb=>W b∨Z' b,a.trans p4,I4.fh,ra4.append (Trs.one rz) λb hb hz=>?_,λb hb=>?_,hc];have q1:=(J.dom b hb).1;exact q1 ((p2.trans p3).hh.free (fz b hz));rcases hb with hb|hb
  ·exact hw b hb
  exact a.hh.free (fz b hb)
 rintro m X ⟨A,w,W,p,f,J,hw,hc⟩;rw[len,List.drop_length]at hc;unfold vD at hc;have I':=p.rl f I;refine#[by rw[J.9];exact hc.1,λq hq=>?_];refine uB.list (k.from s) (p.ste) I' hq J (λb hb=>.inl (hw b hb)) #[J.dom,λi sl hi b hb z=>?_] hc.2;exact(I.dom hi z).1 (hw b hb)
end
end
section
variable{K:QA}{Γ:Ev}{Ψ:PEv}{E:XE}{p:XK}{F H l c:Hp}{S S1:Ft}{ρ y:xA}{σ:St}
theorem Tr.shal{v:V}{u t:T}{Z:gB}(h:Tr K F H kb v u Z)(e:DF u=jr t):Tr K F H kb v t Z:=by
 unfold DF at e;split at e;rename_i ts ev;cases x:GG ts with
 |none=>rw[x]at e;cases e|some f =>
  rw[x]at e;injection e with e;subst e;cases h with
  |d r n =>
   cases r with|lst q r=>injection ev with ev;subst ev;rw[JA]at x;injection x with x;subst x;exact .lstF q r n|dct _ _ _=>exact(PH ev).elim|_=>cases ev
  |lst k w z b a=>injection ev with ev;subst ev;show Tr K F H kb _ (.lst (f.map T.d)) Z;rw[<- ZM x];exact .lst k w z b a|tup=>cases ev|dct=>cases ev|lstF k w z=>injection ev with ev;subst ev;rw[JA]at x;injection x with x;subst x;exact .lstF k w z
 split at e
 ·injection e with e;subst e;exact h
 cases e
theorem AV.pass{Y:gB}{md:List Md}{vs:LV}{xs:List (T×Bool)}{W:gB}(h:AV K F H md vs xs W Y)(e:Same F l)(k:∀b,W b->l b=H b)(C:∀b,Y b->F b=kv->l b=kv) :
  ∀{f ts:LT},VA md xs f=jr ts->ArgsR K l H Y md vs ts/\LB md ts=f:=by
 induction h with
 |nil h =>
  intro f ts w;cases f with|nil=>simp only[VA,Qr]at w;subst w;exact#[.nil,rfl]|cons _ _=>simp[VA]at w
 |@chg md v vs x xs W Y h t B =>
  intro f ts w;have hm:md.headD .fro=.chg:=by generalize md.headD .fro=m at h;cases m<;>first|rfl|cases h
  unfold VA at w;rw[hm]at w;cases f with
  |nil=>cases w|cons o f =>
   cases a:VA md.tail xs f with|none=>simp only[a,qj]at w;cases w|some A=>simp only[a,Q5,Qr]at w;subst w;let#[j,i]:=B k C a;refine#[.chg hm j,?_];unfold LB;rw[hm];simp only[i]
 |@new md v vs x xs Z W I Y h r t n q B =>
  intro f ts w;have s:Tr K l H kb v (.d x.er) (λ_=>False):=.d (r.kept e λb u hb G=>by rw[k b ((q b).mpr (.inl hb))];exact G) λ_ z=>z;have g:=@B (λb hb=>k b ((q b).mpr (.inr hb))) C;unfold VA at w;cases hm:md.headD .fro with
  |chg=>rw[hm]at h;cases h|fro =>
   simp only[hm,gA]at w;cases a:VA md.tail xs f with|none=>simp only[a,qj]at w;cases w|some A=>simp only[a,Q5,Qr]at w;subst w;let#[j,i]:=g a;exact#[.rd (by rw[hm];simp) s (λ_ z=>z.elim) j,by unfold LB;rw[hm];exact i]
  |shal =>
   simp only[hm,gA]at w;cases X:DF (.d x.er) with
   |none=>simp only[X]at w;cases w|some u =>
    simp only[X]at w;cases a:VA md.tail xs f with|none=>simp only[a,qj]at w;cases w|some A=>simp only[a,Q5,Qr]at w;subst w;let#[j,i]:=g a;exact#[.rd (by rw[hm];simp) (s.shal X) (λ_ z=>z.elim) j,by unfold LB;rw[hm];exact i]
  |bor =>
   simp only[hm,gA]at w;cases a:VA md.tail xs f with|none=>simp only[a,qj]at w;cases w|some A=>simp only[a,Q5,Qr]at w;subst w;let#[j,i]:=g a;exact#[.rd (by rw[hm];simp) s (λ_ z=>z.elim) j,by unfold LB;rw[hm];exact i]
 |@tmp md v vs x xs Z W Y h r z t B =>
  intro f ts w;have s:Tr K l H kb v x Z:=r.mono e λb hb=>#[rfl,C b (z b hb) (r.dom b hb).2]
  have g:=@B k C;unfold VA at w;cases hm:md.headD .fro with
  |chg=>rw[hm]at h;cases h|fro =>
   simp only[hm,gA]at w;cases x with
   |d x =>
    cases a:VA md.tail xs f with|none=>simp only[a,qj]at w;cases w|some A=>simp only[a,Q5,Qr]at w;subst w;let#[j,i]:=g a;exact#[.rd (by rw[hm];simp) s z j,by unfold LB;rw[hm];exact i]
   |_=>cases w
  |shal =>
   simp only[hm,gA]at w;cases X:DF x with
   |none=>simp only[X]at w;cases w|some u =>
    simp only[X]at w;cases a:VA md.tail xs f with|none=>simp only[a,qj]at w;cases w|some A=>simp only[a,Q5,Qr]at w;subst w;let#[j,i]:=g a;exact#[.rd (by rw[hm];simp) (s.shal X) z j,by unfold LB;rw[hm];exact i]
  |bor =>
   simp only[hm,gA]at w;cases a:VA md.tail xs f with|none=>simp only[a,qj]at w;cases w|some A=>simp only[a,Q5,Qr]at w;subst w;let#[j,i]:=g a;exact#[.rd (by rw[hm];simp) s z j,by unfold LB;rw[hm];exact i]
theorem dD:∀(J:LN) (ρ:xA) (i:Nat) s,(clear J ρ)[i]?=jr (jr s)->i∉J/\ρ[i]?=jr (jr s)
 |[],ρ,i,s,h=>#[(by simp),h]|j::J,ρ,i,s,h=>by
  unfold clear at h;let#[u,z]:=dD J _ i s h;rcases dA z with⟨_,e,_⟩| ⟨n,x⟩
  cases e;exact#[λm=>(QL.mp m).elim (λe=>n e.symm) u,x]
theorem OP:∀(J:LN) (ρ:xA),(clear J ρ).9=ρ.9
 |[],_=>rfl|j::J,ρ=>by unfold clear;rw[OP J];simp
theorem Rl.drop(I:Rl K F H S ρ σ)(hl:y.9=ρ.9)(h:∀(i:Nat) s,y[i]?=jr (jr s)->ρ[i]?=jr (jr s)):Rl K F H S y σ :=
 #[I.fh,hl.trans I.len,λi s e=>I.sl i s (h i s e),λi j t s n z x=>I.dj i j t s n (h i _ z) (h j _ x)]
theorem PD:∀{J:LN}{ρ:xA}{x:LT},LA J ρ=jr x->x.9=J.9/\∀(i:Nat) j,J[i]?=jr j->∃t,x[i]?=jr t/\ρ[j]?=jr (jr (.own t))
 |[],ρ,x,h=>by simp only[LA,Qr]at h;subst h;exact#[rfl,λi j e=>by simp at e]|j::J,ρ,x,h=>by
  unfold LA at h;split at h;rename_i t e;cases z:LA J ρ with
  |none=>rw[z]at h;cases h|some f =>
   rw[z]at h;injection h with h;subst h;let#[w,v]:=PD z;refine#[by simp[w],λi k hk=>?_];cases i with|zero=>simp at hk;subst hk;exact#[t,rfl,e]|succ i=>let#[u,b,a]:=v i k (by simpa using hk);exact#[u,by simpa using b,a]
  cases h
theorem Rl.trs(I:Rl K F H S ρ σ):∀{J:LN}{w:LT}{vs:LV},J.Nodup->LA J ρ=jr w->vs.map (λv=>jr (jr v))=J.map (λj=>σ[j]?)->Trs K F H kf vs w (λb=>∃j∈J,S j b)
 |[],w,vs,_,h,hv=>by
  simp only[LA,Qr]at h;subst h;cases vs with|nil=>exact .nil λb #[j,m,_]=>by simp at m|cons _ _=>simp at hv
 |j::J,w,vs,nd,h,hv=>by
  unfold LA at h;split at h;rename_i t e;cases a:LA J ρ with
  |none=>rw[a]at h;cases h|some r =>
   rw[a]at h;injection h with h;subst h;cases vs with
   |nil=>simp at hv|cons v vs =>
    simp only[QS,Wa]at hv;let#[f,q,o]:=I.sl j _ e;rw[q]at hv;have:v=f:=by simpa using hv.1
    subst this;have x:=Qk.mp nd;refine .cons o (Rl.trs I x.2 a hv.2) (λb hb #[k,hk,z]=>?_) λb=>?_;let#[i,n]:=Wr.mp hk;let#[u,_,g]:=(PD a).2 i k n;exact I.dj j k t _ (λz=>x.1 (z▸hk)) e g b hb z;constructor
    ·rintro⟨k,hk,z⟩
     rcases QL.mp hk with e|e;subst e;exact .inl z;exact .inr #[k,e,z]
    rintro(z|⟨k,hk,z⟩)
    ·exact#[j,QF,z]
    exact#[k,QE _ hk,z]
  cases h
theorem Rl.setO(I:Rl K F H S ρ σ)(i:Nat){v:V}{t:T}{Z:gB}(hv:σ[i]?=jr (jr v))(r:Tr K F H kf v t Z)(w:∀(j:Nat) s,j≠i->ρ[j]?=jr (jr s)->∀b,Z b->¬ S j b):Rl K F H (RH S i Z) (ρ.set i (jr (.own t))) σ where
 fh:=I.fh
 len:=by simpa using I.len
 sl:=λj s h=>by
  rcases dA h with⟨rfl,e,hl⟩| ⟨g,h⟩
  cases e;exact#[v,hv,by rw[IA];exact r];rw[ZA (qC g)];exact I.sl j s h
 dj:=λj k a s n u x b hb hk=>by
  rcases dA u with⟨e,_,_⟩| ⟨f,u⟩
  subst e;rw[IA]at hb;rcases dA x with⟨e,_,_⟩| ⟨z,x⟩
  exact n e;rw[ZA (qC z)]at hk;exact w k s (qC z) x b hb hk;rw[ZA (qC f)]at hb;rcases dA x with⟨e,_,_⟩| ⟨z,x⟩
  subst e;rw[IA]at hk;exact w j _ n u b hk hb;rw[ZA (qC z)]at hk;exact I.dj j k a s n u x b hb hk
theorem PM:∀{J:LN}{w:LT}{vs:LV}{M:gB}{S1:Ft}{y x:xA},J.Nodup->Rl K F H S1 y σ->Trs K F H kf vs w M->vs.map (λv=>jr (jr v))=J.map (λj=>σ[j]?)->Held F H S1 y M->yC J w y=jr x ->
  ∃f,Rl K F H f x σ/\(∀i,i∉J->x[i]?=y[i]?/\f i=S1 i)/\∀i∈J,∀s,x[i]?=jr (jr s)->(∃t,s=.own t)/\∀b,f i b->M b
 |[],w,vs,M,S1,y,x,nd,I,r,hv,hm,h=>by
  cases w with|nil=>simp only[yC,Qr]at h;subst h;exact#[S1,I,λ_ _=>#[rfl,rfl],λi u=>by simp at u]|cons _ _=>simp[yC]at h
 |j::J,w,vs,M,S1,y,x,nd,I,r,hv,hm,h=>by
  cases r with
  |nil _=>simp[yC]at h|@cons _ v t vs R _ Z P C B n q =>
   simp only[yC]at h;simp only[QS,Wa]at hv;have a:=Qk.mp nd;have Q:=I.setO j hv.1.symm C λk s _ hk b hb=>hm.nw k s hk b ((q b).mpr (.inl hb));have Y:Held F H (RH S1 j Z) (y.set j (jr (.own t))) P:=#[λb hb=>hm.dom b ((q b).mpr (.inr hb)),λi s u b hb z=>by
    rcases dA u with⟨rfl,_,_⟩| ⟨X,u⟩
    rw[IA]at z;exact n b z hb;rw[ZA (qC X)]at z;exact hm.nw i s u b ((q b).mpr (.inr hb)) z]
   let#[f,O,A,N]:=PM a.2 Q B hv.2 Y h;refine#[f,O,λi u=>?_,λi u s hs=>?_];have W:j≠i:=λe=>u (e▸QF);let#[o,g]:=A i λm=>u (QE _ m);rw[xE W]at o;rw[ZA (qC W)]at g;exact#[o,g];rcases QL.mp u with e|e
   ·subst e
    let#[o,g]:=A i a.1;rw[o]at hs;rcases dA hs with⟨_,e,_⟩| ⟨X,_⟩
    injection e with e;refine#[#[t,e],λb hb=>?_];rw[g,IA]at hb;exact(q b).mpr (.inl hb);exact i2 rfl X
   let#[L,G]:=N i e s hs;exact#[L,λb hb=>(q b).mpr (.inr (G b hb))]
theorem Hf{f:Str}{as:PX}(g:GOk K Γ Ψ)(ia:PSnd K Γ Ψ as)(I:Rl K F H S ρ σ)(X:EE K F H S ρ E p){Q:TK}{R:VK}{ws:LN}(h:(pe Ψ (.call f as) E).e ρ Q)(k:uB K ws F H S ρ σ Q R):(wp K Γ (.call f as) p).e σ H R:=by
 let#[os,ho,nd,h]:=h;generalize hJ:bA (Ψ.sp f).md as=J at ho nd h;have C:∀j∈J,∃t,ρ[j]?=jr (jr (.own t)):=λj A=>by let#[i,hi]:=Wr.mp A;let#[t,_,e]:=(PD ho).2 i j hi;exact#[t,e]
 have I0:Rl K F H S (clear J ρ) σ:=I.drop (OP J ρ) λi s e=>(dD J ρ i s e).2;have P:∀b,U (clear J ρ) S b->U ρ S b:=λb #[i,t,h1,O]=>#[i,t,(dD J ρ i _ h1).2,O]
 have X0:EE K F H S (clear J ρ) E p:=λx dx F2 H2 S2 L m ff r q=>X x dx F2 H2 (λ_ _=>False) [] #[m.ff,λb u e n=>m.hh b u e λz=>n (P b z),m.dm,λb e z=>(m.fn b e z).imp (P b) id,λb #[i,t,e,_]=>by simp at e,λj t e=>by simp at e] ff r q;have hm:∀j∈bA (Ψ.sp f).md as,∃v,σ[j]?=jr (jr v):=λj A=>by let#[t,e]:=C j (hJ▸A);let#[v,h1,_]:=I.sl j _ e;exact#[v,h1]
 show(wp K Γ as p).a σ H λvs c=>Γ.sp f vs c R p;refine ia.a I0 X0 hm h λvs l c S1 y xs W Y s1 I1 r1 mv q1=>?_;rw[hJ]at mv;let#[ts,hp,q1]:=q1;have hw:=r1.held;have m:=s1.frz (λb hb=>(hw.dom b hb).2) r1.fr;have I2:=I1.frz hw;have yk:∀b,Y b->l b=kv->rJ l c W b=none:=λb hy hf=>by let#[i,sl,_,O,h3]:=r1.tm b hy;rw[oC λz=>r1.nw i sl O b z h3];exact hf
 let#[ar,mt]:=r1.av.pass (vH λb hb=>(hw.dom b hb).2) (λb hb=>pJ hb) yk hp;generalize rJ l c W=F2 at m I2 yk ar;have M0:=I.trs nd ho mv;have hM:Held F H S (clear J ρ) (λb=>∃j∈J,S j b):=#[λb #[j,A,hb]=>let#[t,e]:=C j A;I.dom e hb,λi s e b #[j,A,hb] z=>by let#[G,B]:=dD J ρ i s e;let#[t,et]:=C j A;exact I.dj j i t s (λq=>G (q▸A)) et B b hb z]
 have N:=hM.step m.toStp I2;have M2:Trs K F2 c kf (pB (Ψ.sp f).md vs) (LB (Ψ.sp f).md ts) (λb=>∃j∈J,S j b):=by
  rw[mt];refine M0.mono m.ff λb hb=>?_;refine#[?_,(N.dom b hb).2];cases e:H b with|none=>exact i2 e (hM.dom b hb).1|some u=>exact m.hh b u e (hM.nu b hb)
 refine g.sp f vs c R p #[F2,ts,_,Y,I2.fh,ar,M2,λb hy hb=>?_,?_];let#[i,sl,_,O,h3]:=r1.tm b hy;exact N.nw i sl O b hb h3
 ·have up:∀b,(∃j∈J,S j b)->U ρ S b:=λb #[j,A,hb]=>let#[t,e]:=C j A;#[j,t,e,hb]
  have lk:∀b,(∃j∈J,S j b)∨c b=kv->U ρ S b∨H b=none:=λb hb=>hb.imp (up b) (m.dm b);refine(Ψ.sp f).mono ?_ ?_ q1
  rotate_left
  rintro x qx dx F' H' o xr;refine X x dx F' H' (λ_ _=>False) [] #[m.ff.trans o.ff,λb u e n=>o.hh b u (m.hh b u e λz=>n (P b z)) λz=>n (up b z),λb e=>m.dm b (o.dm b e),λb e z=>?_,λb #[i,t,e,_]=>by simp at e,λj t e=>by simp at e] o.fh xr qx;by_cases q:F2 b=kv;exact lk b (o.fn b q z);exact(m.fn b e q).imp (P b) id;rintro r os' ⟨L,hput,q⟩ v F' H' Z M' o tr trs dz hf;have I3:Rl K F' H' S1 y σ:=#[o.fh,I2.len,λi s e=>by
   let#[w,g1,g2]:=I2.sl i s e;refine#[w,g1,g2.mono o.ff λb hb=>?_];let#[d1,d2]:=g2.dom b hb;have nM:¬ ∃j∈J,S j b:=λz=>N.nw i s e b z hb;refine#[?_,?_];cases e:c b with|none=>exact i2 e d1|some u=>exact o.hh b u e nM
   by_cases z:F' b=kv
   ·exact z
   exact((o.fn b d2 z).elim nM d1).elim,I2.dj]
  have nw3:∀b,(∃j∈J,S j b)∨c b=kv->∀(i:Nat) s,y[i]?=jr (jr s)->¬ S1 i b:=λb hb i s e z=>by rcases hb with hb|hb;exact N.nw i s e b hb z;exact(I2.dom e z).1 hb
  have hM':Held F' H' S1 y M':=#[trs.dom,λi s e b hb=>nw3 b (hf b (.inr hb)) i s e]
  let#[S2,I4,g2,g3]:=PM nd I3 trs mv hM' hput;have M:∀i s,L[i]?=jr (jr s)->(i∈J/\(∃t,s=.own t)/\∀b,S2 i b->M' b)∨(i∉J/\y[i]?=jr (jr s)/\S2 i=S1 i):=λi s e=>by by_cases hi:i∈J;exact .inl #[hi,g3 i hi s e];let#[G,B]:=g2 i hi;exact .inr #[hi,G▸e,B]
  have st:Ste F H S ρ F' H' S2 L:=#[#[m.ff.trans o.ff,λb u e n=>o.hh b u (m.hh b u e λz=>n (P b z)) λz=>n (up b z),λb e=>m.dm b (o.dm b e),λb e z=>by
    by_cases q:F2 b=kv;exact lk b (o.fn b q z);exact(m.fn b e q).imp (P b) id,
   λb #[i,t,h1,O]=>by
    rcases M i _ h1 with⟨_,_,e⟩| ⟨_,G,B⟩
    exact lk b (hf b (.inr (e b O)));rw[B]at O;exact(m.uu b #[i,t,G,O]).imp (P b) id,
   λj t e hd=>by
    rcases M j _ e with⟨_,⟨t',z⟩,_⟩| ⟨_,G,B⟩
    cases z;let#[b1,b2]:=m.bo j t G hd;exact#[(dD J ρ j _ b1).2,B.trans b2]],
   λj t e=>by
    rcases M j _ e with⟨A,_,_⟩| ⟨_,G,B⟩
    exact C j A;let#[t0,e0]:=m.ow j t G;exact#[t0,(dD J ρ j _ e0).2]]
  refine k v F' H' S2 L r kf Z st I4 #[tr,λ_ b hb=>?_,λz=>(by cases z),λ_ i s e b hb z=>?_] q;exact(lk b (hf b (.inl hb))).symm;rcases M i s e with⟨_,_,B⟩| ⟨_,G,B⟩
  ·exact dz b hb (B b z)
  rw[B]at z;exact nw3 b (hf b (.inl hb)) i s G z
end
section
variable{K:QA}{Γ:Ev}{Ψ:PEv}{E:XE}{O:XK}{F H F1 H1:Hp}{S S1:Ft}{ρ Q:xA}{σ:St}
section
variable{j i:Nat}{t s:T}{b:Bool}{G C:Hp}{B:Ft}{Y:xA}{W P Z:gB}{vs L:LV}{ts us:LT}{a:k0}{M o:HO}{v A J:V}{x y:D}{ks:List D}{R:Hp->Prop}{N:T->Prop}
theorem kC(z:ρ[j]?=jr (jr (.own t))){s:Sl}(h:(ρ.set j (jr (.bor t)))[i]?=jr (jr s)):(i=j/\s=.bor t)∨(i≠j/\ρ[i]?=jr (jr s)):=by
 rcases dA h with⟨rfl,e,_⟩| ⟨n,h⟩
 injection e with e;exact .inl #[rfl,e];exact .inr #[qC n,h]
theorem Rl.lock1(I:Rl K F H S ρ σ)(h:ρ[j]?=jr (jr (.own t))):Rl K F H S (ρ.set j (jr (.bor t))) σ where
 fh:=I.fh
 len:=by simpa using I.len
 sl:=λi s e=>by
  rcases kC h e with⟨rfl,rfl⟩| ⟨_,e⟩
  let#[v,g,f]:=I.sl i _ h;exact#[v,g,f.weak];exact I.sl i s e
 dj:=λi k u s n p m=>by
  rcases kC h p with⟨_,z⟩| ⟨r,w⟩
  cases z;rcases kC h m with⟨q,_⟩| ⟨_,l⟩
  ·exact I.dj i k u _ n w (q▸h)
  exact I.dj i k u s n w l
theorem Rl.lock1U(I:Rl K F H S ρ σ)(w:ρ[j]?=jr (jr (.own t)))(b:k0)(hb:S j b):¬ U (ρ.set j (jr (.bor t))) S b:=λ#[i,u,h,k]=>by
 rcases kC w h with⟨_,z⟩| ⟨n,h⟩
 cases z;exact I.dj i j u _ n h w b k hb
theorem lock1U(k:ρ[j]?=jr (jr (.own t))){b:k0}(h:U (ρ.set j (jr (.bor t))) S b):U ρ S b:=by
 let#[i,u,w,e]:=h;rcases kC k w with⟨_,z⟩| ⟨n,w⟩
 cases z;exact#[i,u,w,e]
theorem EE.lock1(X:EE K F H S ρ E O)(w:ρ[j]?=jr (jr (.own t))):EE K F H S (ρ.set j (jr (.bor t))) E O:=λx k G C B Y h f r q =>
 X x k G C (λ_ _=>False) [] #[h.ff,λb u e n=>h.hh b u e λz=>n (lock1U w z),h.dm,λb e z=>(h.fn b e z).imp (lock1U w) id,λb #[i,t,e,_]=>by simp at e,λj t e=>by simp at e] f r q
theorem gU(I:Rl K F H S ρ σ)(h:ρ[j]?=jr (jr (.own t)))(s:Ste F H S (ρ.set j (jr (.bor t))) G C B Y)(l:Rl K G C B Y σ){b:k0}(hb:S j b) :
  ∀(i:Nat) w,i≠j->Y[i]?=jr (jr w)->¬ B i b:=λi w n e z=>by
 cases w with
 |own u=>rcases s.uu b ⟨i,u,e,z⟩ with q|q;exact I.lock1U h b hb q;exact(I.dom h hb).1 q
 |bor u =>
  cases f:u.isD with
  |true=>exact l.isD e f z|false =>
   let#[k,g]:=s.bo i u e f;rw[g]at z;rcases kC h k with⟨q,_⟩| ⟨_,k⟩
   exact n q;exact I.dj j i t _ (qC n) h k b hb z
theorem RI{t':T}{v0:V}{m:Hp}{Z':gB}(I:Rl K F H S ρ σ)(w:ρ[j]?=jr (jr (.own t)))(hv:σ[j]?=jr (jr v0))(s:Ste F H S (ρ.set j (jr (.bor t))) G C B Y)(l:Rl K G C B Y σ)
  (hH:∀b u,C b=jr u->¬ S j b->m b=jr u) (dm:∀b,m b=kv->C b=kv) (r:Tr K G m kf v0 t' Z') (hz:∀b,Z' b->S j b∨W b∨C b=kv) (hw:Held G C B Y W) (frW:∀b,W b->H b=kv∨U (ρ.set j (jr (.bor t))) S b) :
  Ste F H S ρ G m (RH B j Z') (Y.set j (jr (.own t')))/\Rl K G m (RH B j Z') (Y.set j (jr (.own t'))) σ/\∀b,S j b∨W b∨C b=kv->∀(i:Nat) h,i≠j->Y[i]?=jr (jr h)->¬ B i b:=by
 have nw:∀b,S j b∨W b∨C b=kv->∀(i:Nat) h,i≠j->Y[i]?=jr (jr h)->¬ B i b:=λb hb i h n e z=>by rcases hb with hb|hb|hb;exact gU I w s l hb i h n e z;exact hw.nw i h e b hb z;exact(l.dom e z).1 hb
 have uj:∀b,S j b->U ρ S b:=λb hb=>#[j,t,w,hb]
 have lk:∀b,S j b∨W b∨C b=kv->U ρ S b∨H b=none:=λb hb=>by rcases hb with hb|hb|hb;exact .inl (uj b hb);exact(frW b hb).symm.imp (lock1U w) id;exact .inr (s.dm b hb)
 have fS:∀b,S j b->G b=none:=λb hb=>by
  by_cases q:G b=kv;exact q;rcases s.fn b (I.dom w hb).2 q with z|z
  ·exact i2 z (I.lock1U w b hb)
  exact i2 z (I.dom w hb).1
 have fh:Same G m:=λb u e=>hH b u (l.fh b u e) λz=>by rw[fS b z]at e;cases e
 have I3:Rl K G m B (Y.set j kv) σ:=#[fh,by simpa using l.len,λi h e=>by
   rcases dA e with⟨_,z,_⟩| ⟨n,e⟩
   cases z;let#[v,p,f]:=l.sl i h e;refine#[v,p,f.mono (.refl _) λb hb=>#[?_,(f.dom b hb).2]];cases eb:C b with|none=>exact i2 eb (f.dom b hb).1|some u=>exact hH b u eb λz=>gU I w s l z i h (qC n) e hb,
  λi k u h n g X=>by
   rcases dA g with⟨_,z,_⟩| ⟨_,g⟩
   cases z;rcases dA X with⟨_,z,_⟩| ⟨_,X⟩
   ·cases z
   exact l.dj i k u h n g X]
 have I4:=I3.setO j hv r λi h n e b hb=>by
  rcases dA e with⟨_,z,_⟩| ⟨_,e⟩
  cases z;exact nw b (hz b hb) i h n e
 have es:(Y.set j kv).set j (jr (.own t'))=Y.set j (jr (.own t')):=by simp
 rw[es]at I4;refine#[#[#[s.ff,λb u e n=>hH b u (s.hh b u e λz=>n (lock1U w z)) λz=>n (uj b z),λb e=>s.dm b (dm b e),λb e z=>(s.fn b e z).imp (lock1U w) id,λb #[i,u,p,f]=>?_,λi u e hd=>?_],λi u e=>?_],I4,nw];rcases dA p with⟨rfl,_,_⟩| ⟨n,p⟩
 ·rw[IA]at f
  exact lk b (hz b f)
 rw[ZA (qC n)]at f;exact(s.uu b #[i,u,p,f]).imp (lock1U w) id;rcases dA e with⟨rfl,z,_⟩| ⟨n,e⟩
 ·cases z
 let#[g,X]:=s.bo i u e hd;rcases kC w g with⟨z,_⟩| ⟨_,g⟩
 exact i2 z.symm n;exact#[g,by rw[ZA (qC n)];exact X];rcases dA e with⟨rfl,_,_⟩| ⟨n,e⟩
 ·exact#[t,w]
 let#[t0,e0]:=s.ow i u e;rcases kC w e0 with⟨_,z⟩| ⟨_,e0⟩
 cases z;exact#[t0,e0]
theorem Trs.erase{st:Bool}{S:gB}{k:Nat}(h:Trs K F H st vs ts S)(e:ts[k]?=jr t):∃v P1 u,vs[k]?=jr v/\Tr K F H st v t P1/\Trs K F H st (vs.eraseIdx k) (ts.eraseIdx k) u/\(∀b,P1 b->¬ u b)/\∀b,P1 b∨u b->S b:=by
 revert k;refine Trs.ind (R:=λst vs ts S=>∀{k:Nat},ts[k]?=jr t->∃v P1 u,vs[k]?=jr v/\Tr K F H st v t P1/\Trs K F H st (vs.eraseIdx k) (ts.eraseIdx k) u/\(∀b,P1 b->¬ u b)/\∀b,P1 b∨u b->S b) (λn k e=>by cases e) (λ{_ _ _ _ _ _ r _} h t n q f k e=>?_) h;cases k with|zero=>cases e;exact#[_,_,_,rfl,h,t,n,λb hb=>(q b).mpr hb]|succ k=>let#[v,P1,u,p,m,l,g,w]:=f (k:=k) e;refine#[v,P1,λb=>r b∨u b,p,m,.cons h l (λb hb z=>n b hb (w b (.inr z))) λb=>WZ,λb hb z=>z.elim (λz=>n b z (w b (.inl hb))) (g b hb),λb hb=>(q b).mpr ?_];rcases hb with hb|hb|hb;exact .inr (w b (.inl hb));exact .inl hb;exact .inr (w b (.inr hb))
theorem bJ{α:Type}:∀{l:List α}{k:α},l.Nodup->¬ k∈l->(l++[k]).Nodup
 |[],k,_,_=>by simp|a::r,k,h,hk=>by let#[u,z]:=Qk.mp h;show(a::(r++[k])).Nodup;refine Qk.mpr #[λm=>?_,bJ z λm=>hk (QL.mpr (Or.inr m))];rcases Qh.mp m with q|q;exact u q;exact hk (QL.mpr (Or.inl (QJ.mp q).symm))
theorem YJ(h:F a=kv)(r:Trs K F H kf L us P)(n:¬ P a):Tr K F (FA H a (.lst L)) kf (.ref a) (.lst us) λb=>b=a∨P b :=
 .lst (S':=P) YA h (r.mono (.refl _) λb hb=>#[uA λz=>n (z▸hb),(r.dom b hb).2]) n λb=>WZ
theorem aC(w:Z a)(b:k0)(u:HO)(e:H b=jr u)(hb:¬ Z b):FA H a M b=jr u:=by have h:b≠a:=λz=>hb (by rw[z];exact w);rw[uA h];exact e
theorem JB(b:k0)(e:FA H a M b=kv):H b=none:=by by_cases hb:b=a;rw[hb,YA]at e;cases e;rw[uA hb]at e;exact e
theorem Ze{m:Mt}{N:T->T->Prop}{R:VK}(f:Same F H)(r:Tr K F H kf v s Z)(rv:Trs K F H kf vs ts W)(dj:∀b,Z b->¬ W b)(h:nK m s ts N)
  (k:∀w r s' H' S1 Zr,(∀b u,H b=jr u->¬ Z b->H' b=jr u)->(∀b,H' b=kv->H b=kv)->Tr K F H' kf v s' S1->Tr K F H' kf w r Zr->(∀b,Zr b->¬ S1 b)->(∀b,S1 b∨Zr b->Z b∨W b∨H b=kv)->N r s'->R w H'):Xe K m v vs H R:=by
 cases m with
 |append =>
  let#[us0,t0,rfl,rfl,h]:=h;cases r with
  |@lst _ a p _ _ S' h1 h2 l I g =>
   have e:Z a:=(g a).mpr (.inl rfl);cases rv with
   |@cons _ w t ws us _ W1 W2 X r2 n q =>
    cases r2 with
    |nil n2 =>
     have hW:∀b,W b↔W1 b:=λb=>by rw[q b];simp[n2 b]
     refine#[a,p,w,rfl,rfl,h1,by rw[l.9];exact h.1,k .non (.d .none) _ _ _ (λ_=>False) (aC e) JB (YJ h2 (Trs.append l (Trs.one X) λb hb hw=>dj b ((g b).mpr (.inr hb)) ((hW b).mpr hw)) λz=>z.elim I λz=>dj a e ((hW a).mpr z)) (.d .non λ_ z=>z) (λ_ z=>z.elim) (λb hb=>?_) h.2];rcases hb with(hb|hb|hb)|hb;exact .inl (hb▸e);exact .inl ((g b).mpr (.inr hb));exact .inr (.inl ((hW b).mpr hb));exact hb.elim
 |reverse =>
  let#[ds,rfl,rfl,q]:=h;cases rv;cases r with|@lst _ a p _ _ S' h1 h2 l I g=>have e:Z a:=(g a).mpr (.inl rfl);exact#[a,p,rfl,rfl,h1,k .non (.d .none) _ _ _ (λ_=>False) (aC e) JB (YJ h2 (Trs.of_reps (l.un (JA ds)).1.reverse) λz=>z) (.d .non λ_ z=>z) (λ_ z=>z.elim) (λb hb=>by rcases hb with(hb|hb)|hb;exact .inl (hb▸e);exact hb.elim;exact hb.elim) q]
 |extend =>
  let#[us0,vs0,rfl,rfl,h]:=h;cases r with
  |@lst _ a p _ _ S' h1 h2 l I g =>
   have e:Z a:=(g a).mpr (.inl rfl);cases rv with
   |@cons _ w t ws us _ W1 W2 X r2 n q =>
    cases r2 with
    |nil n2 =>
     have hW:∀b,W b↔W1 b:=λb=>by rw[q b];simp[n2 b]
     cases X with|@lst _ c zs _ _ B g1 g2 g3 g4 g5=>have dw:∀b,B b->W b:=λb hb=>(hW b).mpr ((g5 b).mpr (.inr hb));refine#[a,c,p,zs,rfl,rfl,h1,g1,by rw[l.9,g3.9];exact h.1,k .non (.d .none) _ _ _ (λ_=>False) (aC e) JB (YJ h2 (Trs.append l g3 λb hb hw=>dj b ((g b).mpr (.inr hb)) (dw b hw)) λz=>z.elim I λz=>dj a e (dw a z)) (.d .non λ_ z=>z) (λ_ z=>z.elim) (λb hb=>?_) h.2];rcases hb with(hb|hb|hb)|hb;exact .inl (hb▸e);exact .inl ((g b).mpr (.inr hb));exact .inr (.inl (dw b hb));exact hb.elim
 |pop =>
  let#[us0,i,j,t0,rfl,rfl,hi,ht,q]:=h;cases r with
  |@lst _ a p _ _ S' h1 h2 l I g =>
   have e:Z a:=(g a).mpr (.inl rfl);let#[w,P1,P2,g1,g2,g3,g4,g5]:=l.erase ht;have na:¬ P1 a:=λz=>I (g5 a (.inl z));have nb:¬ P2 a:=λz=>I (g5 a (.inr z));cases rv with
   |cons X r2 n q2 =>
    cases r2;cases X with
    |d X n1 =>
     cases X;refine#[a,i,p,j,w,rfl,rfl,h1,by rw[l.9];exact hi,g1,k w t0 _ _ _ P1 (aC e) JB (YJ h2 g3 nb) (g2.mono (.refl _) λb hb=>#[uA λz=>na (z▸hb),(g2.dom b hb).2]) (λb hb z=>?_) (λb hb=>?_) q];rcases z with z|z
     ·exact na (z▸hb)
     exact g4 b hb z;rcases hb with(hb|hb)|hb
     ·exact .inl (hb▸e)
     exact .inl ((g b).mpr (.inr (g5 b (.inr hb))));exact .inl ((g b).mpr (.inr (g5 b (.inl hb))))
 |_=>exact h.elim
theorem Trs.setD(w:Rep K F A x){S:gB}(n:Nat)(h:Trs K F H kf vs ts S):∃P,Trs K F H kf (vs.set n A) (ts.set n (.d x)) P/\∀b,P b->S b:=by
 revert n;refine Trs.ind (R:=λst vs ts S=>∀n:Nat,∃P,Trs K F H st (vs.set n A) (ts.set n (.d x)) P/\∀b,P b->S b) (λ{_ S} z n=>#[S,.nil z,λ_ h=>h]) (λ{_ _ _ _ _ _ S1 B} h t m q k n=>?_) h;cases n with|zero=>exact#[B,.cons (S1:=λ_=>False) (.d w λ_ z=>z) t (λ_ z=>z.elim) λb=>by simp,λb hb=>(q b).mpr (.inr hb)]|succ n=>let#[P,e,u]:=k n;exact#[λb=>S1 b∨P b,.cons h e (λb hb z=>m b hb (u b z)) λb=>WZ,λb hb=>(q b).mpr (hb.imp id (u b))]
theorem Trs.part{S:gB}(h:Trs K F H kf vs ts S)(e:ts[i]?=jr t):∃v S1,vs[i]?=jr v/\Tr K F H kf v t S1/\(∀b,S1 b->S b) /\
  ∀(w:Hp) t' u,(∀b,S b->¬ S1 b->w b=H b)->Tr K F w kf v t' u->(∀b,u b->S1 b)->∃P,Trs K F w kf vs (ts.set i t') P/\∀b,P b->S b:=by
 revert i;refine Trs.ind (R:=λst vs ts S=>∀{i:Nat},ts[i]?=jr t->∃v S1,vs[i]?=jr v/\Tr K F H st v t S1/\(∀b,S1 b->S b)/\∀(w:Hp) t' u,(∀b,S b->¬ S1 b->w b=H b)->Tr K F w st v t' u->(∀b,u b->S1 b)->∃P,Trs K F w st vs (ts.set i t') P/\∀b,P b->S b) (λn i e=>by cases e) (λ{_ _ _ _ _ _ m P2} h t n q p i e=>?_) h;cases i with|zero=>cases e;exact#[_,m,rfl,h,λb hb=>(q b).mpr (.inl hb),λw t' u k r f=>#[λb=>u b∨P2 b,.cons r (t.mono (.refl _) λb hb=>#[k b ((q b).mpr (.inr hb)) λz=>n b z hb,(t.dom b hb).2]) (λb hb z=>n b (f b hb) z) λb=>WZ,λb hb=>(q b).mpr (hb.imp (f b) id)]]|succ i=>let#[v,S1,h1,h2,g,I]:=p (i:=i) e;refine#[v,S1,h1,h2,λb hb=>(q b).mpr (.inr (g b hb)),λw t' u k r f=>?_];let#[P,g1,l]:=I w t' u (λb hb X=>k b ((q b).mpr (.inr hb)) X) r f;exact#[λb=>m b∨P b,.cons (h.mono (.refl _) λb hb=>#[k b ((q b).mpr (.inl hb)) λz=>n b hb (g b z),(h.dom b hb).2]) g1 (λb hb z=>n b hb (l b z)) λb=>WZ,λb hb=>(q b).mpr (hb.imp id (l b))]
def xw(ks:List D)(k:D):List D:=match cA ks k with
 |some _=>ks|none=>ks++[k]
def Rv{α:Type}(ks:List D)(vs:List α)(k:D)(x:α):List α:=match cA ks k with
 |some n=>vs.set n x|none=>vs++[x]
theorem yR{α h:Type}[DecidableEq α](k:α)(key:h->α)(f:h->h)(hf:∀p,key (f p)=key p):∀(l:List h) (n:Nat),(l.map key).Nodup->(l.map key)[n]?=jr k->(∀(g:h->V) (x:V),(∀p,key p=k->g (f p)=x)->(l.map λp=>if key p=k then f p else p).map g=(l.map g).set n x)
 |[],n,_,e=>by simp at e|p::r,0,nd,e=>by
  intro g x w;have e:key p=k:=by simpa using e
  rw[QS]at nd;let#[u,m]:=Qk.mp nd;have e2:(r.map λp=>if key p=k then f p else p)=r:=by rw[show r=r.map id from(QCq r).symm,Qb];refine wP λq I=>?_;have:key q≠k:=λz=>u (QZ.mpr #[q,by simpa using I,z.trans e.symm]);simp[this]
  rw[QS,e2,QS,QS,i0 e,w p e];rfl
 |p::r,n+1,nd,e=>by
  intro g x w;rw[QS]at nd;let#[u,m]:=Qk.mp nd;have e:(r.map key)[n]?=jr k:=by simpa using e
  have X:¬ key p=k:=λz=>u (by rw[z];exact qW e);rw[QS,QS,QS,ii X,yR k key f hf r n m e g x w];rfl
theorem put_keys{α h z:Type}[DecidableEq α](k:α)(key:h->α)(f:h->h)(g:h->z)(u:∀p,g (f p)=g p)(l:List h):(l.map λp=>if key p=k then f p else p).map g=l.map g:=by rw[Qb];refine wP λp _=>?_;show g (if key p=k then f p else p)=g p;split;exact u p;rfl
theorem jL.put{k:D}(f:Same F H)(ha:H a=jr o)(dk:jL K F b o ks vs)(ry:Rep K F J k)(hk:aD b k)(hl:ks.9<kt)
  (kk:∀o',jL K F b o' (xw ks k) (Rv ks vs k A)->R (FA H a o')):mT K (.ref a) J A H R:=by
 cases b with
 |true =>
  let#[ep,u,rfl,rfl,rfl,h4,X]:=dk;cases NR hk ry with
  |intro q h =>
   let#[p,rfl,rfl,hq]:=h;refine#[ep,u,q,ha,λp hp=>f.key (h4 p hp),f.key hq,by simpa using hl,λI=>kk _ ?_];have w:=FG q u;unfold OM xw Rv;cases e:cA (u.map λp=>tD p.1) (tD q) with
   |none =>
    rw[e]at w;have w:fH u q=none:=w;rw[w];refine#[I,u++[(q,p,A)],rfl,by simp,by simp,λx l=>?_,?_];rcases Qh.mp l with l|l
    ·exact h4 x l
    rw[QJ.mp l];exact hq;rw[QM];refine bJ X λm=>zB.mp e ?_;let#[x,l,ex]:=QZ.mp m;exact QZ.mpr #[x,l,by rw[ex]]
   |some n =>
    rw[e]at w;have g:=HC e;have r:(u.map (·.1))[n]?=jr q:=by
     rw[QX]at g ⊢;cases en:u[n]? with|none=>rw[en]at g;cases g|some x=>rw[en]at g;rw[Q5,Qr]at g ⊢;exact kW g
    have hs:(fH u q).isSome=true:=by
     rw[w];have:n<u.length:=by have:=(Qg.mp r).1;simpa using this
     simp[this]
    rw[i0 hs];refine#[I,_,rfl,(put_keys q (·.1) (λp=>(p.1,p.2.1,A)) (λp=>tD p.1) (λ_=>rfl) u).symm,(yR q (·.1) (λp=>(p.1,p.2.1,A)) (λ_=>rfl) u n X r (·.2.2) A λ_ _=>rfl).symm,λx l=>?_,?_];let#[y,hy,ey]:=QZ.mp l;have hy:=h4 y hy;by_cases z:y.1=q;rw[i0 z]at ey;subst ey;exact hy;rw[ii z]at ey;subst ey;exact hy;have:=put_keys q (·.1) (λp:KE=>(p.1,p.2.1,A)) (·.1) (λ_=>rfl) u;rw[this];exact X
 |false =>
  let#[z,rfl]:=hk;cases ry;rcases dk with⟨u,hne,rfl,rfl,rfl,X⟩| ⟨ep,rfl,rfl,rfl⟩
  rotate_left
  exact .inr #[ep,ha,kk _ (.inl #[[(.inr z,A)],by simp,rfl,rfl,rfl,by simp])];refine .inl #[u,ha,by simpa using hl,kk _ (.inl ?_)];have w:=IJ (.inr z) u;have ez:kD (.inr z)=.str z:=rfl;rw[ez]at w;unfold sW xw Rv;rw[ES];cases e:cA (u.map λp=>kD p.1) (.str z) with
  |none=>rw[e]at w;have w:iM u (.inr z)=none:=w;rw[w];refine#[u++[(.inr z,A)],by simp,rfl,by simp[ez],by simp,?_];rw[QM];refine bJ X λm=>zB.mp e ?_;let#[x,l,ex]:=QZ.mp m;exact QZ.mpr #[x,l,by rw[ex];rfl]|some n =>
   rw[e]at w;have g:=HC e;have r:(u.map (·.1))[n]?=jr (.inr z):=by
    rw[QX]at g ⊢;cases en:u[n]? with|none=>rw[en]at g;cases g|some x=>rw[en]at g;rw[Q5,Qr]at g ⊢;exact k9 g
   have hs:(iM u (.inr z)).isSome=true:=by
    rw[w];have:n<u.length:=by have:=(Qg.mp r).1;simpa using this
    simp[this]
   rw[i0 hs];refine#[_,by simpa using hne,rfl,(put_keys (.inr z) (·.1) (λp=>(p.1,A)) (λp=>kD p.1) (λ_=>rfl) u).symm,(yR (.inr z) (·.1) (λp=>(p.1,A)) (λ_=>rfl) u n X r (·.2) A λ_ _=>rfl).symm,?_];have:=put_keys (.inr z) (·.1) (λp:Key×V=>(p.1,A)) (·.1) (λ_=>rfl) u;rw[this];exact X
theorem nS(h:F a=kv)(u:jL K F b o ks L)(r:Trs K F H kf L us P)(n:¬ P a):Tr K F (FA H a o) kf (.ref a) (.dct b ks us) λb=>b=a∨P b :=
 .dct (S':=P) YA u h (r.mono (.refl _) λb hb=>#[uA λz=>n (z▸hb),(r.dom b hb).2]) n λb=>WZ
theorem v6(f:Same F H)(r:Tr K F H kf v s Z)(ry:Rep K F J y)(rx:Rep K F A x)(h:Gq s y x N)
  (k:∀s' H' S1,(∀b u,H b=jr u->¬ Z b->H' b=jr u)->(∀b,H' b=kv->H b=kv)->Tr K F H' kf v s' S1->(∀b,S1 b->Z b)->N s'->R H'):mT K v J A H R:=by
 cases s with
 |lst ts =>
  cases y with
  |int i =>
   let#[n,hn,q]:=h;cases ry;cases r with|@lst _ a xs _ _ S' h1 h2 m I l=>have g:Z a:=(l a).mpr (.inl rfl);let#[P,X,p]:=m.setD rx n;refine#[xs,n,h1,by rw[m.9];exact hn,k _ _ _ (aC g) JB (YJ h2 X λz=>I (p a z)) (λb hb=>?_) q];rcases hb with hb|hb;exact hb▸g;exact(l b).mpr (.inr (p b hb))
  |_=>exact h.elim
 |dct b ks ts =>
  let#[hk,hl,q]:=h;cases r with
  |@dct _ _ a o _ vs _ _ S' h1 dk h2 m I l =>
   have g:Z a:=(l a).mpr (.inl rfl);refine dk.put f h1 ry hk hl λo' w=>?_;unfold xw Rv at w;unfold cK at q;cases e:cA ks y with
   |some n=>rw[e]at w q;let#[P,X,p]:=m.setD rx n;refine k _ _ _ (aC g) JB (nS h2 w X λz=>I (p a z)) (λb hb=>?_) q;rcases hb with hb|hb;exact hb▸g;exact(l b).mpr (.inr (p b hb))
   |none=>rw[e]at w q;have X:=Trs.append m (Trs.one (Tr.d (S:=λ_=>False) rx λ_ z=>z)) λ_ _ z=>z;refine k _ _ _ (aC g) JB (nS h2 w X λz=>z.elim I id) (λb hb=>?_) q;rcases hb with hb|hb|hb;exact hb▸g;exact(l b).mpr (.inr hb);exact hb.elim
 |_=>exact h.elim
theorem jL.vs_inj{m:Hp}{f:List D}{u:LV}(h:jL K F b o ks vs)(h':jL K m b o f u):vs=u:=by
 cases b with|true=>let#[l,k,e,_,rfl,_]:=h;let#[g,w,z,_,rfl,_]:=h';rw[e]at z;cases z;rfl|false=>rcases h with⟨k,_,e,_,rfl,_⟩| ⟨l,e,_,rfl⟩<;>rcases h' with⟨w,_,z,_,rfl,_⟩| ⟨g,z,_,rfl⟩<;>rw[e]at z<;>cases z<;>rfl
theorem vc{F0:Hp}{n:Nat}{w:V}(f:Same F H)(r:Tr K F H kf (.ref a) (.dct b ks ts) Z)(l:H a=jr o)(q:jL K F0 b o ks vs)(hw:vs[n]?=jr w)(ht:ts[n]?=jr s)
  (ry:Rep K F J y) (rx:Rep K F A x) (h:Gq s y x N)
  (k:∀s' g S1,(∀b u,H b=jr u->¬ Z b->g b=jr u)->(∀b,g b=kv->H b=kv)->Tr K F g kf (.ref a) (.dct b ks (ts.set n s')) S1->(∀b,S1 b->Z b)->N s'->R g):mT K w J A H R:=by
 cases r with
 |@dct _ _ a o' _ vs' _ _ S' h1 dk h2 h3 h4 p =>
  rw[l]at h1;cases h1;cases q.vs_inj dk;have ha:Z a:=(p a).mpr (.inl rfl);let#[w',S1,g1,g2,g3,g4]:=h3.part ht;rw[hw]at g1;cases g1;refine v6 f g2 ry rx h λs' g X hh dm rs sub q2=>?_;have keep:∀b,¬ S1 b->H b≠kv->g b=H b:=λb hb m=>by
   cases e:H b with|none=>exact i2 e m|some u=>exact hh b u e hb
  have na:¬ S1 a:=λz=>h4 (g3 a z);let#[P,p1,I]:=g4 g s' X (λb hb m=>keep b m (h3.dom b hb).1) rs sub;refine k _ g (λb=>b=a∨P b) (λb u e hb=>hh b u e λz=>hb ((p b).mpr (.inr (g3 b z)))) dm (.dct (S':=P) ((keep a na (by rw[l];simp)).trans l) dk h2 p1 (λz=>h4 (I a z)) λb=>WZ) (λb hb=>?_) q2;rcases hb with hb|hb;exact hb▸ha;exact(p b).mpr (.inr (I b hb))
theorem nk{p:k0}(f:Same F H)(X:H p=kv)(r:Tr K F H kf v t Z)(ry:Rep K F J y)(h:gk y t N)
  (k:∀s' l S1,(∀b u,H b=jr u->¬ Z b->l b=jr u)->(∀b,l b=kv->H b=kv)->Tr K F l kf v s' S1->(∀b,S1 b->Z b∨b=p)->N s'->R l):yM K v [J,.ref p] (FA H p (.dT 0 [])) λ_ l=>R l:=by
 let#[ks,ts,rfl,hk,hl,h]:=h;cases r with
 |@dct _ _ a o _ vs _ _ S' h1 dk h2 h3 h4 h5 =>
  have ha:Z a:=(h5 a).mpr (.inl rfl);let#[ep,w,rfl,rfl,rfl,d4,d5]:=dk;have ap:a≠p:=iA h1 X;have fp:F p=none:=f.free X;have sm:Same H (FA H p (.dT 0 [])):=OB X;cases NR hk ry with
  |intro q hh =>
   let#[c,rfl,rfl,hq]:=hh;have vf:=FG q w;refine#[a,c,.ref p,ep,w,q,rfl,rfl,(uA ap).trans h1,λx g=>(f.trans sm).key (d4 x g),(f.trans sm).key hq,by simpa using hl,λu eu=>?_,λen I=>?_];rcases h with⟨n,e,q⟩| ⟨e,q⟩
   ·have r0:Tr K F H kf (.ref a) (.dct kf (w.map λp=>tD p.1) ts) Z:=.dct h1 #[ep,w,rfl,rfl,rfl,d4,d5] h2 h3 h4 h5
    refine k _ _ Z (λb u e _=>sm b u e) (λb e=>JB b e) (r0.mono (.refl _) λb hb=>#[uA λz=>(r0.dom b hb).1 (by rw[z];exact X),(r0.dom b hb).2]) (λb hb=>.inl hb) q
   rw[e]at vf;rw[vf]at eu;cases eu;rcases h with⟨n,e,q⟩| ⟨e,q2⟩
   ·have hn:=HC e
    rw[e]at vf;have:n<w.length:=by have:=(Qg.mp hn).1;simpa using this
    rw[vf]at en;have en:(w.map (·.2.2))[n]?=none:=en;rw[List.getElem?_eq_none_iff,QD]at en;omega
   have ep2:OM w q c (.ref p)=w++[(q,c,.ref p)]:=by unfold OM;rw[en];rfl
   rw[ep2];have np:¬ S' p:=λz=>(h3.dom p z).1 X;have g0:Tr K F (FA H p (.dT 0 [])) kf (.ref p) (.dct kf [] []) λb=>b=p :=
    .dct (S':=λ_=>False) (vs:=[]) YA #[0,[],rfl,rfl,rfl,λ_ z=>(nomatch z),Q7] fp (.nil λ_ z=>z) (λz=>z) λb=>by simp
   have g3:Trs K F (FA H p (.dT 0 [])) kf (w.map (·.2.2)) ts S':=h3.mono (.refl _) λb hb=>#[uA λz=>np (z▸hb),(h3.dom b hb).2]
   have g1:=Trs.append g3 (Trs.one g0) λb hb z=>np (z▸hb);have dk':jL K F kf (.dT I (w++[(q,c,.ref p)])) ((w.map λp=>tD p.1)++[tD q]) (w.map (·.2.2)++[.ref p]):=by
    refine#[I,_,rfl,by simp,by simp,λx g=>?_,?_];rcases Qh.mp g with g|g
    ·exact d4 x g
    rw[QJ.mp g];exact hq;rw[QM];refine bJ d5 λm=>zB.mp e ?_;let#[x,g,ex]:=QZ.mp m;exact QZ.mpr #[x,g,by rw[ex]]
   refine k _ _ _ (λb u e hb=>?_) (λb e=>JB b (JB b e)) (nS h2 dk' g1 λz=>z.elim h4 ap) (λb hb=>?_) q2;rw[uA λz=>hb (by rw[z];exact ha)];exact sm b u e;rcases hb with hb|hb|hb
   ·exact .inl (hb▸ha)
   exact .inl ((h5 b).mpr (.inr hb));exact .inr hb
end
end
section
variable{K:QA}{Γ:Ev}{Ψ:PEv}
section
variable{p:PX}{F H:Hp}{S:Ft}{ρ:xA}{Z:gB}
noncomputable abbrev T4(K:QA)(Γ:Ev)(Ψ:PEv)(p:PX):Prop:=∀{E:XE}{x:XK}{F H:Hp}{S:Ft}{ρ:xA}{h:St}{Q:TK}{R:VK},Rl K F H S ρ h->EE K F H S ρ E x->(pe Ψ p E).e ρ Q->uB K (PF p) F H S ρ h Q R->(wp K Γ p x).e h H R
theorem IV(f:T4 K Γ Ψ p){E:XE}{w:XK}{σ:St}{Q:Bool->xA->Prop}{R:Bool->Hp->Prop}(I:Rl K F H S ρ σ)(X:EE K F H S ρ E w)(h:(pe Ψ p E).e ρ λt _ y=>jK t.er λb=>Q b y)(k:LH K F H S ρ σ Q R) :
  (wp K Γ p w).e σ H λx i=>MF K x i R :=
 f I X h λv l j g z t n Z s u r q=>JY (r.tr.rep u.fh) q λc a=>k c l j g z s u a
theorem PSnd.of_e(w:∀E ρ Q,(pe Ψ p E).t ρ Q=(pe Ψ p E).e ρ λt _ y=>jK t.er λb=>Q b y)(z:∀v σ H R,(wp K Γ p v).t σ H R=(wp K Γ p v).e σ H λx g=>MF K x g R)(f:∀E,(pe Ψ p E).a=HD.a)(u:T4 K Γ Ψ p):PSnd K Γ Ψ p where
 e:=u
 t:=λI X h k=>by rw[w]at h;rw[z];exact IV u I X h k
 a:=λI X _ h k=>by rw[f]at h;exact h.elim
theorem PSnd.of_0(x:∀E,(pe Ψ p E).t=HD.t)(z:∀E,(pe Ψ p E).a=HD.a)(y:T4 K Γ Ψ p):PSnd K Γ Ψ p where
 e:=y
 t:=λI X h k=>by rw[x]at h;exact h.elim
 a:=λI X _ h k=>by rw[z]at h;exact h.elim
theorem PSnd.of_t(l:∀E ρ Q,(pe Ψ p E).e ρ Q=(pe Ψ p E).t ρ λb u=>Q (.d (.bool b)) kb u)(v:∀z σ H R,(wp K Γ p z).t σ H R=(wp K Γ p z).e σ H λx n=>Ua x n R)(m:∀E,(pe Ψ p E).a=HD.a)
  (f:∀{E:XE}{z:XK}{F H:Hp}{S:Ft}{ρ:xA}{σ:St}{Q:Bool->xA->Prop}{R:VK},Rl K F H S ρ σ->EE K F H S ρ E z->(pe Ψ p E).t ρ Q->LH K F H S ρ σ Q (λb=>R (.bl b))->(wp K Γ p z).e σ H R):PSnd K Γ Ψ p where
 e:=λI X h k=>by rw[l]at h;exact f I X h λb j i g y s w q=>uB.d k s w (.bl b) q
 t:=λI X h k=>by rw[v];exact f I X h λb j i g y s w q=>k b j i g y s w q
 a:=λI X _ h k=>by rw[m]at h;exact h.elim
theorem og(i:Nat):T4 K Γ Ψ (.var i):=by
 intro E a F H S ρ y Q R I X h k;have x:jw ρ[i]? λt=>Q t kb ρ:=h;show(match y[i]? with|some (jr v)=>R v H|_=>False);have key:∀s,ρ[i]?=jr (jr s)->Q s.t kb ρ->(match y[i]? with|some (jr v)=>R v H|_=>False):=λs e q=>by let#[v,w,u]:=I.sl i _ e;rw[w];exact k v F H S ρ s.t kb (S i) .refl I #[u.weak,λz=>(by cases z),λ_ b hb=>#[i,s,QJ.mpr rfl,e,hb],λz=>(by cases z)] q
 unfold jw at x;split at x;rename_i e;exact key _ e x;rename_i e;exact key _ e x;exact x.elim;exact x.elim
theorem Bm{m:Mt}{v:V}{s:T}(h:isMut m=kf)(x:XH m s=kf)(r:Tr K F H kf v s Z):j5 K m.ty v H:=by
 unfold XH at x;split at x;cases r with
 |lst y _ _ _ _ =>
  refine .inl #[?_,_,rC.of y];cases m with|append=>rfl|pop=>rfl|reverse=>rfl|extend=>rfl|_=>cases x
 cases x
theorem ky{m:Mt}{o g:PX}(io:PSnd K Γ Ψ o)(ia:PSnd K Γ Ψ g):T4 K Γ Ψ (.mt m o g):=by
 intro E EK F H S ρ L Q R I X h k;show(wp K Γ o EK).e L H λx J=>j5 K m.ty x J/\(wp K Γ g EK).a L J λA l=>Xe K m x A l R;cases hm:isMut m with
 |false =>
  have h:(pe Ψ o E).e ρ λx n M=>Y8 m (gA x n).vw=kf/\sq (gA x n) M ((pe Ψ g E).a []) λf y=>zw m (gA x n).vw (CB f) λz k=>Q z k y:=by have C:(if isMut m=kf then _ else _):=h;rw[hm,ii (by simp)]at C;exact C
  refine pq (P1:=λx n=>Y8 m (gA x n).vw=kf) (R1:=λv J=>j5 K m.ty v J) (RR:=λv A l=>Xe K m v A l R) io ia I X h (λv F' H' x n Za r p=>Ps r p) λv A F' H' S' ρ' x n f Za Y s I' X' r _ tn q=>?_;rw[sM _ rfl]at q;exact Cm s I' r tn q k
 |true =>
  have h:Cg (B6 o) λj=>RC ρ[j]? λt=>XH m t=kf/\(pe Ψ g E).a [] (ρ.set j (jr (.bor t))) λf y=>mE f=kf/\y[j]?=jr (jr (.bor t))/\nK m t (zF f) λr s'=>Q r kf (y.set j (jr (.own s'))):=by have C:(if isMut m=kf then _ else _):=h;rw[hm,i0 rfl]at C;exact C
  cases o with
  |var j =>
   have h:RC ρ[j]? _:=h;unfold RC at h;split at h;rename_i t u;let#[ht,q1]:=h;let#[v0,hv,B]:=I.sl j _ u;have IL:=I.lock1 u;have n0:=I.lock1U u;have B:Tr K F H kf v0 t (S j):=B;have XL:=X.lock1 u;show(match L[j]? with|some (jr v)=>_|_=>False);rw[hv];refine#[Bm hm ht B,?_];refine ia.a (md:=[]) IL XL (λj u=>by cases g<;>cases u) q1 λA F2 l S2 y f W Y N I2 G _ P=>?_;let#[he,hj2,P]:=P;have r2:Tr K F2 l kf v0 t (S j):=N.toStp.keep B n0;have hw:=G.held;have trs:=G.av.trs Xm he;have wS:∀b,S j b->¬ W b:=λb hb hb2=>by rcases G.fr b hb2 with q|q;exact(B.dom b hb).1 q;exact n0 b hb q
   refine Ze I2.fh r2 trs wS P λw r s' H3 S3 Zr hh dm O rr dz hf q=>?_;let#[st,I3,nw]:=RI I u hv N I2 hh dm O (λb hb=>hf b (.inl hb)) hw G.fr;have zr:∀b,Zr b->S j b∨W b∨l b=none:=λb hb=>hf b (.inr hb);refine k w F2 H3 _ _ r kf Zr st I3 #[rr,λ_ b hb=>?_,λz=>(by cases z),λ_ i sl e b hb z=>?_] q;rcases zr b hb with q|q|q
   ·exact .inr #[j,t,u,q]
   exact(G.fr b q).imp id (lock1U u);exact .inl (N.dm b q);rcases dA e with⟨rfl,_,_⟩| ⟨n,e⟩
   ·rw[IA]at z
    exact dz b hb z
   rw[ZA (qC n)]at z;exact nw b (zr b hb) i sl (qC n) e z
   all_goals exact h.elim
  |_=>exact h.elim
theorem uB.dct{ws:LN}{F H x y:Hp}{S S1:Ft}{ρ h:xA}{σ:St}{Q:TK}{R:VK}(k:uB K ws F H S ρ σ Q R)(s:Ste F H S ρ x y S1 h)(I:Rl K x y S1 h σ){p:k0}(g:H p=kv)(m:x p=kv)(j:Held x y S1 h λb=>b=p){o:HO}{b:Bool}{ks:List D}{vs:LV}{ts:LT}{W:gB}(B:jL K x b o ks vs)(r:Trs K x y kf vs ts W)
  (fr:∀b,W b->H b=kv∨U ρ S b) (f:Held x y S1 h W) (a:¬ W p) (q:Q (.dct b ks ts) kf h):R (.ref p) (FA y p o):=by
 have Y:∀b u,H b=jr u->b≠p:=λb u e=>iA e g;have X:Ste F H S ρ x (FA y p o) S1 h:=#[#[s.ff,λb u e n=>by rw[uA (Y b u e)];exact s.hh b u e n,λb e=>s.dm b (JB b e),s.fn,s.uu,s.bo],s.ow]
 have C:Rl K x (FA y p o) S1 h σ:=#[λb u e=>by rw[uA λz=>by rw[z,m]at e;cases e];exact I.fh b u e,I.len,λi w e=>by let#[v,A,l]:=I.sl i w e;exact#[v,A,l.mono (.refl _) λb hb=>#[uA λz=>j.nw i w e b z hb,(l.dom b hb).2]],I.dj]
 refine k _ x _ S1 h _ kf (λb=>b=p∨W b) X C #[.dct YA B m (r.mono (.refl _) λb hb=>#[uA λz=>a (z▸hb),(f.dom b hb).2]) a (λb=>WZ),λ_ b hb=>?_,λz=>(by cases z),λ_ i w e b hb z=>?_] q;rcases hb with hb|hb
 ·exact .inl (hb▸g)
 exact fr b hb;rcases hb with hb|hb
 ·exact j.nw i w e b hb z
 exact f.nw i w e b hb z
theorem VR.strict{u y:Hp}{S1:Ft}{h:xA}{ws:LN}{v:V}{t:T}{n:Bool}(r:VR K ws H S ρ u y S1 h v t n Z)(e:uH t n=kf):∃W,Tr K u y kf v t W/\Held u y S1 h W/\∀b,W b->H b=kv∨U ρ S b:=by
 cases n with
 |true=>exact#[Z,r.tr,r.held,r.fr rfl]|false =>
  have w:=r.tr;cases t with
  |d x=>cases w with|d q _=>exact#[λ_=>False,.d q λ_ z=>z,.none,λ_ z=>z.elim]
  |_=>cases e
theorem KU{σ:St}(I:Rl K F H S ρ σ){p:k0}(h:H p=kv)(o:HO):Held F (FA H p o) S ρ λb=>b=p :=
 #[λb hb=>#[by rw[hb,YA];simp,by rw[hb];exact I.fh.free h],λi x e b hb z=>(I.dom e z).1 (by rw[hb];exact h)]
theorem HA(g:GOk K Γ Ψ):∀(p:PX),PSnd K Γ Ψ p
 | .var i=>#[og i,λI X h k=>IV (Γ:=Γ) (Ψ:=Ψ) (og i) I X h k,λI X _ h k=>h.elim]|.int i=>#[λI X h k=>uB.d k .refl I (.int i) h,λI X h k=>k _ _ _ _ _ .refl I h,λI X _ h k=>h.elim]|.str x=>#[λI X h k=>uB.d k .refl I (.str x) h,λI X h k=>h.elim,λI X _ h k=>h.elim]|.bl b=>#[λI X h k=>uB.d k .refl I (.bl b) h,λI X h k=>k _ _ _ _ _ .refl I h,λI X _ h k=>h.elim]|.non=>#[λI X h k=>uB.d k .refl I .non h,λI X h k=>k _ _ _ _ _ .refl I h,λI X _ h k=>h.elim]|.glo x=>.of_e (λ_ _ _=>rfl) (λ_ _ _ _=>rfl) (λ_=>rfl) λ{E L F H S ρ G Q R} I X h k=>by have h:(match Ψ.va x with|some d=>Q (.d d) kb ρ|none=>False):=h;split at h;rename_i d e;exact uB.d k .refl I (g.va x d e F) h;exact h.elim
 | .bty _ _=>#[λI X h k=>h.elim,λI X h k=>h.elim,λI X _ h k=>h.elim]|.bin op a b=>.of_e (λ_ _ _=>rfl) (λ_ _ _ _=>rfl) (λ_=>rfl) λ{E L F H S ρ G Q R} I X h k =>
  S5 (P:=λx n y m M=>binT op (gA x n).vw (gA y m).vw λz k=>Q z k M) (RR:=λx y H2=>Pf K op x y H2 R) (HA g a) (HA g b) I X h λv w O N S' B x n y m Za Zb s C X' ra _ rb q=>Bo s C ra rb q k
 | .cmp op a b=>.of_t (λ_ _ _=>rfl) (λ_ _ _ _=>rfl) (λ_=>rfl) λ{E L F H S ρ G Q R} I X h k =>
  S5 (P:=λx n y m M=>Xf op x.er (gA y m) λk=>Q k M) (RR:=λx y H2=>E9 K op x y H2 R) (HA g a) (HA g b) I X h λv w O N S' B x n y m Za Zb s C X' ra _ rb q =>
   Vf C.fh (by have:=ra.rep C.fh;rwa [BZ]at this) rb q λc qc=>k c O N S' B s C qc
 | .and a b=>#[λ{E L F H S ρ G Q R} I X h k=>by
   refine(HA g a).e (Q:=λx _ A=>Po x.er λc=>if c=kf then(pe Ψ b E).e A Q else Q (.d (.bool kb)) kb A) (R:=λx J=>Ua x J λc H2=>if c=kf then(wp K Γ b L).e G H2 R else R (.bl kb) H2) I X h λv O N S' B x n Z s C r q=>?_;refine Xa (r.tr.rep C.fh) q λc qc=>?_;cases c with|false=>exact uB.d k s C (.bl kb) qc|true=>exact(HA g b).e C (X.from s.toStp) qc ((k.from s).vars λi hi=>QY _ hi),
  λ{E L F H S ρ G Q R} I X h k=>by
   refine(HA g a).t (Q:=λc A=>if c=kf then(pe Ψ b E).t A Q else Q kb A) (R:=λc J=>if c=kf then(wp K Γ b L).t G J R else R kb J) I X h λc O N S' B s C qc=>?_;cases c with|false=>exact k _ O N S' B s C qc|true=>exact(HA g b).t C (X.from s.toStp) qc (LH.from k s),λI X _ h k=>h.elim]
 | .or a b=>#[λ{E L F H S ρ G Q R} I X h k=>by
   refine(HA g a).e (Q:=λx _ A=>Po x.er λc=>if c=kf then Q (.d (.bool kf)) kb A else(pe Ψ b E).e A Q) (R:=λx J=>Ua x J λc H2=>if c=kf then R (.bl kf) H2 else(wp K Γ b L).e G H2 R) I X h λv O N S' B x n Z s C r q=>?_;refine Xa (r.tr.rep C.fh) q λc qc=>?_;cases c with|true=>exact uB.d k s C (.bl kf) qc|false=>exact(HA g b).e C (X.from s.toStp) qc ((k.from s).vars λi hi=>QY _ hi),
  λ{E L F H S ρ G Q R} I X h k=>by
   refine(HA g a).t (Q:=λc A=>if c=kf then Q kf A else(pe Ψ b E).t A Q) (R:=λc J=>if c=kf then R kf J else(wp K Γ b L).t G J R) I X h λc O N S' B s C qc=>?_;cases c with|true=>exact k _ O N S' B s C qc|false=>exact(HA g b).t C (X.from s.toStp) qc (LH.from k s),λI X _ h k=>h.elim]
 | .not a=>#[λ{E L F H S ρ G Q R} I X h k=>by
   refine(HA g a).e (Q:=λx _ A=>jK x.er λc=>Q (.d (.bool (!c))) kb A) (R:=λx J=>MF K x J λc H2=>R (.bl (!c)) H2) I X h λv O N S' B x n Z s C r q=>?_;exact JY (r.tr.rep C.fh) q λc qc=>uB.d k s C (.bl _) qc,
  λ{E L F H S ρ G Q R} I X h k=>(HA g a).t (Q:=λc A=>Q (!c) A) (R:=λc J=>R (!c) J) I X h λc O N S' B s C qc=>k _ O N S' B s C qc,λI X _ h k=>h.elim]
 | .ife c a b=>.of_0 (λ_=>rfl) (λ_=>rfl) λ{E L F H S ρ G Q R} I X h k=>by
  refine(HA g c).t (Q:=λk A=>if k=kf then(pe Ψ a E).e A Q else(pe Ψ b E).e A Q) (R:=λk J=>if k=kf then(wp K Γ a L).e G J R else(wp K Γ b L).e G J R) I X h λc O N S' B s C qc=>?_;cases c with|true=>exact(HA g a).e C (X.from s.toStp) qc ((k.from s).vars λi hi=>Qm _ hi)|false=>exact(HA g b).e C (X.from s.toStp) qc ((k.from s).vars λi hi=>QY _ hi)
 | .call f as=>.of_e (λ_ _ _=>rfl) (λ_ _ _ _=>rfl) (λ_=>rfl) λ{E L F H S ρ G Q R} I X h k=>Hf g (HA g as) I X h k|.isi a c=>by
  have key:∀{E:XE}{L:XK}{F H:Hp}{S:Ft}{ρ:xA}{G:St}{Q:Bool->xA->Prop}{R:VK},Rl K F H S ρ G->EE K F H S ρ E L->(pe Ψ (.isi a c) E).t ρ Q->LH K F H S ρ G Q (λb=>R (.bl b))->(wp K Γ (.isi a c) L).e G H R:=by
   intro E L F H S ρ G Q R I X h k;refine(HA g a).e (Q:=λx _ A=>Zn c x.er λb=>Q b A) I X h λv O N S' B x n Z s C r q=>?_;cases c with|bty z n=>let#[b,h1,h2,q]:=q;exact Yn (r.tr.rep C.fh) h1 h2 (k b O N S' B s C q)|_=>exact q.elim
  refine#[λI X h k=>key I X h λb O N S' B s C q=>uB.d k s C (.bl b) q,λ{E L F H S ρ G Q R} I X h k=>?_,λI X _ h k=>h.elim];exact key (R:=λv J=>MF K v J R) I X h λb O N S' B s C q=>k b O N S' B s C q
 | .bi f as=>.of_e (λ_ _ _=>rfl) (λ_ _ _ _=>rfl) (λ_=>rfl) λ{E L F H S ρ G Q R} I X h k =>
  uY (P:=λxs A=>vY f (CB xs) λz k=>Q z k A) (RR:=λvs J=>Ru K f vs J R) (HA g as) I X h λvs O N S' B xs Y s C X' tn _ q=>by rw[sM _ rfl]at q;exact Mo s C tn q k
 | .mt m o as=>.of_e (λ_ _ _=>rfl) (λ_ _ _ _=>rfl) (λ_=>rfl) (ky (HA g o) (HA g as))|.idx a b=>by
  have he:T4 K Γ Ψ (.idx a b):=λ{E L F H S ρ G Q R} I X h k =>
   S5 (P:=λx n y m M=>(GO (gA x n).vw (gA y m).vw λz=>Q z kb M)∨(HU (gA x n).vw y.er λz=>Q z kb M)) (RR:=λx y H2=>G1 K x y H2 R) (HA g a) (HA g b) I X h λv w O N S' B x n y m Za Zb s C X' ra za rb q=>by rcases q with q|q;exact Vn s C ra za rb q k;exact vo s C ra za (by have:=rb.rep C.fh;rwa [BZ]at this) q k
  exact#[he,λI X h k=>IV he I X h k,λI X _ h k=>h.elim]
 | .slc a lo hi=>.of_0 (λ_=>rfl) (λ_=>rfl) λ{E L F H S ρ G Q R} I X h k=>by
  have part:∀(p:PX),PSnd K Γ Ψ p->∀{F H:Hp}{S:Ft}{ρ:xA}{x:T}{P:Option Int->xA->Prop}{RP:Option Int->Hp->Prop},Rl K F H S ρ G->EE K F H S ρ E L ->
    sq (α:=Option Int) x ρ (if isNop p=kf then λρ (R:Option Int->xA->Prop)=>R kv ρ else λρ R=>(pe Ψ p E).e ρ λl _ M=>uG l.er λo=>R o M) P ->
    (∀o O N S' B,Ste F H S ρ O N S' B->Rl K O N S' B G->(∀st v Zx,Tr K F H st v x Zx->Tr K O N st v x Zx)->P o B->RP o N) ->
    (if isNop p=kf then λ(R:Option Int->Hp->Prop)=>R kv H else λR=>(wp K Γ p L).e G H λl H2=>dN l H2 R) RP:=by
   intro p ip F H S ρ x P RP I X h k;cases hn:isNop p with
   |true=>simp only[hn,if_true]at h ⊢;refine k kv F H S ρ .refl I (λ_ _ _ r=>r) ?_;unfold sq at h;split at h<;>exact h|false =>
    simp only[hn,Qv,if_false]at h ⊢;have h2:sq x ρ (cu (pe Ψ p E).e) λy B=>uG y.1.er λo=>P o B:=by unfold sq at h ⊢;exact h
    refine Mq ip I X h2 λw O N S' B y m Z s C kp _ r q=>ud (r.tr.rep C.fh) q λo qo=>k o O N S' B s C kp qo
  refine UE (HA g a) I X h λv F1 J S1 A x n Za s1 I1 X1 r1 _ z1 h1=>?_;refine part lo (HA g lo) I1 X1 h1 λl F2 H2 S2 M s2 I2 k2 h2=>?_;refine part hi (HA g hi) I2 (X1.from s2.toStp) h2 λu F3 H3 S3 ρ3 s3 I3 k3 h3=>?_;exact zk (s1.trans (s2.trans s3)) I3 (k3 _ _ _ (k2 _ _ _ r1)) h3 k
 | .nop=>#[λI X h k=>h.elim,λI X h k=>h.elim,λI X _ h k=>h.elim]|.lst as=>.of_0 (λ_=>rfl) (λ_=>rfl) λ{E L F H S ρ G Q R} I X h k=>by refine(HA g as).a (md:=[]) (R:=λxs J=>xs.9<=kt/\∀p,J p=kv->R (.ref p) (FA J p (.lst xs))) I X (λj hj=>by cases as<;>cases hj) h λvs O N S' B xs W Y s C r _ q=>?_;exact#[by rw[r.av.9];exact q.2.1,λp hp=>uB.list k s C hp (r.av.trs Xm q.1) r.fr r.held q.2.2]|.tup as=>.of_0 (λ_=>rfl) (λ_=>rfl) λ{E L F H S ρ G Q R} I X h k=>by refine(HA g as).a (md:=[]) (R:=λxs J=>xs.9<=kt/\∀p,J p=kv->R (.ref p) (FA J p (.tup xs))) I X (λj hj=>by cases as<;>cases hj) h λvs O N S' B xs W Y s C r _ q=>?_;exact#[by rw[r.av.9];exact q.2.1,λp hp=>uB.tup k s C hp (r.av.trs Xm q.1) r.fr r.held q.2.2]|.comp mask tgs tg ik its cond elt=>.of_0 (λ_=>rfl) (λ_=>rfl) λ{E L F H S ρ G Q R} I X h k=>by
  refine uY (RR:=λvs J=>mC K ik vs J λxs st H2=>V0 K xs st tg (if isNop cond=kf then λ_ H Q=>Q kf H else(wp K Γ cond (λ_ _ _=>False)).t) (wp K Γ elt (λ_ _ _=>False)).e (iJ tgs.9 mask G) H2 R) (HA g its) I X h λvs F1 J S1 A xs Y s1 I1 X1 tn tm q1=>?_;rw[sM _ rfl]at q1;refine pK I1.fh tn q1 λxs ys st pr hst hc=>?_;refine R9 (us:=PF elt) ?_ ?_ s1 I1 pr (λb hb=>?_) hst hc k;intro F H S ρ G Q R I h k;cases hn:isNop cond with|true=>simp only[hn,if_true]at h ⊢;exact k kf F H S ρ .refl I h|false=>simp only[hn,Qv,if_false]at h ⊢;exact(HA g cond).t I EE.never h k
  intro F H S ρ G Q R I h k;exact(HA g elt).e I EE.never h k;let#[i,sl,_,h2,h3]:=tm b hb;exact I1.dom h2 h3
 | .ng i=>.of_0 (λ_=>rfl) (λ_=>rfl) λI X h k=>uB.d k .refl I (.int _) h|.lrv a=>.of_0 (λ_=>rfl) (λ_=>rfl) λ{E L F H S ρ G Q R} I X h k =>
  UE (P:=λx n A=>Zc (gA x n).vw λz k=>Q z k A) (RR:=λx J=>rW K x J R) (HA g a) I X h λv O N S' B x n Z s C _ r _ _ #[us,ds,e,hb,q]=>by let#[p,xs,_,rfl,hp,rp,_]:=r.ls C.fh e;exact#[p,xs,rfl,hp,λl hl=>k.listD s C hl (rp.un hb).1.reverse q]
 | .dnew b=>.of_0 (λ_=>rfl) (λ_=>rfl) λ{E L F H S ρ G Q R} I X h k=>by
  intro p hp;have hh:=KU I hp (.dT 0 []);have e:=uB.dct (o:=.dT 0 []) (b:=b) (ks:=[]) (vs:=[]) (ts:=[]) (W:=λ_=>False) k (Ste.refl.new hp (.dT 0 [])) (I.new hp _) hp (I.fh.free hp) hh ?_ (.nil λ_ z=>z) (λ_ z=>z.elim) .none (λz=>z) h;rw[Ab]at e;exact e;cases b with
  |true=>exact#[0,[],rfl,rfl,rfl,λ_ z=>(nomatch z),Q7]
  |false=>exact .inr #[0,rfl,rfl,rfl]
 | .dsp a b=>.of_0 (λ_=>rfl) (λ_=>rfl) λ{E L F H S ρ G Q R} I X h k=>by
  intro p hp;have hh:=KU I hp (.dT 0 []);have s0:Ste F H S ρ F (FA H p (.dT 0 [])) S ρ:=Ste.refl.new hp _;refine UE (HA g a) (I.new hp _) (X.from s0.toStp) h λy F1 J S1 A x n Z s1 I1 X1 _ er _ #[he,q1]=>?_;have hh1:=hh.step s1.toStp I1;have ry:=er he;refine(HA g b).e I1 X1 q1 λv F2 H2 S2 M t m Zb s2 I2 r2 q2=>?_;have hh2:=hh1.step s2.toStp I2;let#[he2,hk,q2]:=q2;let#[W,rw,hw,frw]:=(r2.from s1.toStp).strict he2;have hp2:H2 p=jr (.dT 0 []):=s2.hh p _ (s1.hh p _ YA (hh.nu p rfl)) (hh1.nu p rfl);have np:¬ W p:=λz=>by rcases frw p z with q|q;rw[YA]at q;cases q;exact hh.nu p rfl q
  have ry2:=ry.mono s2.ff;refine#[hp2,?_];generalize x.er=d at hk ry2 q2;cases NR hk ry2 with|intro ks hh=>let#[c,rfl,rfl,hq]:=hh;refine#[c,ks,rfl,I2.fh.key hq,λep=>?_];exact uB.dct (o:=.dT ep [(ks,c,v)]) (b:=kf) (vs:=[v]) (ts:=[t]) k (s0.trans (s1.trans s2)) I2 hp (hh2.dom p rfl).2 hh2 #[ep,_,rfl,rfl,rfl,λz hz=>by rw[QJ.mp hz];exact hq,by simp] (Trs.one rw) (λb hb=>by rcases frw b hb with q|q;exact .inl (JB b q);exact .inr q) hw np q2
 | .anil=>#[λI X h k=>h.elim,λI X h k=>h.elim,λ{E L F H S ρ G md Q R} I X _ h k=>k [] F H S ρ [] (λ_=>False) (λ_=>False) .refl I #[.nil λ_ z=>z,λ_ z=>z.elim,λ_ z=>z.elim,λ_ _ _ _ z=>z.elim] (by cases md with|nil=>rfl|cons m r=>cases m<;>rfl) h]
 | .acons a as=>#[λI X h k=>h.elim,λI X h k=>h.elim,λ{E L F H S ρ G md Q R} I X hm h k=>by
  show(wp K Γ a L).e G H λx J=>(wp K Γ as L).a G J λxs H2=>R (x::xs) H2;have vr2:∀i∈PF as,i∈PF (.acons a as):=λi hi=>QY _ hi;cases hmd:(md.headD .fro).isMut with
  |true =>
   have h2:c9 a=kf/\(pe Ψ as E).a md.tail ρ λxs A=>Q ((.d .none,kf)::xs) A:=by have h3:(if(md.headD .fro).isMut=kf then _ else _):=h;rw[hmd,i0 rfl]at h3;exact h3
   obtain⟨m,md',rfl⟩:∃m md',md=m::md':=by
    cases md with|nil=>cases hmd|cons m md'=>exact#[m,md',rfl]
   have em:m=.chg:=by have hmd:m.isMut=true:=hmd;cases m<;>first|rfl|cases hmd
   subst em;cases a with
   |var j=>let#[v,hv]:=hm j (show j∈j::bA md' as from QF);show(match G[j]? with|some (jr v)=>_|_=>False);rw[hv];refine(HA g as).a I X (λi hi=>hm i (QE _ hi)) h2.2 λvs O N S' B xs W Y s C r mv q=>?_;refine k (v::vs) O N S' B _ W Y s C #[.chg hmd r.av,r.fr,(r.vars vr2).tm,r.nw] ?_ q;show(jr (jr v))::(pB md' vs).map _=G[j]?::(bA md' as).map _;have mv:(pB md' vs).map (λv=>jr (jr v))=(bA md' as).map (λj=>G[j]?):=mv;rw[hv,mv]
   |_=>exact i2 h2.1 (by simp[c9])
  |false =>
   have h2:(pe Ψ a E).e ρ λx n A=>sq (α:=List (T×Bool)) (if n=kf then .d .none else x) A ((pe Ψ as E).a md.tail) λxs M=>Q ((x,n)::xs) M:=by have h3:(if(md.headD .fro).isMut=kf then _ else _):=h;rw[hmd,ii (by simp)]at h3;exact h3
   have hroots:bA md (.acons a as)=bA md.tail as:=by
    cases md with|nil=>cases as<;>rfl|cons m md'=>have hmd:m.isMut=false:=hmd;cases m<;>first|rfl|cases hmd
   have hmv:∀v vs,pB md (v::vs)=pB md.tail vs:=λv vs=>by unfold pB;generalize md.headD .fro=m at hmd;cases m<;>first | (cases vs<;>rfl)|cases hmd
   refine(HA g a).e I X h2 λv F1 J S1 A x n Z s1 I1 r1 q1=>?_;refine Nq (HA g as) I1 (X.from s1.toStp) (λi hi=>hm i (by rw[hroots];exact hi)) q1 λvs F2 H2 S2 M xs W Y s2 I2 kp hs r2 mv q2=>?_;have s12:=s1.trans s2;have r2':=(r2.from s1.toStp).vars vr2;have mv':(pB md (v::vs)).map (λv=>jr (jr v))=(bA md (.acons a as)).map (λj=>G[j]?):=by rw[hroots,hmv];exact mv
   cases n with
   |true =>
    have hd:=r1.held;have hd2:=hd.step s2.toStp I2;refine k (v::vs) F2 H2 S2 M _ (λb=>Z b∨W b) Y s12 I2 #[.new hmd (s2.toStp.keep r1.tr hd.nu) r2.av (λb hb hw=>?_) λb=>WZ,λb hb=>?_,r2'.tm,λi sl e b hb=>?_] mv' q2;rcases r2.fr b hw with q|q
    ·exact(hd.dom b hb).1 q
    exact hd.nu b hb q;rcases hb with hb|hb
    ·exact r1.fr rfl b hb
    exact r2'.fr b hb;rcases hb with hb|hb
    ·exact hd2.nw i sl e b hb
    exact r2.nw i sl e b hb
   |false =>
    have za:∀b,Z b->∃(i:Nat) (s:Sl),i∈PF a/\M[i]?=jr (jr s)/\S2 i b:=by
     cases hd:x.isD with
     |true =>
      intro b hb;exfalso;have tr:=r1.tr;cases x with
      |d x=>cases tr with|d r n=>exact n b hb
      |_=>cases hd
     |false=>let#[e1,e2]:=hs hd;rw[e1,e2];exact r1.tm rfl
    refine k (v::vs) F2 H2 S2 M _ W (λb=>Z b∨Y b) s12 I2 #[.tmp hmd (kp _ _ _ r1.tr) (λb hb=>.inl hb) (r2.av.sub λb hb=>.inr hb),r2'.fr,λb hb=>?_,r2.nw] mv' q2;rcases hb with hb|hb;let#[i,sl,h1,h2]:=za b hb;exact#[i,sl,Qm _ h1,h2];exact r2'.tm b hb]
end
end
structure Sts(C J:LN)(F H:Hp)(S:Ft)(ρ:xA)(σ:St)(F' H':Hp)(S':Ft)(ρ':xA)(σ':St):Prop where
 ff:Same F F'
 hh:∀b u,H b=jr u->¬ U ρ S b->H' b=jr u
 dm:∀b,H' b=kv->H b=kv
 fn:∀b,F b=kv->F' b≠kv->U ρ S b∨H b=kv
 uu:∀b,U ρ' S' b->U ρ S b∨H b=kv
 bo:∀(j:Nat) t,j∉J->ρ'[j]?=jr (jr (.bor t))->t.isD=kb->ρ[j]?=jr (jr (.bor t))/\S' j=S j/\σ'[j]?=σ[j]?
 sg:∀j∈C,σ'[j]?=σ[j]?
structure Stc(C:LN)(F H:Hp)(S:Ft)(ρ:xA)(σ:St)(F' H':Hp)(S':Ft)(ρ':xA)(σ':St):Prop where
 ff:Same F F'
 hh:∀b u,H b=jr u->¬ U ρ S b->H' b=jr u
 dm:∀b,H' b=kv->H b=kv
 fn:∀b,F b=kv->F' b≠kv->U ρ S b∨H b=kv
 uu:∀b,U ρ' S' b->U ρ S b∨H b=kv
 sg:∀j∈C,σ'[j]?=σ[j]?
section
variable{K:QA}{Γ:Ev}{Ψ:PEv}{E:XE}{M:XK}{F H p X B L:Hp}{S S1 G:Ft}{ρ y Y:xA}{σ g A:St}{C J:LN}
section
variable{t:T}{Z:gB}{i:Nat}
theorem Stp.sts(s:Stp F H S ρ p X S1 y):Sts C J F H S ρ σ p X S1 y σ:=#[s.ff,s.hh,s.dm,s.fn,s.uu,λj t _ e h=>let#[z,x]:=s.bo j t e h;#[z,x,rfl],λ_ _=>rfl]
theorem Sts.refl:Sts C J F H S ρ σ F H S ρ σ:=Stp.refl.sts
theorem Sts.trans(a:Sts C J F H S ρ σ p X S1 y g)(b:Sts C [] p X S1 y g B L G Y A):Sts C J F H S ρ σ B L G Y A where
 ff:=a.ff.trans b.ff
 hh:=λx u h n=>b.hh x u (a.hh x u h n) λz=>by rcases a.uu x z with q|q;exact n q;rw[q]at h;cases h
 dm:=λx h=>a.dm x (b.dm x h)
 fn:=λx h z=>by
  by_cases q:p x=kv;rcases b.fn x q z with w|w
  ·exact a.uu x w
  exact .inr (a.dm x w);exact a.fn x h q
 uu:=λx h=>by rcases b.uu x h with w|w;exact a.uu x w;exact .inr (a.dm x w)
 bo:=λj t v h n=>by let#[o,m,l]:=b.bo j t (by simp) h n;let#[f,e,k]:=a.bo j t v o n;exact#[f,m.trans e,l.trans k]
 sg:=λj v=>(b.sg j v).trans (a.sg j v)
theorem Sts.c(s:Sts C J F H S ρ σ p X S1 y g):Stc C F H S ρ σ p X S1 y g:=#[s.ff,s.hh,s.dm,s.fn,s.uu,s.sg]
theorem Stc.trans(a:Stc C F H S ρ σ p X S1 y g)(b:Stc C p X S1 y g B L G Y A):Stc C F H S ρ σ B L G Y A where
 ff:=a.ff.trans b.ff
 hh:=λx u h n=>b.hh x u (a.hh x u h n) λz=>by rcases a.uu x z with q|q;exact n q;rw[q]at h;cases h
 dm:=λx h=>a.dm x (b.dm x h)
 fn:=λx h z=>by
  by_cases q:p x=kv;rcases b.fn x q z with w|w
  ·exact a.uu x w
  exact .inr (a.dm x w);exact a.fn x h q
 uu:=λx h=>by rcases b.uu x h with w|w;exact a.uu x w;exact .inr (a.dm x w)
 sg:=λj v=>(b.sg j v).trans (a.sg j v)
theorem EE.fromS(h:EE K F H S ρ E M)(s:Sts C J F H S ρ σ p X S1 y g):EE K p X S1 y E M:=λx k B L G Y v f r q =>
 h x k B L (λ_ _=>False) [] #[s.ff.trans v.ff,λb u e n=>v.hh b u (s.hh b u e n) (λz=>(s.uu b z).elim n λw=>(by rw[w]at e;cases e)),λb e=>s.dm b (v.dm b e),λb e z=>by
  by_cases q:p b=kv;rcases v.fn b q z with w|w
  ·exact s.uu b w
  exact .inr (s.dm b w);exact s.fn b e q,λb #[i,t,e,_]=>by simp at e,λj t e=>by simp at e] f r q
structure EndsOk(K:QA)(C:LN)(F H:Hp)(S:Ft)(ρ:xA)(σ:St)(Z:PEnds)(Dn:Ends):Prop where
 nx:∀F' H' S' ρ' σ',Sts C [] F H S ρ σ F' H' S' ρ' σ'->Rl K F' H' S' ρ' σ'->Z.nx ρ'->Dn.nx σ' H'
 rt:∀v t W F' H' S' ρ' σ',Stc C F H S ρ σ F' H' S' ρ' σ'->Rl K F' H' S' ρ' σ'->Tr K F' H' kf v t W->Held F' H' S' ρ' W->(∀b,W b->H b=kv∨U ρ S b)->Z.rt t ρ'->Dn.rt v H'
 bk:∀F' H' S' ρ' σ',Sts C [] F H S ρ σ F' H' S' ρ' σ'->Rl K F' H' S' ρ' σ'->Z.bk ρ'->Dn.bk σ' H'
 ct:∀F' H' S' ρ' σ',Sts C [] F H S ρ σ F' H' S' ρ' σ'->Rl K F' H' S' ρ' σ'->Z.ct ρ'->Dn.ct σ' H'
theorem gz(s:Sts C J F H S ρ σ p X S1 y g){W:gB}(fr:∀b,W b->X b=kv∨U y S1 b):∀b,W b->H b=kv∨U ρ S b:=λb hb=>by rcases fr b hb with q|q;exact .inl (s.dm b q);exact(s.uu b q).symm
theorem EndsOk.from{Z:PEnds}{Dn:Ends}(ok:EndsOk K C F H S ρ σ Z Dn)(s:Sts C [] F H S ρ σ p X S1 y g):EndsOk K C p X S1 y g Z Dn :=
 #[λa k w z x u I q=>ok.nx a k w z x (s.trans u) I q,λv t W a k w z x u I r h fr q=>ok.rt v t W a k w z x (s.c.trans u) I r h (gz s fr) q,
  λa k w z x u I q=>ok.bk a k w z x (s.trans u) I q,λa k w z x u I q=>ok.ct a k w z x (s.trans u) I q]
theorem Sts.setD(s:Sts C J F H S ρ σ p X S1 y g)(i:Nat)(a:i∉C)(v:V)(k:t.isD=kf)(Z:gB):Sts C J F H S ρ σ p X (RH S1 i Z) (y.set i (jr (.bor t))) (g.set i (jr v)) :=
 #[s.ff,s.hh,s.dm,s.fn,λb #[j,u,z,w]=>by
  rcases dA z with⟨_,e,_⟩| ⟨n,z⟩
  cases e;rw[ZA (qC n)]at w;exact s.uu b #[j,u,z,w],
 λj u h e x=>by
  rcases dA e with⟨_,e,_⟩| ⟨n,e⟩
  injection e with e;injection e with e;subst e;rw[k]at x;cases x;rw[ZA (qC n),xE n];exact s.bo j u h e x,
 λj h=>by have n:i≠j:=λe=>a (e▸h);rw[xE n];exact s.sg j h]
theorem Rl.setD(I:Rl K F H S ρ σ)(i:Nat){v:V}{x:D}(r:Rep K F v x):Rl K F H (RH S i λ_=>False) (ρ.set i (bD x)) (σ.set i (jr v)) :=
 I.setB i (.d r λ_ z=>z) λ_ _ _ _ _ z=>z.elim
theorem Rl.setN(I:Rl K F H S ρ σ)(i:Nat){v:V}(r:Tr K F H kf v t Z)(w:∀(j:Nat) s,j≠i->ρ[j]?=jr (jr s)->∀b,Z b->¬ S j b):Rl K F H (RH S i Z) (ρ.set i (jr (.own t))) (σ.set i (jr v)) where
 fh:=I.fh
 len:=by simpa using I.len
 sl:=λj s h=>by
  rcases dA h with⟨rfl,e,hl⟩| ⟨a,h⟩
  cases e;exact#[v,CY (by rw[<- I.len];exact hl),by rw[IA];exact r];rw[xE a,ZA (qC a)];exact I.sl j s h
 dj:=λj k f s n u x b hb hk=>by
  rcases dA u with⟨e,_,_⟩| ⟨l,u⟩
  subst e;rw[IA]at hb;rcases dA x with⟨e,_,_⟩| ⟨z,x⟩
  exact n e;rw[ZA (qC z)]at hk;exact w k s (qC z) x b hb hk;rw[ZA (qC l)]at hb;rcases dA x with⟨e,_,_⟩| ⟨z,x⟩
  subst e;rw[IA]at hk;exact w j _ n u b hk hb;rw[ZA (qC z)]at hk;exact I.dj j k f s n u x b hb hk
theorem Sts.setN(s:Sts C J F H S ρ σ p X S1 y g)(i:Nat)(w:i∉C)(v:V)(t:T)(fr:∀b,Z b->H b=kv∨U ρ S b):Sts C J F H S ρ σ p X (RH S1 i Z) (y.set i (jr (.own t))) (g.set i (jr v)) :=
 #[s.ff,s.hh,s.dm,s.fn,λb #[j,u,z,x]=>by
  rcases dA z with⟨rfl,_,_⟩| ⟨n,z⟩
  rw[IA]at x;exact(fr b x).symm;rw[ZA (qC n)]at x;exact s.uu b #[j,u,z,x],
 λj u h e k=>by
  rcases dA e with⟨_,e,_⟩| ⟨n,e⟩
  cases e;rw[ZA (qC n),xE n];exact s.bo j u h e k,
 λj h=>by have n:i≠j:=λe=>w (e▸h);rw[xE n];exact s.sg j h]
theorem tP:∀(u:LN) (ds:List D) {ρ x:xA},eB u (ds.map T.d) ρ=jr x->∀(j:Nat) t,x[j]?=jr (jr (.bor t))->t.isD=kb->j∉u/\ρ[j]?=jr (jr (.bor t))
 |[],[],ρ,x,h,j,t,e,hd=>by simp only[wT,eB,Qr]at h;subst h;exact#[(by simp),e]|[],_::_,_,_,h,_,_,_,_=>by simp[eB]at h|_::_,[],_,_,h,_,_,_,_=>by simp[eB]at h|i::u,d::ds,ρ,x,h,j,t,e,hd=>by
  simp only[QS,eB]at h;let#[w,v]:=tP u ds h j t e hd;rcases dA v with⟨_,q,_⟩| ⟨n,q⟩
  injection q with q;injection q with q;subst q;cases hd;exact#[λm=>(QL.mp m).elim (λz=>n z.symm) w,q]
theorem Rl.frz1(I:Rl K F H S ρ σ)(h:ρ[i]?=jr (jr (.own t))):Rl K (rJ F H (S i)) H (RH S i λ_=>False) (ρ.set i (bD t.er)) σ/\Sts C [] F H S ρ σ (rJ F H (S i)) H (RH S i λ_=>False) (ρ.set i (bD t.er)) σ:=by
 let#[v,hv,r]:=I.sl i _ h;have k:=vH (H:=H) λb (hb:S i b)=>(r.dom b hb).2;have O:Rl K F H S (ρ.set i kv) σ:=I.drop (by simp) λj s e=>by
  rcases dA e with⟨_,z,_⟩| ⟨_,e⟩
  cases z;exact e
 have l:Held F H S (ρ.set i kv) (S i):=#[r.dom,λj s e b hb z=>by
  rcases dA e with⟨_,q,_⟩| ⟨n,e⟩
  cases q;exact I.dj i j t s n h e b hb z]
 have N:=O.frz l;have f:Rep K (rJ F H (S i)) v t.er:=Tr.kept k r λb u hb e=>by rw[pJ hb];exact e
 have a:=N.setD i f;have W:(ρ.set i kv).set i (bD t.er)=ρ.set i (bD t.er):=by simp
 have o:σ.set i (jr v)=σ:=by apply qu;intro j;rw[wJ];split;rename_i e;subst e;split;exact hv.symm;rename_i n;rw[Q0 ()];rfl
 rw[W,o]at a;refine#[a,#[k,λb u e _=>e,λb e=>e,λb e z=>.inl ?_,λb #[j,u,x,w]=>.inl ?_,λj u _ e m=>?_,λ_ _=>rfl]];by_cases hb:S i b
 ·exact#[i,t,h,hb]
 rw[oC hb]at z;exact i2 e z;rcases dA x with⟨_,q,_⟩| ⟨n,x⟩
 ·cases q
 rw[ZA (qC n)]at w;exact#[j,u,x,w];rcases dA e with⟨_,q,_⟩| ⟨n,e⟩
 ·injection q with q;injection q with q;subst q;cases m
 exact#[e,ZA (qC n),rfl]
theorem V3{f:Option Sl->Option Sl}:ρ.modify i f=match ρ[i]? with|some o=>ρ.set i (f o)|none=>ρ:=by
 apply qu;intro j;rw[W4];cases h:ρ[i]? with|none=>simp only;by_cases e:i=j;subst e;simp[h];simp[e]|some o=>simp only;rw[wJ];by_cases e:i=j;subst e;let#[hl,rfl]:=Qg.mp h;simp[hl];simp[e]
theorem gT{α:Type}{l:List α}{o:α}(h:l[i]?=jr o):l.set i o=l:=by apply qu;intro j;rw[wJ];split;rename_i e;subst e;rw[i0 (Qg.mp h).1,h];rfl
theorem Rl.frzAt:∀(x:LN) {F:Hp}{S:Ft}{ρ:xA},Rl K F H S ρ σ->∃z S',Rl K z H S' (frzAt x ρ) σ/\Sts C [] F H S ρ σ z H S' (frzAt x ρ) σ
 |[],F,S,ρ,I=>#[F,S,I,.refl]|i::x,F,S,ρ,I=>by
  have one:∃p S1,Rl K p H S1 (ρ.modify i pX) σ/\Sts C [] F H S ρ σ p H S1 (ρ.modify i pX) σ:=by
   rw[V3];cases h:ρ[i]? with
   |none=>exact#[F,S,I,.refl]|some o =>
    cases o with
    |none=>have e:ρ.set i (pX kv)=ρ:=gT h;simp only[e];exact#[F,S,I,.refl]|some u =>
     cases u with|bor t=>have e:ρ.set i (pX (jr (.bor t)))=ρ:=gT h;simp only[e];exact#[F,S,I,.refl]|own t=>exact#[_,_,I.frz1 h]
  let#[p,S1,a,w]:=one;let#[B,G,k,v]:=Rl.frzAt x a;exact#[B,G,k,w.trans v]
end
end
noncomputable def lK(C:LN):PT->Bool
 | .seq s r=>lK C s&&lK C r|.set i _=>!C.contains i|.own i _=>!C.contains i|.ife _ a b=>lK C a&&lK C b|.for_ x _ _ h=>x.ix.all (λi=>!C.contains i)&&lK C h|.nil=>kf|.expr _=>kf|.ret _=>kf|.tset y _=>y.all λi=>!C.contains i|.six _ _ _=>kf|.sdf _ _=>kf|.whl _ h=>lK C h|.frz _ s=>lK C s
section
variable{K:QA}{Γ:Ev}{Ψ:PEv}{E:XE}{O:XK}{F H D B F2 N:Hp}{S S1 P:Ft}{ρ A M:xA}{σ G R:St}{C J:LN}
theorem Sts.bind{L:LN}(s:Sts C J F H S ρ σ D B S1 A G)(b:Bd L D B S1 A G F2 N P M R)(v:∀j∈L,j∈J)(w:∀j∈L,j∉C):Sts C J F H S ρ σ F2 N P M R :=
 #[s.ff.trans b.ff,λx u e n=>b.hh x u (s.hh x u e n),λx e=>s.dm x (b.dm x e),λx e z=>by
  by_cases q:D x=kv;exact .inr (s.dm x (b.fn x q z));exact s.fn x e q,λx u=>s.uu x (b.U u),λj t h e y=>by
  let#[l,i,g]:=b.out j λz=>h (v j z);rw[l]at e;let#[f,a,k]:=s.bo j t h e y;exact#[f,i.trans a,g.trans k],λj h=>(b.out j λz=>w j z h).2.2.trans (s.sg j h)]
theorem DZ{g:Tg}{body:PEnds->xA->Prop}{tb:TS}{Z:PEnds}{Dn:Ends}{xs:List Item}{o:LT}{st:Hp->Prop}{Y:gB}
  (ib:∀{F H:Hp}{S:Ft}{ρ:xA}{σ:St}{Z:PEnds}{Dn:Ends},Rl K F H S ρ σ->EE K F H S ρ E O->body Z ρ->EndsOk K C F H S ρ σ Z Dn->tb Dn σ H)
  (I:Rl K F H S ρ σ) (X:EE K F H S ρ E O) (hC:∀j∈g.ix,j∉C) (pr:xb (A4 K F H Y) xs o) (hy:∀b,Y b->¬ U ρ S b/\H b≠kv/\F b=kv) (hst:∀f k,Same F f->Same f k->(∀b,Y b->k b=H b)->st k) (h:bI body g Z o ρ)
  (onx:∀f k S' z w,Sts C g.ix F H S ρ σ f k S' z w->Rl K f k S' z w->Z.nx z->Dn.nx w k)
  (ort:∀v t W f k S' z w,Stc C F H S ρ σ f k S' z w->Rl K f k S' z w->Tr K f k kf v t W->Held f k S' z W->(∀b,W b->H b=kv∨U ρ S b)->Z.rt t z->Dn.rt v k):xp K xs st g tb Dn σ H:=by
 intro J hJ;have len:=Q6 pr;have yk:∀{D B:Hp}{S1:Ft}{A:xA}{G:St},Sts C g.ix F H S ρ σ D B S1 A G->∀b,Y b->B b=H b/\D b=none:=λ{D B S1 A G} s b hb=>by
  let#[n,d1,d2]:=hy b hb;refine#[?_,?_];cases e:H b with|none=>exact i2 e d1|some u=>exact s.hh b u e n
  by_cases q:D b=kv
  ·exact q
  exact((s.fn b d2 q).elim n d1).elim
 refine#[λi m w k=>i<=xs.9/\m=xs.9 - i/\∃z f S',Sts C g.ix F H S ρ σ f k S' z w/\Rl K f k S' z w/\bI body g Z (o.drop i) z,#[_,Qt _,rfl,ρ,F,S,.refl,I,by simpa using h],?_];rintro i m G B ⟨hi,rfl,A,D,S1,p,I1,h1⟩;have hs:=hst D B p.ff I1.fh λb hb=>(yk p b hb).1;rcases QBO i xs.9 with l|hge;refine .inr #[hJ.go i B hs l,λw k=>i+1<=xs.9/\∃z f S',Sts C g.ix F H S ρ σ f k S' z w/\Rl K f k S' z w/\bI body g Z (o.drop (i+1)) z,λw k #[a,b]=>#[_,(),a,rfl,b],λx N hyl=>?_];let#[it,hx,hm]:=hJ.yld i B x N hs l hyl;let#[y,hd,ry]:=Paired.get_of pr hx;rw[hd]at h1;unfold bI at h1;have key:L3.bindI K g it G B λR N=>tb { Dn with nx:=λw k=>i+1<=xs.9/\∃z f S',Sts C g.ix F H S ρ σ f k S' z w/\Rl K f k S' z w/\bI body g Z (o.drop (i+1)) z,ct:=λw k=>i+1<=xs.9/\∃z f S',Sts C g.ix F H S ρ σ f k S' z w/\Rl K f k S' z w/\bI body g Z (o.drop (i+1)) z,bk:=Dn.nx } R N:=by
  refine kO I1 (λb hb u=>?_) (ry.mono p.ff (yk p)) h1 λM R F2 H3 P bd I2 h2=>?_;rcases p.uu b u with q|q
  ·exact(hy b hb).1 q
  exact(hy b hb).2.1 q;have s2:=p.bind bd (λj hj=>hj) hC;exact ib I2 (X.fromS s2) h2 #[λf k S' z w L Q q=>#[l,z,f,S',s2.trans L,Q,q],λv t W f k S' z w L Q r hw fr q=>ort v t W f k S' z w (s2.c.trans L) Q r hw (gz s2 fr) q,
   λf k S' z w L Q q=>onx f k S' z w (s2.trans L) Q q,λf k S' z w L Q q=>#[l,z,f,S',s2.trans L,Q,q]]
 exact vO hm key;have e:o.drop i=[]:=Wh ();rw[e]at h1;exact .inl #[hJ.stop i B hs hge,onx D B S1 A G p I1 h1]
theorem gG:∀(J:LN) (ρ:xA) (i:Nat) s,(kill J ρ)[i]?=jr (jr s)->ρ[i]?=jr (jr s)/\(i∈J->∀t,s=.bor t->t.isD=kf)
 |[],ρ,i,s,h=>#[h,λz=>by simp at z]|j::J,ρ,i,s,h=>by
  unfold kill at h;let#[x,w]:=gG J _ i s h;rw[W4]at x;by_cases e:j=i;subst e;simp only[reduceIte]at x;cases q:ρ[j]? with
  |none=>rw[q]at x;cases x|some o =>
   rw[q]at x;have x:UN o=jr s:=by simpa using x
   cases o with
   |none=>cases x|some v =>
    cases v with
    |own t=>cases x;exact#[rfl,λ_ u z=>by cases z]|bor t =>
     have x:(if t.isD=kf then jr (Sl.bor t) else kv)=jr s:=x;cases y:t.isD with|true=>rw[y,i0 rfl]at x;cases x;exact#[rfl,λ_ u z=>by cases z;exact y]|false=>rw[y]at x;simp at x
  simp only[e,if_false]at x;refine#[by simpa using x,λm=>w ((QL.mp m).elim (λz=>i2 z.symm e) id)]
theorem XN:∀(J:LN) (ρ:xA),(kill J ρ).9=ρ.9
 |[],_=>rfl|j::J,ρ=>by unfold kill;rw[XN J];simp
theorem Sts.kill(s:Sts C J F H S ρ σ D B S1 A G):Sts C [] F H S ρ σ D B S1 (L3.kill J A) G :=
 #[s.ff,s.hh,s.dm,s.fn,λb #[i,t,y,x]=>s.uu b #[i,t,(gG J A i _ y).1,x],λj t _ e h=>by let#[y,x]:=gG J A j _ e;by_cases z:j∈J;rw[x z t rfl]at h;cases h;exact s.bo j t z y h,s.sg]
theorem fU:∀(L:LN) (ρ:xA) (j:Nat),(lock L ρ)[j]?=if j∈L then ρ[j]?.map dG else ρ[j]?
 |[],ρ,j=>by simp[lock]|i::L,ρ,j=>by
  have x:∀o,dG (dG o)=dG o:=λo=>by
   match o with
   |none=>rfl|some (.own _)=>rfl|some (.bor _)=>rfl
  unfold lock;rw[fU L,W4];by_cases e:i=j;subst e;cases h:ρ[i]? with|none=>simp|some o=>simp[x]
  have y:¬ j=i:=λz=>e z.symm;simp[e,y]
theorem dU:∀(L:LN) (ρ:xA),(lock L ρ).9=ρ.9
 |[],_=>rfl|i::L,ρ=>by unfold lock;rw[dU L];simp
theorem YM:∀(L:LN) (x ρ:xA) (j:Nat),(∀i∈L,i<ρ.9)->(VC L x ρ)[j]?=if j∈L then jr (x[j]?.getD kv) else ρ[j]?
 |[],x,ρ,j,_=>by simp[VC]|i::L,x,ρ,j,h=>by unfold VC;rw[YM L x _ j (λk hk=>by simpa using h k (QE _ hk)),wJ];by_cases e:i=j;subst e;simp[h i QF];have y:¬ j=i:=λz=>e z.symm;simp[e,y]
theorem JM:∀(L:LN) (h ρ:xA),(VC L h ρ).9=ρ.9
 |[],_,_=>rfl|i::L,h,ρ=>by unfold VC;rw[JM L];simp
theorem yI{ρ:xA}:∀(x:LN),∀i∈cC ρ x,∃t,ρ[i]?=jr (jr (.own t))
 |[],i,h=>by simp[cC]at h|j::x,i,h=>by
  unfold cC at h;split at h
  ·rename_i ho
   rcases QL.mp h with e|e
   ·subst e
    unfold pN at ho;split at ho;rename_i t e;exact#[t,e]
    all_goals cases ho
   exact yI x i e
  exact yI x i h
theorem nN{ρ:xA}{i:Nat}{t:T}(h:ρ[i]?=jr (jr (.own t))):∀(x:LN),i∈x->i∈cC ρ x
 |[],hi=>by simp at hi|j::x,hi=>by
  unfold cC;rcases QL.mp hi with e|e;subst e;have:pN ρ[i]?=true:=by rw[h];rfl
  rw[i0 this];exact QF;have:=nN h x e;split;exact QE _ this;exact this
section
variable{L:LN}(y:∀i∈L,∃t,ρ[i]?=jr (jr (.own t)))
include y
theorem tL{i:Nat}{s:Sl}(h:(lock L ρ)[i]?=jr (jr s)):(i∈L/\∃t,ρ[i]?=jr (jr (.own t))/\s=.bor t)∨(i∉L/\ρ[i]?=jr (jr s)):=by rw[fU]at h;by_cases x:i∈L;rw[i0 x]at h;let#[t,e]:=y i x;rw[e]at h;injection h with h;injection h with h;exact .inl #[x,t,e,h.symm];rw[ii x]at h;exact .inr #[x,h]
theorem lF{b:k0}(h:U (lock L ρ) S b):U ρ S b:=by
 let#[i,t,x,z]:=h;rcases tL y x with⟨_,u,_,e⟩| ⟨_,x⟩
 cases e;exact#[i,t,x,z]
theorem Rl.lock(I:Rl K F H S ρ σ):Rl K F H S (L3.lock L ρ) σ where
 fh:=I.fh
 len:=by rw[dU];exact I.len
 sl:=λi s e=>by
  rcases tL y e with⟨_,t,h,rfl⟩| ⟨_,h⟩
  let#[v,u,x]:=I.sl i _ h;exact#[v,u,x.weak];exact I.sl i s h
 dj:=λi j t s n k w=>by
  rcases tL y k with⟨_,_,_,z⟩| ⟨_,u⟩
  cases z;rcases tL y w with⟨_,a,x,_⟩| ⟨_,x⟩
  ·exact I.dj i j t _ n u x
  exact I.dj i j t s n u x
theorem Rl.lockU(I:Rl K F H S ρ σ){i:Nat}(x:i∈L){b:k0}(hb:S i b):¬ U (L3.lock L ρ) S b:=λ#[j,t,h,v]=>by
 let#[w,e]:=y i x;rcases tL y h with⟨_,_,_,z⟩| ⟨u,h⟩
 cases z;exact I.dj j i t _ (λz=>u (z▸x)) h e b v hb
theorem L0(I:Rl K F H S ρ σ)(s:Sts C [] F H S (lock L ρ) σ D B S1 A G)(W:Rl K D B S1 A G)(hl:∀i∈L,A[i]?=ρ[i]?.map dG) :
  ∃P,Rl K D B P (VC L ρ A) G/\Sts C [] F H S ρ σ D B P (VC L ρ A) G:=by
 classical
 have l1:∀i∈L,∃t,ρ[i]?=jr (jr (.own t))/\A[i]?=jr (jr (.bor t)):=λi h=>by let#[t,e]:=y i h;have:=hl i h;rw[e]at this;exact#[t,e,this]
 have hlt:∀i∈L,i<A.length:=λi h=>by let#[t,_,e]:=l1 i h;exact(Qg.mp e).1
 let P:Ft:=λi=>if i∈L then S i else S1 i
 have l:∀i∈L,P i=S i:=λi h=>i0 h;have g:∀i,i∉L->P i=S1 i:=λi h=>ii h;have get:∀i a,(VC L ρ A)[i]?=jr (jr a)->(i∈L/\∃t,ρ[i]?=jr (jr (.own t))/\A[i]?=jr (jr (.bor t))/\a=.own t)∨(i∉L/\A[i]?=jr (jr a)):=λi a e=>by rw[YM L ρ A i hlt]at e;by_cases h:i∈L;rw[i0 h]at e;let#[t,f,Y]:=l1 i h;rw[f]at e;injection e with e;have e:jr (Sl.own t)=jr a:=e;injection e with e;exact .inl #[h,t,f,Y,e.symm];rw[ii h]at e;exact .inr #[h,e]
 have Q:∀i∈L,∀k a,k∉L->A[k]?=jr (jr a)->∀b,S i b->¬ S1 k b:=λi h k a hk e b hb z=>by
  let#[t,f,_]:=l1 i h;cases a with
  |own u=>rcases s.uu b ⟨k,u,e,z⟩ with q|q;exact I.lockU y h hb q;exact(I.dom f hb).1 q
  |bor u =>
   cases o:u.isD with
   |true=>exact W.isD e o z|false =>
    let#[m,p,_]:=s.bo k u (by simp) e o;rw[p]at z;rcases tL y m with⟨q,_⟩| ⟨_,m⟩
    exact hk q;exact I.dj i k t _ (λq=>hk (q▸h)) f m b hb z
 refine#[P,#[W.fh,by rw[JM];exact W.len,λi a e=>?_,λi k t a n f Y b hb hk=>?_],#[s.ff,λb u e n=>s.hh b u e λz=>n (lF y z),s.dm,λb e z=>(s.fn b e z).imp (lF y) id,λb #[i,t,h1,h2]=>?_,λj t _ e o=>?_,s.sg]];rcases get i a e with⟨h,t,f,Y,rfl⟩| ⟨h,f⟩
 ·rw[l i h]
  let#[v,m,p]:=I.sl i _ f;cases o:t.isD with
  |true =>
   let#[v',g3,g4]:=W.sl i _ Y;refine#[v',g3,?_];have nb:∀b,¬ S i b:=λb=>I.isD f o;cases t with
   |d x =>
    have g4:Tr K D B kb v' (.d x) (S1 i):=g4;cases g4 with|d r _=>exact .d r nb
   |_=>cases o
  |false =>
   let#[_,_,g5]:=s.bo i t (by simp) Y o;refine#[v,g5.trans m,?_];have p:Tr K F H kf v t (S i):=p;refine p.mono s.ff λb hb=>?_;let#[d1,d2]:=p.dom b hb;have nu:=I.lockU y h hb;refine#[?_,?_];cases eb:H b with|none=>exact i2 eb d1|some u=>exact s.hh b u eb nu
   by_cases q:D b=kv
   ·exact q
   exact((s.fn b d2 q).elim nu d1).elim
 rw[g i h];exact W.sl i a f;rcases get i _ f with⟨h,t',X,a2,_⟩| ⟨h,X⟩
 ·rw[l i h]at hb
  rcases get k a Y with⟨w,t2,Z,b2,_⟩| ⟨w,Z⟩
  rw[l k w]at hk;exact I.dj i k t' _ n X Z b hb hk;rw[g k w]at hk;exact Q i h k a w Z b hb hk
 rw[g i h]at hb;rcases get k a Y with⟨w,t2,Z,b2,_⟩| ⟨w,Z⟩
 rw[l k w]at hk;exact Q k w i _ h X b hk hb;rw[g k w]at hk;exact W.dj i k t a n X Z b hb hk;rcases get i _ h1 with⟨h,t',X,a2,_⟩| ⟨h,X⟩
 ·rw[l i h]at h2
  exact .inl #[i,t',X,h2]
 rw[g i h]at h2;exact(s.uu b #[i,t,X,h2]).imp (lF y) id;rcases get j _ e with⟨_,_,_,_,z⟩| ⟨hj,f⟩
 ·cases z
 let#[m,p,g3]:=s.bo j t (by simp) f o;rcases tL y m with⟨q,_⟩| ⟨_,m⟩
 exact i2 q hj;exact#[m,(g j hj).trans p,g3]
end
theorem sR{i:Nat}(h:(!C.contains i)=kf):i∉C:=λz=>by have:C.contains i=true:=Qq.mpr z;rw[this]at h;cases h
theorem OT{x:LN}(h:(x.all λi=>!C.contains i)=kf):∀i∈x,i∉C:=λi y=>sR (qA.mp h i y)
theorem y0:∀{xs:List (T×Bool)},KS xs=kf->∀t∈LO xs,t.isD=kf
 |[],_,t,h=>by simp[LO]at h|p::r,h,t,y=>by
  simp only[KS,Qa]at h;simp only[LO,QL]at y;rcases y with rfl|y;let#[x,n]:=p;cases n with
  |true=>rfl|false =>
   have z:=h.1;cases x with|d x=>rfl|_=>cases z
  exact y0 h.2 t y
theorem Tn.bare{Y:gB}{vs:LV}{ts:LT}(h:Tn K F H Y vs ts):(∀t∈ts,t.isD=kf)->Tn K F H (λ_=>False) vs ts:=by
 induction h with
 |nil=>exact λ_=>.nil|@cons v t vs ts Z r z a w =>
  intro y;refine .cons (Z:=λ_=>False) ?_ (λ_ z=>z) (w λu k=>y u (QE _ k));have y:=y t QF;cases t with
  |d x=>cases r with|d q _=>exact .d q λ_ z=>z
  |_=>cases y
theorem D6{v:V}{t:T}{W:gB}{Z:PEnds}{Dn:Ends}(ok:EndsOk K C F H S ρ σ Z Dn)(s:Ste F H S ρ D B S1 A)(I:Rl K D B S1 A σ)(r:Tr K D B kf v t W)(h:Held D B S1 A W)(fr:∀b,W b->H b=kv∨U ρ S b)(q:Z.rt t A):Dn.rt v B :=
 ok.rt v t W D B S1 A σ (s.toStp.sts (J:=[])).c I r h fr q
theorem IQ(g:GOk K Γ Ψ):∀(e:PX) {F H:Hp}{S:Ft}{ρ:xA}{σ:St}{Z:PEnds}{Dn:Ends},Rl K F H S ρ σ->EE K F H S ρ E O->oD Ψ E Z.rt e ρ->EndsOk K C F H S ρ σ Z Dn->(wp K Γ e O).e σ H Dn.rt:=by
  intro e F H S ρ σ Z Dn I X h ok;have m:∀e,(pe Ψ e E).e ρ (λx n A=>uH x n=kf/\Z.rt x A)->(wp K Γ e O).e σ H Dn.rt:=λe h=>by refine(HA g e).e (Q:=λx n A=>uH x n=kf/\Z.rt x A) I X h λv F' H' S' l x n Za s J r #[L,q]=>?_;let#[W,o,p,fr]:=r.strict L;exact D6 ok s J o p fr q
  cases e with
  |ife t a b =>
   have h:(pe Ψ t E).t ρ λk A=>if k=kf then oD Ψ E Z.rt a A else oD Ψ E Z.rt b A:=h
   refine(HA g t).t I X h λk F' H' S' l s J q=>?_;cases k with|true=>exact IQ g a J (X.from s.toStp) q (ok.from s.toStp.sts)|false=>exact IQ g b J (X.from s.toStp) q (ok.from s.toStp.sts)
  |var i =>
   have y:Ox ρ i Z.rt ρ[i]?:=h;show(match σ[i]? with|some (jr v)=>Dn.rt v _|_=>False)
   match f:ρ[i]?,y with
   |some (jr (.own t)),y =>
    let#[v,w,r]:=I.sl i _ f;rw[w];have I0:Rl K F H S (ρ.set i kv) σ:=I.drop (by simp) λj s e=>by
     rcases dA e with⟨_,z,_⟩| ⟨_,e⟩
     cases z;exact e
    refine ok.rt v t (S i) F H S (ρ.set i kv) σ #[.refl _,λb u e _=>e,λb e=>e,λb e z=>i2 e z,λb #[j,u,w,h2]=>.inl ?_,λ_ _=>rfl] I0 r #[r.dom,λj s e b hb z=>?_] (λb hb=>.inr #[i,t,f,hb]) y;rcases dA w with⟨_,z,_⟩| ⟨_,w⟩
    ·cases z
    exact#[j,u,w,h2];rcases dA e with⟨_,q,_⟩| ⟨n,e⟩
    ·cases q
    exact I.dj i j t s n f e b hb z
   |some (jr (.bor t)),y =>
    let#[v,w,r]:=I.sl i _ f;rw[w];let#[Y,y]:=y;cases t with
    |d x =>
     have r:Tr K F H kb v (.d x) (S i):=r;cases r with|d q n=>exact D6 (W:=λ_=>False) ok .refl I (.d q λ_ z=>z) .none (λ_ z=>z.elim) y
    |_=>cases Y
   |some kv,y=>exact y.elim|none,y=>exact y.elim
  |_=>exact m _ h
theorem AI(g:GOk K Γ Ψ):∀(p:PT) {F H:Hp}{S:Ft}{ρ:xA}{σ:St}{Z:PEnds}{Dn:Ends},lK C p=kf->Rl K F H S ρ σ->EE K F H S ρ E O->tB Ψ E p Z ρ->EndsOk K C F H S ρ σ Z Dn->OS K Γ O p Dn σ H
 | .nil,_,_,_,_,_,_,_,c,I,X,h,ok=>ok.nx _ _ _ _ _ .refl I h|.seq s r,_,_,_,_,_,_,_,c,I,X,h,ok=>by let#[c1,c2]:=zA c;exact AI g s c1 I X h #[λF' H' S' L σ' s' J q=>AI g r c2 J (X.fromS s') q (ok.from s'),ok.rt,ok.bk,ok.ct]|.set i e,F,H,S,ρ,σ,Z,Dn,c,I,X,h,ok=>by have hi:=sR c;refine UE (RR:=λx B=>Dn.nx (σ.set i (jr x)) B) (HA g e) I X h λv F' H' S' L x n Za s J X' r er _ #[he,q]=>?_;exact ok.nx _ _ _ _ _ (s.toStp.sts.setD i hi v rfl _) (J.setD i (er he)) q|.expr e,F,H,S,ρ,σ,Z,Dn,c,I,X,h,ok=>(HA g e).e I X h λv F' H' S' L x n Za s J r q=>ok.nx _ _ _ _ _ s.toStp.sts J q|.ret e,F,H,S,ρ,σ,Z,Dn,c,I,X,h,ok=>IQ g e I X h ok|.ife t a b,F,H,S,ρ,σ,Z,Dn,c,I,X,h,ok=>by
  let#[c1,c2]:=zA c;refine(HA g t).t I X h λk F' H' S' L s J q=>?_;cases k with|true=>exact AI g a c1 J (X.from s.toStp) q (ok.from s.toStp.sts)|false=>exact AI g b c2 J (X.from s.toStp) q (ok.from s.toStp.sts)
 | .for_ tg ik its body,F,H,S,ρ,σ,Z,Dn,c,I,X,h,ok=>by
  let#[c1,c2]:=zA c;have hC:=OT c1;refine uY (RR:=λvs B=>mC K ik vs B λxs st N=>xp K xs st tg (OS K Γ O body) Dn σ N) (HA g its) I X h λvs D B S1 A xs Y s1 I1 X1 tn tm q=>?_;rw[sM _ rfl]at q;have ok1:=ok.from s1.toStp.sts;cases ha:KS xs with
  |true=>have tn':=tn.bare (y0 ha);refine pK I1.fh tn' q λits ys st pr hst hc=>?_;rw[ha,i0 rfl]at hc;refine DZ (λI X h ok=>AI g body c2 I X h ok) I1 X1 hC pr (λb z=>z.elim) hst hc ?_ ?_;exact λF' H' S' L σ' s' I' q=>ok1.nx _ _ _ _ _ s'.kill (I'.drop (XN _ _) λi sl e=>(gG _ _ i sl e).1) q;exact λv t W F' H' S' L σ' s' I' r hw fr q=>ok1.rt v t W F' H' S' L σ' s' I' r hw fr q|false =>
   refine pK I1.fh tn q λits' ys st pr hst hc=>?_;rw[ha,ii (by simp)]at hc;have hL:=yI (ρ:=A) (PF its);have IL:=I1.lock hL;have sL:Sts C [] D B S1 A σ D B (λ_ _=>False) [] σ:=#[.refl _,λb u e _=>e,λb e=>e,λb e z=>i2 e z,λb #[i,t,e,_]=>by simp at e,λj t _ e=>by simp at e,λ_ _=>rfl]
   have XL:EE K D B S1 (lock (cC A (PF its)) A) E O:=λx dx F2 N P M s2 f r q =>
    X1 x dx F2 N (λ_ _=>False) [] #[s2.ff,λb u e n=>s2.hh b u e λz=>n (lF hL z),s2.dm,λb e z=>(s2.fn b e z).imp (lF hL) id,λb #[i,t,e,_]=>by simp at e,λj t e=>by simp at e] f r q
   refine DZ (λI X h ok=>AI g body c2 I X h ok) IL XL hC pr (λb hb=>?_) hst hc ?_ ?_;let#[i,sl,h1,h2,h3]:=tm b hb;refine#[λu=>?_,I1.dom h2 h3];cases sl with
   |own t=>exact I1.lockU hL (nN h2 _ h1) h3 u|bor t =>
    let#[j,t',e1,e2]:=u;rcases tL hL e1 with⟨_,_,_,z⟩| ⟨_,e1⟩
    cases z;exact I1.dj j i t' _ (λz=>by subst z;rw[h2]at e1;cases e1) e1 h2 b e2 h3
   intro F' H' S' L σ' s' I' #[q1,q2];have sk:=s'.kill;have Ik:=I'.drop (XN tg.ix L) λi sl e=>(gG _ _ i sl e).1;let#[P,I2,s2]:=L0 hL I1 sk Ik λi hi=>(q1 i hi).2;exact ok1.nx _ _ _ _ _ s2 I2 q2;intro v t W F' H' S' L σ' s' I' r hw fr q;exact ok1.rt v t W F' H' S' L σ' #[s'.ff,λb u e n=>s'.hh b u e λz=>n (lF hL z),s'.dm,λb e z=>(s'.fn b e z).imp (lF hL) id,λb u=>(s'.uu b u).imp (lF hL) id,s'.sg] I' r hw (λb hb=>(fr b hb).imp id (lF hL)) q
 | .own i e,F,H,S,ρ,σ,Z,Dn,c,I,X,h,ok=>by refine(HA g e).e (Q:=λx n A=>uH x n=kf/\Z.nx (A.set i (jr (.own x)))) I X h λv F' H' S' L x n Za s J r #[he,q]=>?_;let#[W,r2,hw,fr]:=r.strict he;exact ok.nx _ _ _ _ _ (s.toStp.sts.setN i (sR c) v x fr) (J.setN i r2 λj sl _ e b hb=>hw.nw j sl e b hb) q|.tset is e,F,H,S,ρ,σ,Z,Dn,c,I,X,h,ok=>by
  have hc:=OT c;refine UE (RR:=λx B=>NE K (.tp is) x σ B Dn.nx) (HA g e) I X h λv F' H' S' L x n Za s J X' r er _ #[he,q]=>?_;have q2:JL (.tp is) (.d x.er) L λM=>Z.nx M/\∀(j:Nat) t,M[j]?=jr (jr (.bor t))->t.isD=kb->j∉is:=by
   generalize x.er=d at q;cases d with
   |tuple ds=>let#[M,e,q]:=q;exact#[M,e,q,λj t h1 h2=>(tP is ds e j t h1 h2).1]|dict kvs =>
    have q:(match DB kvs with | .tp ts=>∃M,eB is ts L=jr M/\Z.nx M|_=>False):=q;unfold DB at q;cases ek:FC kvs with|none=>rw[ek]at q;exact q.elim|some b=>rw[ek]at q;exact q.elim
   |_=>exact q.elim
  refine kO (Y:=λ_=>False) (it:=.one v) J (λb z=>z.elim) #[λ_=>False,.d (er he) λ_ z=>z,λ_ z=>z] q2 λM R F2 N P bd J2 qn=>?_;have st:=(s.toStp.sts (σ:=σ) (C:=C) (J:=is)).bind bd (λj hj=>hj) hc;exact ok.nx _ _ _ _ _ #[st.ff,st.hh,st.dm,st.fn,st.uu,λj t _ e hd=>st.bo j t (qn.2 j t e hd) e hd,st.sg] J2 qn.1
 | .six o i e,F,H,S,ρ,σ,Z,Dn,c,I,X,h,ok=>by
  have later:∀{j:Nat}{t:T}{v0:V},ρ[j]?=jr (jr (.own t))->Tr K F H kf v0 t (S j)->∀{F' H':Hp}{S':Ft}{L:xA},Ste F H S (ρ.set j (jr (.bor t))) F' H' S' L->Tr K F' H' kf v0 t (S j)/\∀b,S j b->H' b=H b:=λ{j t v0} hj r0 {F' H' S' L} s=>#[s.toStp.keep r0 (I.lock1U hj),λb hb=>by
   cases e:H b with|none=>exact i2 e (r0.dom b hb).1|some u=>exact s.hh b u e (I.lock1U hj b hb)]
  cases o with
  |var j =>
   have h:RC ρ[j]? _:=h;unfold RC at h;split at h;rename_i t hj;let#[v0,hv,r0]:=I.sl j _ hj;have r0:Tr K F H kf v0 t (S j):=r0;show(wp K Γ e O).e σ H λv B=>(wp K Γ (.var j) O).e σ B λov N=>(wp K Γ i O).e σ N λiv H3=>mT K ov iv v H3 λH4=>Dn.nx σ H4;refine UE (HA g e) (I.lock1 hj) (X.lock1 hj) h λxv D B S1 A x n Zx s1 I1 X1 _ er1 _ #[he,q1]=>?_;have rx:=er1 he;show(match σ[j]? with|some (jr v)=>_|_=>False);rw[hv];refine UE (HA g i) I1 X1 q1 λiv F2 N P M y m Zy s2 I2 X2 _ er2 _ #[he2,hj2,q2]=>?_;have s12:=s1.trans s2;refine v6 I2.fh (later hj r0 s12).1 (er2 he2) (rx.mono s2.ff) q2 λt' H3 S3 hh dm rt sub q=>?_;let#[st,I3,_]:=RI (W:=λ_=>False) I hj hv s12 I2 hh dm rt (λb hb=>.inl (sub b hb)) .none (λ_ z=>z.elim);exact ok.nx _ _ _ _ _ st.toStp.sts I3 q
   all_goals exact h.elim
  |idx a k =>
   cases a with
   |var j =>
    have h:RC ρ[j]? _:=h;unfold RC at h;split at h;rename_i t hj;let#[v0,hv,r0]:=I.sl j _ hj;have r0:Tr K F H kf v0 t (S j):=r0;show(wp K Γ e O).e σ H λv B=>(wp K Γ (.var j) O).e σ B λov N=>(wp K Γ k O).e σ N λzv H3=>G1 K ov zv H3 λow H4=>(wp K Γ i O).e σ H4 λiv H5=>mT K ow iv v H5 λH6=>Dn.nx σ H6;refine UE (HA g e) (I.lock1 hj) (X.lock1 hj) h λxv D B S1 A x n Zx s1 I1 X1 _ er1 _ #[he,q1]=>?_;have rx:=er1 he;show(match σ[j]? with|some (jr v)=>_|_=>False);rw[hv];refine UE (HA g k) I1 X1 q1 λzv F2 N P M z l Zz s2 I2 X2 _ er2 _ #[hez,b,ks,ts,n,s,et,hk,hf,ht,q2]=>?_;have s12:=s1.trans s2;have rz:=er2 hez;subst et;let#[r2,k2]:=later hj r0 s12;obtain⟨a,o,vs,ea,ho,dk,hw⟩:∃a o vs,v0=.ref a/\N a=jr o/\jL K F2 b o ks vs/\∃w,vs[n]?=jr w/\S j a:=by
     cases r2 with|dct h1 dk h2 h3 h4 h5=>let#[w,_,g1,_]:=h3.get ht;exact#[_,_,_,rfl,h1,dk,w,g1,(h5 _).mpr (.inl rfl)]
    let#[w,hw,sa]:=hw;subst ea;have gd:=(dk.mono I2.fh).get ho (rz.mono I2.fh) hk;rw[hf]at gd;have gd:US K N a zv (vs[n]?):=gd;rw[hw]at gd;have fin:(wp K Γ i O).e σ N λiv H5=>mT K w iv xv H5 λH6=>Dn.nx σ H6:=by
     refine UE (HA g i) I2 X2 q2 λiv F3 H3 S3 ρ3 y m Zy s3 I3 X3 _ er3 _ #[he3,hj3,q3]=>?_;have s13:=s12.trans s3;let#[r3,k3]:=later hj r0 s13;have ho3:H3 a=jr o:=by rw[k3 a sa,<- k2 a sa];exact ho
     refine vc I3.fh r3 ho3 dk hw ht (er3 he3) ((rx.mono s2.ff).mono s3.ff) q3 λt' H4 S4 hh dm rt sub q=>?_;let#[st,I4,_]:=RI (W:=λ_=>False) I hj hv s13 I3 hh dm rt (λb hb=>.inl (sub b hb)) .none (λ_ z=>z.elim);exact ok.nx _ _ _ _ _ st.toStp.sts I4 q
    cases zv with|str z=>exact#[w,gd,fin]|ref c=>exact#[w,gd,fin]|_=>exact gd.elim
    all_goals exact h.elim
   |_=>exact h.elim
  |_=>exact h.elim
 | .sdf j k,F,H,S,ρ,σ,Z,Dn,c,I,X,h,ok=>by
  have h:RC ρ[j]? _:=h;unfold RC at h;split at h;rename_i t hj;let#[v0,hv,r0]:=I.sl j _ hj;have r0:Tr K F H kf v0 t (S j):=r0;let#[hd,h]:=h;show(match σ[j]? with|some (jr v)=>j5 K "dict" v H/\(wp K Γ k O).e σ H λx B=>∀p,B p=kv->yM K v [x,.ref p] (FA B p (.dT 0 [])) λ_ N=>Dn.nx σ N|_=>False);rw[hv];constructor;cases r0 with
  |@dct _ b _ _ _ _ _ _ _ h1 dk _ _ _ _ =>
   cases b with|true=>let#[ep,kvs,rfl,_]:=dk;exact .inr (.inr (.inl #[rfl,.inr #[ep,kvs,h1]]))|false=>cases hd
  |_=>cases hd
  refine UE (HA g k) (I.lock1 hj) (X.lock1 hj) h λiv D B S1 A y m Zy s1 I1 X1 _ er _ #[he,hj1,q1]=>?_;intro p hp;have r1:=s1.toStp.keep r0 (I.lock1U hj);refine nk I1.fh hp r1 (er he) q1 λt' H3 S3 hh dm rt sub q=>?_;let#[st,I3,_]:=RI (W:=λ_=>False) I hj hv s1 I1 hh dm rt (λb hb=>(sub b hb).imp id λ(z:b=p)=>.inr (by rw[z];exact hp)) .none (λ_ z=>z.elim);exact ok.nx _ _ _ _ _ st.toStp.sts I3 q
  all_goals exact h.elim
 | .whl t body,F,H,S,ρ,σ,Z,Dn,c,I,X,h,ok=>by
  let#[W,#[m0,w0],turn]:=h;refine#[λm σ' H'=>∃L F' S',Sts C [] F H S ρ σ F' H' S' L σ'/\Rl K F' H' S' L σ'/\W m L,#[m0,ρ,F,S,.refl,I,w0],?_];rintro m G B ⟨A,D,S1,s1,I1,w1⟩;refine(HA g t).t I1 (X.fromS s1) (turn m A w1) λk F' H' S' L s' J q=>?_;have s2:=s1.trans s'.toStp.sts;cases k with
  |false=>exact ok.nx _ _ _ _ _ s2 J q|true =>
   refine#[λσ' H'=>∃m',m' < m/\∃L F' S',Sts C [] F H S ρ σ F' H' S' L σ'/\Rl K F' H' S' L σ'/\W m' L,λ_ _ z=>z,?_];refine AI g body c J (X.fromS s2) q #[?_,?_,?_,?_];exact λF' H' S' L σ' s' I' #[m',hm,w]=>#[m',hm,L,F',S',s2.trans s',I',w]
   exact λv t W F' H' S' L σ' s' I' r hw fr q=>ok.rt v t W F' H' S' L σ' (s2.c.trans s') I' r hw (gz s2 fr) q;exact λF' H' S' L σ' s' I' q=>ok.nx _ _ _ _ _ (s2.trans s') I' q;exact λF' H' S' L σ' s' I' #[m',hm,w]=>#[m',hm,L,F',S',s2.trans s',I',w]
 | .frz is s,F,H,S,ρ,σ,Z,Dn,c,I,X,h,ok=>by let#[F',S',I',s']:=I.frzAt (C:=C) is;exact AI g s c I' (X.fromS s') h (ok.from s')
end
section
variable{z:Ev}{n:Need}
noncomputable def Iw(x:Str)(n:String):Bool:=(x==("bool":Str)&&n == "bool")||(x==("int":Str)&&n == "int")||(x==("str":Str)&&n == "str")||(x==("list":Str)&&n == "list")||(x==("tuple":Str)&&n == "tuple")||(x==("ValueError":Str)&&n == "ValueError")
theorem Mj{x:Str}{n:String}(h:Iw x n=kf):gl x=jr (.type n):=by simp only[Iw,wn,Qa,beq_iff_eq]at h;rcases h with((((⟨rfl,rfl⟩| ⟨rfl,rfl⟩)|⟨rfl,rfl⟩)|⟨rfl,rfl⟩)|⟨rfl,rfl⟩)|⟨rfl,rfl⟩<;>kernel_rfl
structure Need where
 fn:LS
 va:LS
 no:LS
noncomputable def sy(n:Need):ItK->Bool
 | .val=>kf|.rng1=>n.no.contains ("range":Str)|.enum=>n.no.contains ("enumerate":Str)|.rev=>n.no.contains ("reversed":Str)|.itm=>kf
def dB(n:Need):PX->Bool
 | .glo x=>n.va.contains x|.bty x t=>n.no.contains x&&Iw x t|.bin _ a b | .cmp _ a b | .and a b | .or a b | .idx a b | .acons a b | .dsp a b=>dB n a&&dB n b
 | .not a | .lst a | .tup a=>dB n a
 | .lrv a=>n.no.contains "list" && (n.no.contains "reversed" && dB n a)|.ife a b c | .slc a b c=>dB n a&&(dB n b&&dB n c)
 | .call f y=>n.fn.contains f&&dB n y|.bi f y=>n.no.contains f.nm&&dB n y|.isi a c=>n.no.contains ("isinstance":Str)&&(dB n a&&dB n c)|.mt _ o y=>dB n o&&dB n y|.comp _ _ _ w u h v=>sy n w&&(dB n u&&(dB n h&&dB n v))|_=>kf
def fF(n:Need):PT->Bool
 | .seq s r=>fF n s&&fF n r|.set _ e=>dB n e|.own _ e=>dB n e|.expr e=>dB n e|.ret e=>dB n e|.ife c a b=>dB n c&&(fF n a&&fF n b)|.for_ _ y x h=>sy n y&&(dB n x&&fF n h)|.tset _ e=>dB n e|.six o i e=>dB n o&&(dB n i&&dB n e)|.sdf i k=>dB n (Sq i k)|.whl c b=>dB n c&&fF n b|.frz _ s=>fF n s|.nil=>kf
noncomputable def vS(z:Ev)(n:Need):Glob:=#[z,λf=>f∈n.fn,λx=>x∈n.va,λx=>x∈n.no]
theorem l9{x:ItK}(h:sy n x=kf):At (vS z n) x:=by
 cases x with|val=>trivial|itm=>trivial|_=>exact Qq.mp h
theorem BC:∀(p:PX),dB n p=kf->AA (vS z n) p:=by
 intro p;induction p with
 |glo x=>intro h;exact Qq.mp h|bty x t=>intro h;let#[v,u]:=zA h;exact#[Qq.mp v,Mj u]|bin _ a b y w|cmp _ a b y w|and a b y w|or a b y w|idx a b y w|acons a b y w|dsp a b y w=>intro h;let#[v,u]:=zA h;exact#[y v,w u]
 |not a y|lst a y|tup a y=>intro h;exact y h
 |ife a b c y w g|slc a b c y w g=>intro h;let#[v,e]:=zA h;let#[u,k]:=zA e;exact#[y v,w u,g k]
 |call f l y=>intro h;let#[v,u]:=zA h;exact#[Qq.mp v,y u]|lrv a y=>intro h;let#[v,u]:=zA h;let#[k,i]:=zA u;exact#[Qq.mp v,Qq.mp k,y i]|bi f l y=>intro h;let#[v,u]:=zA h;exact#[Qq.mp v,y u]|isi a c y g=>intro h;let#[v,e]:=zA h;let#[u,k]:=zA e;exact#[Qq.mp v,y u,g k]|mt _ o l q y=>intro h;let#[v,u]:=zA h;exact#[q v,y u]|comp _ _ _ Z m j Y X s r=>intro h;let#[v,h]:=zA h;let#[u,h]:=zA h;let#[k,i]:=zA h;exact#[l9 v,X u,s k,r i]|_=>intro _;trivial
theorem C2:∀(p:PT),fF n p=kf->cF (vS z n) p:=by
 intro p;induction p with
 |seq s r f l=>intro h;let#[u,y]:=zA h;exact#[f u,l y]|set _ e|own _ e|expr e|ret e|tset _ e=>intro h;exact BC _ h
 |six o i e=>intro h;let#[u,x]:=zA h;let#[y,w]:=zA x;exact#[BC _ u,BC _ y,BC _ w]|sdf i k=>intro h;exact BC _ h|frz _ s f=>intro h;exact f h|whl c b v=>intro h;let#[u,y]:=zA h;exact#[BC _ u,v y]|ife c a b m v=>intro h;let#[u,x]:=zA h;let#[y,w]:=zA x;exact#[BC _ u,m y,v w]|for_ _ q j g v=>intro h;let#[u,x]:=zA h;let#[y,w]:=zA x;exact#[l9 u,BC _ y,v w]|_=>intro _;trivial
noncomputable def GN(N h:LS)(sc:hZ):Bool:=sc.kind==.function&&!sc.isCoroutine&&!sc.isGenerator&&gK N&&N.take h.9==h &&
 h.all (λx=>sc.names.lookup x==jr .local||sc.names.lookup x==jr .cell)&&sc.names.all λy=>y.2 != .free
theorem aL{N x:LS}{sc:hZ}(h:GN N x sc=kf):FnScope N x sc:=by simp only[GN,Qa,qA,wn,beq_iff_eq,qE,bne_iff_ne,ne_eq]at h;let#[#[#[#[#[#[b,a],k],w],v],u],y]:=h;exact#[b,a,k,GE w,v,u,y]
def GA(n:Need)(b:PT)(N h:LS)(st:gi):Bool:=GN N h (MA st)&&mS b #[N,MA st] (zC st)&&fF n b
def Yl:Md->T->Sl
 | .chg,t=>.own t|_,t=>.bor t
noncomputable def bE:List Md->LT->xA
 |_,[]=>[]|md,t::ts=>jr (Yl (md.headD .fro) t)::bE md.tail ts
def lB(N:LS)(md:List Md)(ts:LT):xA:=bE md ts++QAd (N.9 - ts.9) kv
noncomputable def XB:Nat->List Md->Nat->LN
 |_,_,0=>[]|k,md,n+1=>match md.headD .fro with
  | .chg=>k::XB (k+1) md.tail n|_=>XB (k+1) md.tail n
def iW:Option (LT)->(LT->Prop)->Prop
 |some os,Q=>Q os|none,_=>False
def zD(P:PSp)(n:Nat)(Q:T->LT->Prop):PEnds where
 nx:=λh=>iW (LA (XB 0 P.md n) h) (Q (.d .none))
 rt:=λt h=>iW (LA (XB 0 P.md n) h) (Q t)
abbrev jAg(Ψ:PEv)(b:PT)(p:PSp)(N h:LS)(ds:LT)(Q:T->LT->Prop):Prop:=ds.9=h.9/\pF Ψ b (zD p h.9 Q) (lB N p.md ds)
abbrev GD(Ψ:PEv)(b:PT)(p:PSp)(N x:LS):Prop:=∀(h:LT) (Q:T->LT->Prop) (E:XE),p.run h Q E->h.9=x.9/\pF Ψ b (zD p x.9 Q) (lB N p.md h)
def PV(mg:Str->Option kn)(x:Str):V:=((mg x).bind cO).getD .non
def au(K:QA)(mg:Str->Option kn)(Ψ:PEv):Ev:=#[λf=>lift K (Ψ.sp f),PV mg]
structure ValsOk(P:vx)(w:x0)(K:QA)(mg:Str->Option kn)(Ψ:PEv)(va:LS):Prop where
 rep:∀x d,Ψ.va x=jr d->∀F,Rep K F (PV mg x) d
 has:∀x∈va,∃u v,mg x=jr u/\cO u=jr v
theorem NY{u:kn}{v:V}(h:cO u=jr v):aA v u:=by cases u<;>first | (obtain rfl:=Qn h;first|rfl|exact#[_,rfl])|exact nomatch (show(none:Option V)=jr v from h)
end
section
variable{P:vx}{w:x0}{K:QA}{mg:Str->Option kn}{base:vu}{Ψ:PEv}
section
variable{k:Nat}{F H:Hp}{Y M:gB}{md:List Md}{vs:LV}{ts:LT}{N l:LS}{R:PSp}{x o:Str}{st:gi}{f:k0}{p:gm}{b:PT}{n:Need}
def sC(P:vx)(w:x0)(K:QA)(mg:Str->Option kn)(base:vu)(Ψ:PEv)(k:Nat)(f:Str):Prop :=
 ∃(a:k0) (p:gm) (l:LS),FnOk P w K mg base i5 k a p l (lift K (Ψ.sp f))/\mg f=jr (.ref a)/\wW K (.ref a)=kf/\OH K p l []
theorem sC.mono{j:Nat}{f:Str}(h:sC P w K mg base Ψ j f)(hk:j<=k):sC P w K mg base Ψ k f:=by let#[a,p,l,z,y]:=h;exact#[a,p,l,z.mono hk,y]
theorem ArgsR.length(h:ArgsR K F H Y md vs ts):vs.9=ts.length:=by
 induction h with|nil=>rfl|chg _ _ e=>exact o9 Nat.succ e|rd _ _ _ _ e=>exact o9 Nat.succ e
theorem kJ:∀(m:List Md) (ts:LT),(bE m ts).9=ts.9
 |_,[]=>rfl|m,d::ds=>by unfold bE;rw[QO,QO,kJ]
theorem Z7{m:Md}(h:m≠.chg)(t:T):Yl m t=.bor t:=by cases m<;>first|rfl|exact i2 rfl h
theorem kI(md:List Md)(v:V)(vs:LV):pB md (v::vs)=match md.headD .fro with | .chg=>v::pB md.tail vs|_=>pB md.tail vs:=by first | (rw[pB];done) | (rw[pB];cases md.headD .fro<;>rfl)
theorem JN(md:List Md)(v:T)(vs:LT):LB md (v::vs)=match md.headD .fro with | .chg=>v::LB md.tail vs|_=>LB md.tail vs:=by first | (rw[LB];done) | (rw[LB];cases md.headD .fro<;>rfl)
theorem KP(md:List Md)(t:T)(ts:LT):bE md (t::ts)=jr (Yl (md.headD .fro) t)::bE md.tail ts:=by rw[bE]
theorem Rf(h:ArgsR K F H Y md vs ts)(r:Trs K F H kf (pB md vs) (LB md ts) M) :
  ∃Z:Ft,(∀(i:Nat) s,(bE md ts)[i]?=jr (jr s)->∃v,vs[i]?=jr v/\Tr K F H s.st v s.t (Z i))/\(∀(i:Nat) t,(bE md ts)[i]?=jr (jr (.own t))->∀b,Z i b->M b)/\(∀(i:Nat) t,(bE md ts)[i]?=jr (jr (.bor t))->∀b,Z i b->Y b) /\
   ∀(i j:Nat) t u,i≠j->(bE md ts)[i]?=jr (jr (.own t))->(bE md ts)[j]?=jr (jr (.own u))->∀b,Z i b->¬ Z j b:=by
 induction h generalizing M with
 |nil=>exact#[λ_ _=>False,λi s e=>by simp[bE]at e,λi t e=>by simp[bE]at e,λi t e=>by simp[bE]at e,λi j t u _ e=>by simp[bE]at e]|@chg md v vs t ts hm L W =>
  have I:pB md (v::vs)=v::pB md.tail vs:=by rw[kI,hm]
  have G:LB md (t::ts)=t::LB md.tail ts:=by rw[JN,hm]
  rw[I,G]at r;cases r with
  |@cons _ _ _ _ _ _ J S X O n q =>
   let#[Z,C,a,B,A]:=W O;have E:bE md (t::ts)=jr (.own t)::bE md.tail ts:=by rw[KP,hm];rfl
   rw[E];refine#[λi=>match i with|0=>J|i+1=>Z i,λi s e=>?_,λi u e b hb=>?_,λi u e b hb=>?_,λi j u w m e g b hb y=>?_];cases i with|zero=>simp at e;subst e;exact#[v,rfl,X]|succ i=>exact C i s (by simpa using e)
   cases i with|zero=>exact(q b).mpr (.inl hb)|succ i=>exact(q b).mpr (.inr (a i u (by simpa using e) b hb))
   cases i with|zero=>simp at e|succ i=>exact B i u (by simpa using e) b hb
   cases i with
   |zero =>
    cases j with|zero=>exact m rfl|succ j=>exact n b hb (a j w (by simpa using g) b y)
   |succ i =>
    cases j with|zero=>exact n b y (a i u (by simpa using e) b hb)|succ j=>exact A i j u w (λz=>m (by rw[z])) (by simpa using e) (by simpa using g) b hb y
 |@rd md v vs t ts J hm X Q L W =>
  have I:pB md (v::vs)=pB md.tail vs:=by rw[kI];cases e:md.headD .fro<;>first|exact i2 e hm|rfl
  have G:LB md (t::ts)=LB md.tail ts:=by rw[JN];cases e:md.headD .fro<;>first|exact i2 e hm|rfl
  rw[I,G]at r;let#[Z,C,a,B,A]:=W r;have E:bE md (t::ts)=jr (.bor t)::bE md.tail ts:=by rw[KP,Z7 hm]
  rw[E];refine#[λi=>match i with|0=>J|i+1=>Z i,λi s e=>?_,λi u e b hb=>?_,λi u e b hb=>?_,λi j u w m e g b hb y=>?_];cases i with|zero=>simp at e;subst e;exact#[v,rfl,X]|succ i=>exact C i s (by simpa using e)
  cases i with|zero=>simp at e|succ i=>exact a i u (by simpa using e) b hb
  cases i with|zero=>exact Q b hb|succ i=>exact B i u (by simpa using e) b hb
  cases i with
  |zero=>simp at e|succ i =>
   cases j with|zero=>simp at g|succ j=>exact A i j u w (λz=>m (by rw[z])) (by simpa using e) (by simpa using g) b hb y
theorem k6(f:Same F H)(h:ArgsR K F H Y md vs ts)(hm:Trs K F H kf (pB md vs) (LB md ts) M)(B:∀b,Y b->¬ M b) :
  ∃S,Rl K F H S (lB N md ts) (mD N vs)/\∀b,U (lB N md ts) S b->M b:=by
 let#[Z,W,a,X,r]:=Rf h hm;have hl:=h.9;have get:∀(i:Nat) s,(lB N md ts)[i]?=jr (jr s)->(bE md ts)[i]?=jr (jr s):=λi s e=>by
  unfold lB at e;rcases QBO i ts.9 with z|z
  ·rwa [qP (by rw[kJ];exact z)]at e
  rw[Qx (by rw[kJ];exact z),wt]at e;split at e<;>cases e
 refine#[Z,#[f,?_,λi s e=>?_,λi j t s n q m b hb y=>?_],λb #[i,t,e,hb]=>a i t (get i _ e) b hb];unfold lB mD;rw[QI,QI,kJ,QD,wA,wA,hl];let#[v,g,A]:=W i s (get i s e);refine#[v,?_,A];unfold mD;rw[qP (by rw[QD];exact(Qg.mp g).1),QX,g];rfl;cases s with|own u=>exact r i j t u n (get i _ q) (get j _ m) b hb y|bor u=>exact B b (X j u (get j _ m) b y) (a i t (get i _ q) b hb)
theorem IP:∀{md:List Md}{k n:Nat}{vs:LV}{σ:St},vs.9=n->(∀(i:Nat) v,vs[i]?=jr v->σ[k+i]?=jr (jr v))->(pB md vs).map (λv=>jr (jr v))=(XB k md n).map λj=>σ[j]?
 |md,k,0,vs,σ,h,g=>by
  cases vs with|nil=>rfl|cons _ _=>cases h
 |md,k,n+1,vs,σ,h,g=>by
  cases vs with
  |nil=>cases h|cons v vs =>
   have y:=IP (md:=md.tail) (k:=k+1) (n:=n) (vs:=vs) (σ:=σ) (by simpa using h) λi w z=>by have:=g (i+1) w (by simpa using z);rw[show k+1+i=k+(i+1) by omega];exact this
   have g0:=g 0 v rfl;rw[kI];unfold XB;cases e:md.headD .fro with|chg=>simp only[QS,y];rw[show σ[k]?=jr (jr v) from g0]|_=>exact y
theorem SN:∀{md:List Md}{k n j:Nat},j∈XB k md n->k<=j
 |md,k,0,j,h=>by simp[XB]at h|md,k,n+1,j,h=>by
  unfold XB at h;cases e:md.headD .fro with
  |chg=>rw[e]at h;rcases QL.mp h with z|z;omega;have:=SN z;omega
  |_=>rw[e]at h;have:=SN h;omega
theorem RU:∀(md:List Md) (k n:Nat),(XB k md n).Nodup
 |md,k,0=>Q7|md,k,n+1=>by
  have h:=RU md.tail (k+1) n;unfold XB;cases e:md.headD .fro with|chg=>exact Qk.mpr #[λz=>by have:=SN z;omega,h]|_=>exact h
theorem K9(F:Fun K x o st f p)(KB:GA n b N l st=kf)(hc:lK (XB 0 R.md l.9) b=kf)
  (fns:∀g∈n.fn,sC P w K mg base Ψ k g) (G:ValsOk P w K mg Ψ n.va) (nos:∀y∈n.no,mg y=kv)
  (body:∀ts Q E,R.run ts Q E->ts.9=l.9/\pF Ψ b (zD R l.9 Q) (lB N R.md ts)):FnOk P w K mg base i5 (k+1) f p l (lift K R):=by
 let#[c12,c3]:=zA KB;let#[c1,c2]:=zA c12;have S:=aL c1;refine F.ok S (λvs H Q E h=>?_) (λcdv A L s H vs Q E hr h=>?_);let#[F',ts,M,Y,h1,h2,h3,h4,h5]:=h;rw[h2.9];exact(body ts _ _ h5).1;let#[F',ts,M,Y,h1,h2,h3,h4,h5]:=h;have q:=(body ts _ _ h5).2;have hlen:=(body ts _ _ h5).1;have ok:OkS ((ZX i5 P w K mg base N o (MA st) f cdv A L s H E).nox) #[N,MA st] (vS (au K mg Ψ) n) E0:={
  N:=rfl
  sc:=rfl
  calm:=rfl
  un:=by have:=hr.un;show(A.deeper _).units+66<gp;omega
  fn:=λg hg=>by let#[a,gd,gps,g1,g2,g3,g4]:=fns g hg;exact#[i5,k,a,gd,gps,g1,hr,g2,g3,g4,Gr,λ_ _ _ _ _ z=>z]
  val:=λy hy=>by let#[u,v,e1,e2]:=G.has y hy;refine#[u,e1,?_];show aA (PV mg y) u;unfold PV;rw[e1];show aA ((cO u).getD .non) u;rw[e2];exact NY e2
  no:=λy hy=>nos y hy
  po:=PassesOwn.never
  nd:=S.nd
  cel:=λ_=>rfl }
 refine#[_,(Kx b ok c2 (C2 b c3)).1,?_];let#[S0,I,hU]:=k6 (N:=N) h1 h2 h3 h4;have g:GOk K (au K mg Ψ) Ψ:=#[λ_ _ _ _ _ h=>h,λy d e F=>G.rep y d e F]
 have hvl:vs.9=l.length:=h2.length.trans hlen;have fin:∀v t W C B J m X,Stc (XB 0 R.md l.9) F' H S0 (lB N R.md ts) (mD N vs) C B J m X->Rl K C B J m X->Tr K C B kf v t W->Held C B J m W->(∀b,W b->H b=kv∨U (lB N R.md ts) S0 b) ->
   iW (LA (XB 0 R.md l.9) m) (λos=>∀v F3 H3 Z M',Frm M F' H F3 H3->Tr K F3 H3 kf v t Z->Trs K F3 H3 kf (pB R.md vs) os M'->(∀b,Z b->¬ M' b)->(∀b,Z b∨M' b->M b∨H b=kv)->Q v H3)->Q v B:=by
  intro v t W C B J m X s I2 r hw fr q;cases eo:LA (XB 0 R.md l.9) m with
  |none=>rw[eo]at q;exact q.elim|some os =>
   rw[eo]at q;have hv:(pB R.md vs).map (λv=>jr (jr v))=(XB 0 R.md l.9).map λj=>X[j]?:=by rw[IP (md:=R.md) (k:=0) (n:=l.9) (vs:=vs) (σ:=mD N vs) hvl λi w hw=>?_];exact wP λj O=>(s.sg j O).symm;unfold mD;rw[WP,qP (by rw[QD];exact(Qg.mp hw).1),QX,hw];rfl
   have trs:=I2.trs (RU _ _ _) eo hv;have own:∀j∈XB 0 R.md l.9,∃t,m[j]?=jr (jr (.own t)):=λj O=>by let#[i,hi]:=Wr.mp O;let#[t,_,e]:=(PD eo).2 i j hi;exact#[t,e]
   have lk:∀b,U (lB N R.md ts) S0 b∨H b=kv->M b∨H b=none:=λb hb=>hb.imp (hU b) id;refine q v C B W _ #[s.ff,I2.fh,λb u e n=>s.hh b u e λz=>n (hU b z),s.dm,λb e z=>lk b (s.fn b e z)] r trs (λb hb #[j,O,z]=>?_) λb hb=>?_;let#[t',e]:=own j O;exact hw.nw j _ e b hb z;rcases hb with hb|⟨j,O,z⟩
   ·exact lk b (fr b hb).symm
   let#[t',e]:=own j O;exact lk b (s.uu b #[j,t',e,z])
 refine AI g b hc I (λ_ _ _ _ _ _ _ _ _ z=>z.elim) q #[?_,?_,λ_ _ _ _ _ _ _ z=>z.elim,λ_ _ _ _ _ _ _ z=>z.elim];intro C B J m X s I2 q;exact fin .non (.d .none) (λ_=>False) C B J m X s.c I2 (.d .non λ_ z=>z) .none (λ_ z=>z.elim) q;intro v t W C B J m X s I2 r hw fr q;exact fin v t W C B J m X s I2 r hw fr q
theorem t9{h:PEv}(F:Fun K x o st f p)(hm:mg x=jr (.ref f))(hb:OH K p l [])(KB:GA n b N l st=kf)(hc:lK (XB 0 R.md l.9) b=kf)
  (v:∀g∈n.fn,sC P w K mg base Ψ k g) (z:ValsOk P w K mg Ψ n.va) (u:∀y∈n.no,mg y=kv)
  (body:∀ts Q E,R.run ts Q E->ts.9=l.9/\pF Ψ b (zD R l.9 Q) (lB N R.md ts)) (a:h.sp x=R):sC P w K mg base h (k+1) x :=
 #[f,p,l,by rw[a];exact K9 F KB hc v z u body,hm,F.kp,hb]
theorem jf(F:Fun K x o st f p)(hm:mg x=jr (.ref f))(hb:OH K p l [])(KB:GA n b N l st=kf)(u:∀ts Q E,¬ (Ψ.sp x).run ts Q E):sC P w K mg base Ψ (k+1) x:=by refine#[f,p,l,F.ok (aL (zA (zA KB).1).1) (λvs H Q E h=>?_) (λi A y s H vs Q E m h=>?_),hm,F.kp,hb];let#[j,ts,M,Y,g,e,a,v,z]:=h;exact(u _ _ _ z).elim;let#[j,ts,M,Y,g,e,a,v,z]:=h;exact(u _ _ _ z).elim
end
end
noncomputable def bR:PSp where
 md:=[.shal]
 run:=λx Q _=>∃h:LJ,h.9<=63/\(∀n∈h,QAJ n<=1048576)/\x=[.lst ((h.map j1).map T.d)]/\Q (.d (.bool kf)) []
def Kb:PSp:=#[[],λ_ _ _=>False,λ_ _ h=>h]
theorem aP{K:QA}{F:Hp}:∀(ns:LJ),Reps K F (ns.map V.int) (ns.map j1)
 |[]=>.nil|n::r=>.cons (.int n) (aP r)
theorem LM{K:QA}{F:Hp}:∀(ns:LS),Reps K F (ns.map V.str) (ns.map j0)
 |[]=>.nil|n::r=>.cons (.str n) (LM r)
theorem Am(K:QA)(H:Hp)(a:k0)(ns:LJ)(hl:ns.9<=63)(h:∀n∈ns,QAJ n<=1048576)(x:rC K H a (ns.map V.int)):lift K bR [.ref a] H (λv _=>v=.bl kf) λ_ _ _=>False:=by
 refine#[H,[.lst ((ns.map j1).map T.d)],λ_=>False,λ_=>False,.refl _,.rd (Z:=λ_=>False) (by simp[bR]) (.lstF x (aP ns) λ_ z=>z) (λ_ z=>z) .nil,.nil λ_ z=>z,λ_ z=>z.elim,ns,hl,h,rfl,λv w u Z y _ r _ _ _=>?_];cases r with|d r _=>cases r;rfl
theorem NV{ns:LJ}:∀n∈ns,W5 (.int n)<=wv (ns.map QAA.int):=by
 induction ns with|nil=>intro n h;cases h|cons m ns x=>intro n h;show _<=W5 (.int m)+1+wv (ns.map QAA.int);rcases QL.mp h with rfl|h;omega;have:=x n h;omega
theorem Of{ns:LJ}(h:QAA.layableAll [.list (ns.map .int)]=kf):∀n∈ns,QAJ n<=1048576:=by
 intro n z;have v:=(PySem.W.layableW_iff.mp (PySem.W.layableW_arg h _ QF)).2.2;have k:wv (ns.map QAA.int)<=2 ^ 20:=v;have y:=NV n z;have u:W5 (.int n)=if n==0 then 0 else n.natAbs.log2+1:=rfl
 rw[PySem.intBits_le_iff];by_cases x:n=0;subst x;exact Nat.pow_pos (by decide);have:(n==0)=false:=by simpa using x
 rw[u,this]at y;have w:n.natAbs.log2+1<=1048576:=by have:n.natAbs.log2+1<=wv (ns.map QAA.int):=y;omega
 exact(Nat.log2_lt (show n.natAbs≠0 by omega)).mp ()
def XV(K:QA)(x:Str)(st:gi):Prop:=∃f h,q0 K k5 x=jr (jr (.ref f))/\Fun K x x st f h
def dO(K:QA)(x:Str)(d:D):Prop:=∃u v,q0 K k5 x=jr (jr u)/\cO u=jr v/\∀F,Rep K F v d
theorem M5{K:QA}{x:Str}{f:k0}{xs:LS}{v:Option k0}{its:LW}{n:Nat}{z:Array (Option kn)}(a:q0 K k5 x=jr (jr (.ref f)))
  (l:K.lookup f=jr #[.type "tuple",v,.seq its.toArray n,z]) (h:its.map cO=xs.map λy=>jr (.str y)) (k:xs.9<=kt):dO K x (.tuple (xs.map j0)):=by
 refine#[_,_,a,rfl,λF=>.tup (.inr #[_,its.toArray,n,l,rfl,rfl,?_,?_]) (LM xs)];have:=o9 qQ h;simp at this;simp;omega;have key:∀(its:LW) (xs:LS),its.map cO=xs.map (λy=>jr (.str y))->lA (xs.map V.str) its:=by
  intro its;induction its with
  |nil =>
   intro xs h;cases xs with|nil=>exact .nil|cons _ _=>simp at h
  |cons u its w =>
   intro xs h;cases xs with|nil=>simp at h|cons y xs=>simp only[QS,Wa]at h;exact .cons (NY h.1) (w xs h.2)
 simpa using key its xs h
section
variable{P:vx}{w:x0}{K:QA}{mg:Str->Option kn}{base h:vu}{Ψ:PEv}
section
variable{x:Str}{c:PEv}{st:gi}{z:LS}{k:Nat}{n:Need}
theorem dO.inMg(X:K.In h)(G:h.Ns k5 mg){d:D}(v:dO K x d):(∀F,Rep K F (PV mg x) d)/\∃u v,mg x=jr u/\cO u=jr v:=by
 let#[u,v,b,y,a]:=v;have e:=WD X G b;refine#[λF=>?_,u,v,e,y];have:PV mg x=v:=by unfold PV;rw[e];show(cO u).getD .non=v;rw[y];rfl
 rw[this];exact a F
theorem e9{R:PSp}{N:LS}{b:PT}(X:K.In h)(G:h.Ns k5 mg)(D:XV K x st)(KB:GA n b N z st=kf)(hc:lK (XB 0 R.md z.9) b=kf)
  (hb:∀(kV i l:kn) (p:Option k0) (j ct:kn) (us:LW),us.9=z.9->c0 (qk x x (UC st) (zC st) (MA st) .none kV i l p j ct) #[us,[]]=sn (z.zip us))
  (e:∀g∈n.fn,sC P w K mg base Ψ k g) (u:ValsOk P w K mg Ψ n.va) (v:∀y∈n.no,q0 K k5 y=jr kv)
  (body:∀ts Q E,R.run ts Q E->ts.9=z.9/\pF Ψ b (zD R z.9 Q) (lB N R.md ts)) (o:c.sp x=R):sC P w K mg base c (k+1) x:=by
 let#[f,q,a,F]:=D;exact t9 F (WD X G a) (F.binds hb) KB hc e u (λy m=>QAX X G (v y m)) body o
theorem i4{N:LS}{b:PT}(X:K.In h)(G:h.Ns k5 mg)(D:XV K x st)(KB:GA n b N z st=kf)
  (hb:∀(kV y v:kn) (g:Option k0) (u ct:kn) (us:LW),us.9=z.9->c0 (qk x x (UC st) (zC st) (MA st) .none kV y v g u ct) #[us,[]]=sn (z.zip us))
  (e:∀ts Q E,¬ (Ψ.sp x).run ts Q E):sC P w K mg base Ψ (k+1) x:=by
 let#[f,i,a,F]:=D;exact jf F (WD X G a) (F.binds hb) KB e
theorem sC.to(h:sC P w K mg base Ψ k x)(e:c.sp x=Ψ.sp x):sC P w K mg base c k x:=by let#[f,v,z,u,y]:=h;exact#[f,v,z,by rw[e];exact u,y]
theorem Em{j:k0}(X:K.In h)(G:h.Ns k5 mg)(D:XV K "law" st)(q:z=[x])(g:mg "law"=jr (.ref j))(hs:Ψ.sp "law"=bR)
  (hb:∀(kV v i:kn) (l:Option k0) (b ct:kn) (us:LW),us.9=z.9->c0 (qk "law" "law" (UC st) (zC st) (MA st) .none kV v i l b ct) #[us,[]]=sn (z.zip us))
  (H:∀base:vu,K.In base->base.Ns k5 mg->∀f y,Fun K "law" "law" st f y->mg "law"=jr (.ref f)->FnOk P w K mg base i5 k f y z (lift K (Ψ.sp "law"))) :
  ∃y:gm,(∀(s:ku) (u:kn),l4 s y #[[u],[]] [(x,u)])/\∀base:vu,K.In base->base.Ns k5 mg->FnOk P w K mg base i5 k j y [x] (lift K bR):=by
 let#[f,y,a,F]:=D;have e:=g.symm.trans (WD X G a);cases e;subst q;refine#[y,λs u=>?_,λbase p o=>?_];let#[Z,Y,kV,v,i,l,b,ct,m,rfl,lk,r]:=F.ex;exact .of_eq (hb kV v i l b ct [u] rfl);rw[<- hs];exact H base p o j y F g
end
end
theorem jB{α:Type}{body:T->(Option T->Prop)->Prop}(g f:α->T):∀(l:List α) (h:LT) (Q:LT->Prop),(∀x∈l,∀R:Option T->Prop,R (jr (f x))->body (g x) R)->h.9+l.9<=kt->Q (h++l.map f)->vD body (l.map g) h Q
 |[],h,Q,_,hl,q=>by simp only[wT,vD];exact#[by simpa using hl,by simpa using q]|x::r,h,Q,hb,hl,q=>by simp only[QS,vD];refine hb x QF _ ?_;simp only[QO]at hl;refine#[(),jB g f r _ Q (λy z=>hb y (QE _ z)) (by simp;omega) (by simpa using q)]
theorem nA{α:Type}{body:T->(Option T->Prop)->Prop}(g f:α->T)(p:α->Bool):∀(l:List α) (h:LT) (Q:LT->Prop),(∀x∈l,∀R:Option T->Prop,R (if p x=kf then jr (f x) else kv)->body (g x) R)->h.9+l.9<=kt->Q (h++(l.filter p).map f)->vD body (l.map g) h Q
 |[],h,Q,_,hl,q=>by simp only[wT,vD];exact#[by simpa using hl,by simpa using q]|x::r,h,Q,hb,hl,q=>by
  simp only[QS,vD];refine hb x QF _ ?_;simp only[QO]at hl;cases u:p x with|true=>refine#[(),nA g f p r _ Q (λy z=>hb y (QE _ z)) (by simp;omega) ?_];rw[WN,i0 u]at q;simpa using q|false=>refine nA g f p r _ Q (λy z=>hb y (QE _ z)) () ?_;rw[WN,ii (by rw[u];simp)]at q;exact q
theorem gM{α:Type}{xs:List α}{i:Int}(h0:0<=i)(x:i<xs.9):∃v,PC xs i=jr v/\xs[i.toNat]?=jr v:=by
 have h:i.toNat<xs.length:=()
 have e:((i.toNat:Nat):Int)=i:=()
 have q:=kE (Qf h);rw[e]at q;exact#[xs[i.toNat],q,Qf h]
theorem UF{α h:Type}(f:α->h)(xs:List α)(i:Int):PC (xs.map f) i=(PC xs i).map f:=by
 unfold PC;rw[QD];cases HS xs.9 i with|none=>rfl|some j=>exact QX
theorem BA{Ψ:PEv}{E:XE}{α:Type}{body:PT}{u:Tg}{Z:PEnds}(g:α->T)(W:List α->xA->Prop)(h0:∀ρ,W [] ρ->Z.nx ρ)
  (hs:∀x xs ρ (N:xA->Prop),(∀y,W xs y->N y)->W (x::xs) ρ->JL u (g x) ρ λz=>tB Ψ E body { Z with nx:=N,ct:=N,bk:=Z.nx } z):∀(xs:List α) (ρ:xA),W xs ρ->bI (tB Ψ E body) u Z (xs.map g) ρ
 |[],ρ,w=>h0 ρ w|x::xs,ρ,w=>hs x xs ρ (λh=>bI (tB Ψ E body) u Z (xs.map g) h) (λh v=>BA g W h0 hs xs h v) w
noncomputable def Jg(y:List (Str×PSp))(h:List (Str×D)):PEv:=#[λf=>(y.lookup f).getD Kb,λx=>h.lookup x]
theorem aY{P:vx}{w:x0}{K:QA}{mg:Str->Option kn}{h:vu}{v:List (Str×PSp)}{tbl:List (Str×D)}{z:LS}(X:K.In h)(G:h.Ns k5 mg)(u:∀p∈tbl,dO K p.1 p.2)
  (y:(z.all λx=>(tbl.map qp).contains x)=kf):ValsOk P w K mg (Jg v tbl) z:=by
 refine#[λx d e F=>((u (x,d) (qR e)).inMg X G).1 F,λx k=>?_];have:=qA.mp y x k;let#[p,a,e]:=QZ.mp (Qq.mp this);rw[<- e];exact((u p a).inMg X G).2
theorem aQ{α:Type}[BEq α][LawfulBEq α]{l m:List α}(h:(l.all λx=>m.contains x)=kf):∀x∈l,x∈m:=λx y=>Qq.mp (qA.mp h x y)
section
variable{a b c:PX}{i:Nat}{n:Int}{x:Str}{m:Mt}{f:Str}{g:Bi}{u:g7}{w:fm}{is:List Bool}{h:LS}{z:Tg}{v:ItK}{y:String}
theorem tY:PF (.var i)=[i]:=rfl
theorem dP:PF (.acons a b)=PF a++PF b:=rfl
theorem AS:PF .anil=[]:=rfl
end
def uF{α:Type}(o:Option α)(K:α->Prop):Prop:=∃a,o=jr a/\K a
theorem uF.mk{α:Type}{o:Option α}{a:α}{K:α->Prop}(e:o=jr a)(k:K a):uF o K:=#[a,e,k]
theorem OA{α:Type}{a:α}{K:α->Prop}:uF (jr a) K=K a:=i3 #[λ#[_,e,k]=>by cases e;exact k,λk=>#[a,rfl,k]]
theorem xF{α h:Type}{o:Option α}{f:α->h}{K:h->Prop}:uF (o.map f) K=uF o λa=>K (f a):=by
 cases o with|none=>exact i3 #[λ#[_,e,_]=>(by cases e),λ#[_,e,_]=>(by cases e)]|some a=>rw[Q5,OA,OA]
def xB(Ψ:PEv)(e:PX)(E:XE)(ρ:xA)(K:TK):Prop:=(pe Ψ e E).e ρ K
def cN(Ψ:PEv)(e:PX)(E:XE)(ρ:xA)(K:Bool->xA->Prop):Prop:=(pe Ψ e E).t ρ K
def zM(Ψ:PEv)(e:PX)(E:XE)(md:List Md)(ρ:xA)(K:List (T×Bool)->xA->Prop):Prop:=(pe Ψ e E).a md ρ K
def CL(p:PSp)(ts:LT)(K:T->LT->Prop)(E:XE):Prop:=p.run ts K E
def gb(x:T)(n:Bool)(Ψ:PEv)(b:PX)(E:XE)(ρ:xA)(K:TK):Prop:=sq (gA x n) ρ (cu (pe Ψ b E).e) λy h=>K y.1 y.2 h
def Jb(x:T)(n:Bool)(Ψ:PEv)(b:PX)(E:XE)(md:List Md)(ρ:xA)(K:List (T×Bool)->xA->Prop):Prop:=sq (if n=kf then .d .none else x) ρ ((pe Ψ b E).a md) K
def xI(i:Nat)(σ ρ:xA)(K:TK):Prop:=jw σ[i]? λt=>K t kb ρ
def F6(i:Nat)(σ:xA)(ρ:xA)(j:Nat)(R:T->xA->Prop):Prop:=Ox ρ j R σ[i]?
def BL(Ψ:PEv)(E:XE)(r:PT)(Z:PEnds)(i:Nat)(x:T)(n:Bool)(ρ:xA):Prop:=uH x n=kf/\tB Ψ E r Z (ρ.set i (bD x.er))
def Lr(Ψ:PEv)(E:XE)(r:PT)(Z:PEnds)(i:Nat)(x:T)(n:Bool)(ρ:xA):Prop:=uH x n=kf/\tB Ψ E r Z (ρ.set i (jr (.own x)))
def bC(x:T)(n:Bool)(P:Prop):Prop:=uH x n=kf/\P
def JK(h:g7)(x:T)(n:Bool)(y:T)(m:Bool)(Q:T->Bool->Prop):Prop:=binT h (gA x n).vw (gA y m).vw Q
def SB(h:fm)(x y:T)(Q:Bool->Prop):Prop:=Xf h x.er y Q
def jc(x:T)(Q:Bool->Prop):Prop:=jK x.er Q
def jAW(x:T)(Q:Bool->Prop):Prop:=Po x.er Q
def NF(c:PX)(x:T)(Q:Bool->Prop):Prop:=Zn c x.er Q
def dM(f:Bi)(xs:List (T×Bool))(Q:T->Bool->Prop):Prop:=vY f (CB xs) Q
def XA(x:T)(n:Bool)(y:T)(m:Bool)(Q:T->Prop):Prop:=GO (gA x n).vw (gA y m).vw Q∨HU (gA x n).vw y.er Q
def vq(Ψ:PEv)(E:XE)(c:PX)(q:PT)(Z:PEnds)(ρ:xA):Prop:=tB Ψ E (.whl c q) Z ρ
def Vg(t y x:T)(Q:T->Prop):Prop:=Gq t y.er x.er Q
def Cq(z t:T)(Q:T->(T->T)->Prop):Prop:=Dq z.er t Q
def Rq(y t:T)(Q:T->Prop):Prop:=gk y.er t Q
def EF(x:T)(n:Bool)(l u:Option Int)(Q:T->Bool->Prop):Prop:=HI (gA x n).vw l u Q
def NL(xs:List (T×Bool))(C:LT->Prop):Prop:=mE xs=kf/\C (zF xs)
def rK(h:ItK)(xs:List (T×Bool))(R:LT->Prop):Prop:=MB h (CB xs) R
def YB(md:List Md)(xs:List (T×Bool))(C:LT->Prop):Prop:=uF (VA md xs []) C
def rG(Ψ:PEv)(E:XE)(x:List Bool)(y:LS)(u:Tg)(h z:PX)(ρ:xA):T->(Option T->Prop)->Prop:=sG u (MO y.9 x (lockA ρ)) (if isNop h=kf then λρ R=>R kf ρ else(pe Ψ h E).t) (pe Ψ z E).e
def mV(h:Tg)(x:T)(ρ:xA)(K:xA->Prop):Prop:=JL h x ρ K
section
variable{Ψ:PEv}{E:XE}{ρ:xA}{K:TK}{L:Bool->xA->Prop}{M:List (T×Bool)->xA->Prop}{a b c Y its U V:PX}{Z:T->xA->Prop}
section
variable{i j:Nat}{x:T}{v:fm}{f t u:Str}{p:PSp}{md:List Md}{w m:List Bool}{g:LS}{o:Tg}{X:ItK}{R:Option T->Prop}{s:Option Sl}{σ:xA}{n:Bool}{ts:LT}
theorem Lv{i:Int}:xB Ψ (.ng i) E ρ K=K (.d (.int (-i))) kb ρ:=rfl
theorem jAE{b:PX}{x y:Str}{l:LN}(h:qF x y 0 x.9 1=i::l)(A:∀K,xB Ψ a E ρ K=K (.d (.str x)) kb ρ)(hb:∀K,xB Ψ b E ρ K=K (.d (.str y)) kb ρ)(q:K (.d (.int (i:Int))) kb ρ):xB Ψ (.mt .index a %[b|1]) E ρ K:=by show xB Ψ a E ρ λx n e=>Y8 .index (gA x n).vw=kf/\sq (gA x n) e ((pe Ψ %[b|1] E).a []) λW r=>zw .index (gA x n).vw (CB W) λz k=>K z k r;rw[A];refine#[rfl,?_];show xB Ψ b E ρ λz n e=>sq (α:=List (T×Bool)) (if n=kf then .d .none else z) e ((pe Ψ .anil E).a []) λW r=>_;rw[hb];exact#[x,y,i,l,rfl,rfl,h,q]
theorem kj:xB Ψ (.var i) E ρ K=xI i ρ ρ K:=rfl
theorem Ji:cN Ψ (.var i) E ρ L=xI i ρ ρ λt _ ρ=>jc t λb=>L b ρ:=rfl
theorem mj{i:Int}:xB Ψ (.int i) E ρ K=K (.d (.int i)) kb ρ:=rfl
theorem xj{x:Str}:xB Ψ (.str x) E ρ K=K (.d (.str x)) kb ρ:=rfl
theorem Mv{x:Bool}:xB Ψ (.bl x) E ρ K=K (.d (.bool x)) kb ρ:=rfl
theorem fj:xB Ψ .non E ρ K=K (.d .none) kb ρ:=rfl
theorem NH{x:Str}{d:D}(h:Ψ.va x=jr d):xB Ψ (.glo x) E ρ K=K (.d d) kb ρ:=by show(match Ψ.va x with|some d=>K (.d d) kb ρ|none=>False)=_;rw[h]
theorem vb{v:g7}:xB Ψ (.bin v a b) E ρ K=xB Ψ a E ρ λx n e=>gb x n Ψ b E e λy m h=>JK v x n y m λz k=>K z k h:=rfl
theorem Zi:cN Ψ (.cmp v a b) E ρ L=xB Ψ a E ρ λx n z=>gb x n Ψ b E z λy m h=>SB v x (gA y m) λk=>L k h:=rfl
theorem sj:xB Ψ (.cmp v a b) E ρ K=cN Ψ (.cmp v a b) E ρ λk h=>K (.d (.bool k)) kb h:=rfl
theorem ij:xB Ψ (.and a b) E ρ K=xB Ψ a E ρ λx _ h=>jAW x λc=>if c=kf then xB Ψ b E h K else K (.d (.bool kb)) kb h:=rfl
theorem Ki:cN Ψ (.and a b) E ρ L=cN Ψ a E ρ λc h=>if c=kf then cN Ψ b E h L else L kb h:=rfl
theorem bv:cN Ψ (.or a b) E ρ L=cN Ψ a E ρ λc h=>if c=kf then L kf h else cN Ψ b E h L:=rfl
theorem cj:xB Ψ (.not a) E ρ K=xB Ψ a E ρ λx _ h=>jc x λc=>K (.d (.bool (!c))) kb h:=rfl
theorem Yi:cN Ψ (.not a) E ρ L=cN Ψ a E ρ λc h=>L (!c) h:=rfl
theorem jA(h:Ψ.sp f=p)(hm:p.md=md)(C:(md.all λm=>!m.isMut)=kf):xB Ψ (.call f Y) E ρ K=zM Ψ Y E md ρ λxs y=>YB md xs λts=>CL p ts (λr l=>l=[]/\K r kf y) E:=by
 have A:∀(md:List Md) (Y:PX),(md.all λm=>!m.isMut)=kf->bA md Y=[]:=by
  intro md;induction md with
  |nil=>intro Y _;cases Y<;>rfl|cons m md B =>
   intro Y h;rw[qi,Qa]at h;cases m with
   |chg=>cases h.1|_=>cases Y with|acons a Y=>exact B Y h.2|_=>rfl
 show(∃l,LA (bA (Ψ.sp f).md Y) ρ=jr l/\(bA (Ψ.sp f).md Y).Nodup/\(pe Ψ Y E).a (Ψ.sp f).md (clear (bA (Ψ.sp f).md Y) ρ) λxs y=>∃ts,VA (Ψ.sp f).md xs l=jr ts/\(Ψ.sp f).run ts (λr q=>∃z,yC (bA (Ψ.sp f).md Y) q y=jr z/\K r kf z) E)=_;rw[h,hm,A md Y C];have W:∀(r:T) (l:LT) (y:xA),(∃z,yC [] l y=jr z/\K r kf z)=(l=[]/\K r kf y):=by
  intro r l y;cases l with|nil=>exact i3 #[λ#[_,e,k]=>by cases e;exact#[rfl,k],λk=>#[_,rfl,k.2]]|cons _ _=>exact i3 #[λ#[_,e,k]=>(by cases e),λk=>(by cases k.1)]
 have:=λ(y:xA)=>funext λr=>funext λl=>W r l y;simp only[this];exact i3 #[λ#[_,e,_,k]=>by cases e;exact k,λk=>#[_,rfl,Q7,k]]
theorem Ha:cN Ψ (.call f Y) E ρ L=xB Ψ (.call f Y) E ρ λt _ h=>jc t λb=>L b h:=rfl
theorem z0:cN Ψ (.isi a c) E ρ L=xB Ψ a E ρ λx _ h=>NF c x λb=>L b h:=rfl
theorem K0:xB Ψ (.isi a c) E ρ K=cN Ψ (.isi a c) E ρ λk h=>K (.d (.bool k)) kb h:=rfl
theorem Nv{f:Bi}:xB Ψ (.bi f Y) E ρ K=zM Ψ Y E [] ρ λxs h=>dM f xs λz k=>K z k h:=rfl
theorem bj:xB Ψ (.mt .pop (.var j) Y) E ρ K=RC ρ[j]? λt=>XH .pop t=kf/\zM Ψ Y E [] (ρ.set j (jr (.bor t))) λxs h=>mE xs=kf/\h[j]?=jr (jr (.bor t))/\nK .pop t (zF xs) λr s'=>K r kf (h.set j (jr (.own s'))):=rfl
theorem yb{x:Bool}:xB Ψ (.dnew x) E ρ K=K (.dct x [] []) kf ρ:=rfl
theorem rj:xB Ψ (.dsp a b) E ρ K=xB Ψ a E ρ λy m z=>bC y m (xB Ψ b E z λx n h=>bC x n (aD kf y.er/\K (.dct kf [y.er] [x]) kf h)):=rfl
theorem dH(h:Ψ.sp f=p)(hm:p.md=.chg::md)(N:(md.all λm=>!m.isMut)=kf):xB Ψ (.call f (.acons (.var j) Y)) E ρ K=RC ρ[j]? λt=>zM Ψ Y E md (ρ.set j kv) λxs y=>YB md xs λts=>CL p (t::ts) (λr l=>∃t',l=[t']/\K r kf (y.set j (jr (.own t')))) E:=by
 have I:∀(md:List Md) (Y:PX),(md.all λm=>!m.isMut)=kf->bA md Y=[]:=by
  intro md;induction md with
  |nil=>intro Y _;cases Y<;>rfl|cons m md J =>
   intro Y h;rw[qi,Qa]at h;cases m with
   |chg=>cases h.1|_=>cases Y with|acons a Y=>exact J Y h.2|_=>rfl
 show(∃l,LA (bA (Ψ.sp f).md (.acons (.var j) Y)) ρ=jr l/\(bA (Ψ.sp f).md (.acons (.var j) Y)).Nodup/\(pe Ψ (.acons (.var j) Y) E).a (Ψ.sp f).md (clear (bA (Ψ.sp f).md (.acons (.var j) Y)) ρ) λxs y=>∃ts,VA (Ψ.sp f).md xs l=jr ts/\(Ψ.sp f).run ts (λr q=>∃W,yC (bA (Ψ.sp f).md (.acons (.var j) Y)) q y=jr W/\K r kf W) E)=_;rw[h,hm];have O:bA (.chg::md) (.acons (.var j) Y)=[j]:=by show j::bA md Y=[j];rw[I md Y N]
 rw[O];have A:∀(r:T) (l:LT) (y:xA),(∃W,yC [j] l y=jr W/\K r kf W)=(∃t',l=[t']/\K r kf (y.set j (jr (.own t')))):=by
  intro r l y
  match l with
  |[]=>exact i3 #[λ#[_,e,k]=>(by cases e),λ#[_,e,k]=>(by cases e)]|[t]=>exact i3 #[λ#[_,e,k]=>by cases e;exact#[t,rfl,k],λ#[_,e,k]=>by cases e;exact#[_,rfl,k]]|_::_::_=>exact i3 #[λ#[_,e,k]=>(by cases e),λ#[_,e,k]=>(by cases e)]
 have B:=λ(y:xA)=>funext λr=>funext λl=>A r l y;simp only[B];have C:∀(t:T) (xs:List (T×Bool)) (G:LT->Prop),(∃ts,VA (.chg::md) ((.d .none,kf)::xs) [t]=jr ts/\G ts)=YB md xs λts=>G (t::ts):=by
  intro t xs G;show(∃ts,(VA md xs []).map (t::·)=jr ts/\G ts)=uF (VA md xs []) λts=>G (t::ts);cases VA md xs []with|none=>exact i3 #[λ#[_,e,_]=>(by cases e),λ#[_,e,_]=>(by cases e)]|some ts=>exact i3 #[λ#[_,e,k]=>by cases e;exact#[_,rfl,k],λ#[_,e,k]=>by cases e;exact#[_,rfl,k]]
 have F:∀t,ρ[j]?=jr (jr (.own t))->LA [j] ρ=jr [t]:=λt e=>by unfold LA;rw[e];rfl
 have P:∀(l:LT),((pe Ψ (.acons (.var j) Y) E).a (.chg::md) (clear [j] ρ) λxs y=>∃ts,VA (.chg::md) xs l=jr ts/\p.run ts (λr q=>∃t',q=[t']/\K r kf (y.set j (jr (.own t')))) E)=(zM Ψ Y E md (ρ.set j kv) λxs y=>∃ts,VA (.chg::md) ((.d .none,kf)::xs) l=jr ts/\p.run ts (λr q=>∃t',q=[t']/\K r kf (y.set j (jr (.own t')))) E):=λl=>i3 #[λh=>h.2,λh=>#[rfl,h]];simp only[P]
 match e:ρ[j]? with
 |some (jr (.own t))=>show _=(zM Ψ Y E md (ρ.set j kv) λxs y=>YB md xs λts=>CL p (t::ts) (λr l=>∃t',l=[t']/\K r kf (y.set j (jr (.own t')))) E);rw[F t e];have:=λxs (y:xA)=>C t xs λts=>p.run ts (λr q=>∃t',q=[t']/\K r kf (y.set j (jr (.own t')))) E;refine i3 #[λ#[_,e,_,k]=>?_,λk=>#[_,rfl,by simp,?_]];cases e;simp only[this]at k;exact k;simp only[this];exact k|some (jr (.bor t))=>exact i3 #[λ#[_,z,_]=>(by unfold LA at z;rw[e]at z;cases z),λk=>k.elim]|some kv=>exact i3 #[λ#[_,z,_]=>(by unfold LA at z;rw[e]at z;cases z),λk=>k.elim]|none=>exact i3 #[λ#[_,z,_]=>(by unfold LA at z;rw[e]at z;cases z),λk=>k.elim]
theorem ZV:xB Ψ (.mt .extend (.var j) Y) E ρ K=RC ρ[j]? λt=>XH .extend t=kf/\zM Ψ Y E [] (ρ.set j (jr (.bor t))) λxs h=>mE xs=kf/\h[j]?=jr (jr (.bor t))/\nK .extend t (zF xs) λr s'=>K r kf (h.set j (jr (.own s'))):=rfl
theorem VV:xB Ψ (.mt .append (.var j) Y) E ρ K=RC ρ[j]? λt=>XH .append t=kf/\zM Ψ Y E [] (ρ.set j (jr (.bor t))) λxs h=>mE xs=kf/\h[j]?=jr (jr (.bor t))/\nK .append t (zF xs) λr s'=>K r kf (h.set j (jr (.own s'))):=rfl
theorem pj:xB Ψ (.idx a b) E ρ K=xB Ψ a E ρ λx n k=>gb x n Ψ b E k λy m h=>XA x n y m λz=>K z kb h:=rfl
theorem YV{i:Int}:xB Ψ (.slc a (.int i) .nop) E ρ K=xB Ψ a E ρ λx n h=>EF x n (jr i) kv λz k=>K z k h:=by
 show(pe Ψ a E).e ρ (λx n h=>sq (gA x n) h (λρ (R:Option Int->xA->Prop)=>R (jr i) ρ) λl q=>sq (gA x n) q (λρ (R:Option Int->xA->Prop)=>R kv ρ) λu y=>HI (gA x n).vw l u λz k=>K z k y)=_;have:∀x n h,(sq (gA x n) h (λρ (R:Option Int->xA->Prop)=>R (jr i) ρ) λl q=>sq (gA x n) q (λρ (R:Option Int->xA->Prop)=>R kv ρ) λu y=>HI (gA x n).vw l u λz k=>K z k y)=HI (gA x n).vw (jr i) kv λz k=>K z k h:=by intro x n h;unfold sq;split<;>rfl
 simp only[this];rfl
theorem gj:xB Ψ (.lst Y) E ρ K=zM Ψ Y E [] ρ λxs y=>xs.9<=kt/\NL xs λts=>K (.lst ts) kf y:=by have:∀(xs:List (T×Bool)) y,(xs.9<=kt/\NL xs λts=>K (.lst ts) kf y)=(mE xs=kf/\xs.9<=kt/\K (.lst (zF xs)) kf y):=λxs y=>i3 #[λh=>#[h.2.1,h.1,h.2.2],λh=>#[h.2.1,h.1,h.2.2]];simp only[this];rfl
theorem vj:xB Ψ (.tup Y) E ρ K=zM Ψ Y E [] ρ λxs y=>xs.9<=kt/\NL xs λts=>K (SD ts) kf y:=by have:∀(xs:List (T×Bool)) y,(xs.9<=kt/\NL xs λts=>K (SD ts) kf y)=(mE xs=kf/\xs.9<=kt/\K (SD (zF xs)) kf y):=λxs y=>i3 #[λh=>#[h.2.1,h.1,h.2.2],λh=>#[h.2.1,h.1,h.2.2]];simp only[this];rfl
theorem zb:xB Ψ (.comp w g o X its V U) E ρ K=zM Ψ its E [] ρ λxs y=>rK X xs λh =>
   vD (rG Ψ (λ_=>False) w g o V U y) h [] λz=>K (.lst z) kf y:=rfl
theorem Eh:rG Ψ E [] [t] (.nm 0) .nop U ρ x R=xB Ψ U E (jr (.bor x)::lockA ρ) λy n _=>bC y n (R (jr y)):=rfl
theorem Ga{x y:D}:rG Ψ E [] [t,u] (.tp [0,1]) .nop U ρ (.d (.tuple [x,y])) R=xB Ψ U E (bD x::bD y::lockA ρ) λy n _=>bC y n (R (jr y)):=OA
theorem Eu{b:Bool}:rG Ψ E (b::m) [t] (.nm 0) .nop U ρ x R=xB Ψ U E (jr (.bor x)::fC (b::m) (lockA ρ)) λy n _=>bC y n (R (jr y)):=rfl
theorem Au{b:Bool}{x y:D}:rG Ψ E (b::m) [t,u] (.tp [0,1]) .nop U ρ (.d (.tuple [x,y])) R=xB Ψ U E (bD x::bD y::fC (b::m) (lockA ρ)) λy n _=>bC y n (R (jr y)):=OA
theorem Ih:rG Ψ E [] [t] (.nm 0) (.cmp v a b) U ρ x R=cN Ψ (.cmp v a b) E (jr (.bor x)::lockA ρ) λk h=>if k=kf then xB Ψ U E h λy n _=>bC y n (R (jr y)) else R none:=rfl
theorem Jj:zM Ψ .anil E md ρ M=M [] ρ:=rfl
theorem cb:zM Ψ (.acons a Y) E [] ρ M=xB Ψ a E ρ λx n y=>Jb x n Ψ Y E [] y λxs h=>M ((x,n)::xs) h:=rfl
theorem CV:zM Ψ (.acons a Y) E (.shal::md) ρ M=xB Ψ a E ρ λx n y=>Jb x n Ψ Y E md y λxs h=>M ((x,n)::xs) h:=rfl
theorem DV:zM Ψ (.acons a Y) E (.bor::md) ρ M=xB Ψ a E ρ λx n y=>Jb x n Ψ Y E md y λxs h=>M ((x,n)::xs) h:=rfl
theorem Ni:oD Ψ E Z (.var i) ρ=F6 i ρ ρ i Z:=rfl
theorem nv:oD Ψ E Z (.ife c a b) ρ=cN Ψ c E ρ λk h=>if k=kf then oD Ψ E Z a h else oD Ψ E Z b h:=rfl
theorem pv{x:Bool}:oD Ψ E Z (.bl x) ρ=Z (.d (.bool x)) ρ:=i3 #[λh=>h.2,λh=>#[rfl,h]]
theorem Ri{x:Int}:oD Ψ E Z (.int x) ρ=Z (.d (.int x)) ρ:=i3 #[λh=>h.2,λh=>#[rfl,h]]
theorem Pa:oD Ψ E Z (.call f Y) ρ=xB Ψ (.call f Y) E ρ λx n h=>bC x n (Z x h):=rfl
theorem Ra{v:g7}:oD Ψ E Z (.bin v a b) ρ=xB Ψ (.bin v a b) E ρ λx n h=>bC x n (Z x h):=rfl
theorem Ti:oD Ψ E Z (.cmp v a b) ρ=xB Ψ (.cmp v a b) E ρ λx n h=>bC x n (Z x h):=rfl
theorem Ai:oD Ψ E Z (.and a b) ρ=xB Ψ (.and a b) E ρ λx n h=>bC x n (Z x h):=rfl
theorem sv{f:Bi}:oD Ψ E Z (.bi f Y) ρ=xB Ψ (.bi f Y) E ρ λx n h=>bC x n (Z x h):=rfl
theorem Si:oD Ψ E Z (.idx a b) ρ=xB Ψ (.idx a b) E ρ λx n h=>bC x n (Z x h):=rfl
theorem Oi:oD Ψ E Z (.tup Y) ρ=xB Ψ (.tup Y) E ρ λx n h=>bC x n (Z x h):=rfl
theorem Pi:oD Ψ E Z (.lst Y) ρ=xB Ψ (.lst Y) E ρ λx n h=>bC x n (Z x h):=rfl
theorem Oa:oD Ψ E Z (.comp w g o X its V U) ρ=xB Ψ (.comp w g o X its V U) E ρ λx n h=>bC x n (Z x h):=rfl
theorem jA6:xI (i+1) (s::σ) ρ K=xI i σ ρ K:=rfl
theorem jBA{t:T}:xI 0 (jr (.bor t)::σ) ρ K=K t kb ρ:=rfl
theorem jA7{t:T}:xI 0 (jr (.own t)::σ) ρ K=K t kb ρ:=rfl
theorem jA9:xI i (lockA σ) ρ K=xI i σ ρ K:=by
 unfold xI lockA;rw[QX];cases σ[i]? with
 |none=>rfl|some s=>cases s with|none=>rfl|some s=>cases s<;>rfl
theorem jA8{b:Bool}:xI (i+1) (fC (b::m) (lockA (s::σ))) ρ K=xI i (fC m (lockA σ)) ρ K:=rfl
theorem Dv:xI 0 (fC (false::m) (lockA (s::σ))) ρ K=xI 0 (lockA (s::σ)) ρ K:=rfl
theorem Cv:xI i (fC [] (lockA σ)) ρ K=xI i (lockA σ) ρ K:=rfl
theorem jA3:F6 (i+1) (s::σ) ρ j Z=F6 i σ ρ j Z:=rfl
theorem jA5{x:D}:F6 0 (bD x::σ) ρ j Z=Z (.d x) ρ:=i3 #[λh=>h.2,λh=>#[rfl,h]]
theorem jA4{t:T}:F6 0 (jr (.own t)::σ) ρ j Z=Z t (ρ.set j kv):=rfl
theorem jAb{x:D}:gb (.d x) n Ψ b E ρ K=xB Ψ b E ρ K:=by cases n<;>rfl
theorem jAZ:gb x kf Ψ b E ρ K=xB Ψ b E ρ K:=rfl
theorem jAa:gb (.lst ts) kb Ψ b E ρ K=xB Ψ b E (lockA ρ) λy m _=>K y m ρ:=rfl
theorem jAw{x:D}:Jb (.d x) n Ψ b E md ρ M=zM Ψ b E md ρ M:=by cases n<;>rfl
theorem jAu:Jb x kf Ψ b E md ρ M=zM Ψ b E md ρ M:=rfl
theorem jAv:Jb (.lst ts) kb Ψ b E md ρ M=zM Ψ b E md (lockA ρ) λxs _=>M xs ρ:=rfl
end
end
section
variable{Ψ:PEv}{E:XE}{ρ σ:xA}{Z:PEnds}{s r q:PT}{i:Nat}{e c its:PX}{o:Option Sl}{n:Bool}{v:D}{P:Prop}{ds:List D}{x:T}
section
variable{j:Nat}{is:LN}{A B:Prop}
theorem kA:tB Ψ E .nil Z ρ=Z.nx ρ:=rfl
theorem Ci:tB Ψ E (.seq (.set i e) r) Z (o::σ)=xB Ψ e E (o::σ) λx n h=>BL Ψ E r Z i x n h:=rfl
theorem Gi:tB Ψ E (.seq (.own i e) r) Z (o::σ)=xB Ψ e E (o::σ) λx n h=>Lr Ψ E r Z i x n h:=rfl
theorem Na:tB Ψ E (.seq (.expr e) r) Z (o::σ)=xB Ψ e E (o::σ) λ_ _ h=>tB Ψ E r Z h:=rfl
theorem Fi:tB Ψ E (.seq (.ret e) r) Z (o::σ)=oD Ψ E Z.rt e (o::σ):=rfl
theorem Hi:tB Ψ E (.seq (.ife c s .nil) r) Z (o::σ)=cN Ψ c E (o::σ) λk h=>if k=kf then tB Ψ E s { Z with nx:=λy=>tB Ψ E r Z y } h else tB Ψ E r Z h:=rfl
theorem Mi{u:Tg}{k:ItK}:tB Ψ E (.seq (.for_ u k its q) r) Z (o::σ)=zM Ψ its E [] (o::σ) λxs h=>rK k xs λy =>
   if KS xs=kf then bI (tB Ψ E q) u { Z with nx:=λz=>tB Ψ E r Z (kill u.ix z) } y h
   else bI (tB Ψ E q) u { Z with nx:=λz=>RV u.ix (cC h (PF its)) h (λw=>tB Ψ E r Z w) (kill u.ix z) } y (lock (cC h (PF its)) h):=rfl
theorem Ui{a:PX}:tB Ψ E (.seq (.six (.var j) a e) r) Z (o::σ)=RC (o::σ)[j]? λt=>xB Ψ e E ((o::σ).set j (jr (.bor t))) λx n z=>bC x n (xB Ψ a E z λy m h=>bC y m (h[j]?=jr (jr (.bor t))/\Vg t y x λt'=>tB Ψ E r Z (h.set j (jr (.own t'))))):=rfl
theorem Ma{a k:PX}:tB Ψ E (.seq (.six (.idx (.var j) k) a e) r) Z (o::σ)=RC (o::σ)[j]? λt=>xB Ψ e E ((o::σ).set j (jr (.bor t))) λx n w=>bC x n (xB Ψ k E w λz l u=>bC z l (Cq z t λs put=>xB Ψ a E u λy m h=>bC y m (h[j]?=jr (jr (.bor t))/\Vg s y x λs'=>tB Ψ E r Z (h.set j (jr (.own (put s'))))))):=rfl
theorem Di{k:PX}:tB Ψ E (.seq (.sdf j k) r) Z (o::σ)=RC (o::σ)[j]? λt=>Zf t=kf/\xB Ψ k E ((o::σ).set j (jr (.bor t))) λy m h=>bC y m (h[j]?=jr (jr (.bor t))/\Rq y t λt'=>tB Ψ E r Z (h.set j (jr (.own t')))):=rfl
theorem La:tB Ψ E (.seq (.tset is e) r) Z (o::σ)=xB Ψ e E (o::σ) λx n y=>bC x n (mV (.tp is) (.d x.er) y λh=>tB Ψ E r Z h):=rfl
theorem Li:tB Ψ E (.seq (.frz is s) r) Z (o::σ)=tB Ψ E (.seq s r) Z (frzAt is (o::σ)):=rfl
theorem Xi:tB Ψ E (.seq (.whl c q) r) Z (o::σ)=vq Ψ E c q { Z with nx:=λh=>tB Ψ E r Z h } (o::σ):=rfl
theorem jAt:BL Ψ E r Z i (.d v) n ρ=tB Ψ E r Z (ρ.set i (bD v)):=i3 #[λh=>h.2,λh=>#[by cases n<;>rfl,h]]
theorem tw:BL Ψ E r Z i (.lst (ds.map T.d)) kf ρ=tB Ψ E r Z (ρ.set i (bD (.list ds))):=by unfold BL T.er;rw[fB];exact i3 #[λh=>h.2,λh=>#[rfl,h]]
theorem jAh:Lr Ψ E r Z i x kf ρ=tB Ψ E r Z (ρ.set i (jr (.own x))):=i3 #[λh=>h.2,λh=>#[rfl,h]]
theorem jBC:bC (.d v) n P=P:=i3 #[λh=>h.2,λh=>#[by cases n<;>rfl,h]]
theorem jBB:bC x kf P=P:=i3 #[λh=>h.2,λh=>#[rfl,h]]
theorem mZ:(([]:LT)=[]/\P)=P:=i3 #[λh=>h.2,λh=>#[rfl,h]]
theorem Et:(if(true:Bool)=kf then A else B)=A:=rfl
theorem ju:(if(false:Bool)=kf then A else B)=B:=rfl
theorem jAr{v h:Option Sl}:tB Ψ E r Z (Wb (h::σ) 0 v)=tB Ψ E r Z (v::σ):=rfl
theorem jAq{v h y:Option Sl}:tB Ψ E r Z (Wb (h::y::σ) 1 v)=tB Ψ E r Z (h::v::σ):=rfl
theorem jAp{v y h z:Option Sl}:tB Ψ E r Z (Wb (y::h::z::σ) 2 v)=tB Ψ E r Z (y::h::v::σ):=rfl
theorem jAo{v z y h u:Option Sl}:tB Ψ E r Z (Wb (z::y::h::u::σ) 3 v)=tB Ψ E r Z (z::y::h::v::σ):=rfl
theorem jAn{v u z y h w:Option Sl}:tB Ψ E r Z (Wb (u::z::y::h::w::σ) 4 v)=tB Ψ E r Z (u::z::y::h::v::σ):=rfl
theorem jAm{v w u z y h k:Option Sl}:tB Ψ E r Z (Wb (w::u::z::y::h::k::σ) 5 v)=tB Ψ E r Z (w::u::z::y::h::v::σ):=rfl
theorem jAl{v k w u z y h a:Option Sl}:tB Ψ E r Z (Wb (k::w::u::z::y::h::a::σ) 6 v)=tB Ψ E r Z (k::w::u::z::y::h::v::σ):=rfl
theorem jAk{v a k w u z y h b:Option Sl}:tB Ψ E r Z (Wb (a::k::w::u::z::y::h::b::σ) 7 v)=tB Ψ E r Z (a::k::w::u::z::y::h::v::σ):=rfl
theorem jAj{v b a k w u z y h f:Option Sl}:tB Ψ E r Z (Wb (b::a::k::w::u::z::y::h::f::σ) 8 v)=tB Ψ E r Z (b::a::k::w::u::z::y::h::v::σ):=rfl
theorem jAi{v f b a k w u z y h g:Option Sl}:tB Ψ E r Z (Wb (f::b::a::k::w::u::z::y::h::g::σ) 9 v)=tB Ψ E r Z (f::b::a::k::w::u::z::y::h::v::σ):=rfl
theorem Vv{v l g f b a k w u z y h:Option Sl}:tB Ψ E r Z (Wb (l::g::f::b::a::k::w::u::z::y::h::σ) 10 v)=tB Ψ E r Z (l::g::f::b::a::k::w::u::z::y::v::σ):=rfl
theorem Kv{v m l g f b a k w u z h y:Option Sl}:tB Ψ E r Z (Wb (m::l::g::f::b::a::k::w::u::z::h::y::σ) 11 v)=tB Ψ E r Z (m::l::g::f::b::a::k::w::u::z::h::v::σ):=rfl
end
end
section
variable{d:D}{n m:Bool}{i j:Int}{z y:Str}{b:Bool}{xs:List (T×Bool)}{ts:LT}{ds es:List D}{md:List Md}{t:T}{C:LT->Prop}{Q:T->Bool->Prop}{L:Bool->Prop}{R:T->Prop}{W:LT->Prop}
section
variable{ρ:xA}{P:xA->Prop}{e k:D}{v:fm}{ks:List D}{x:Str}{kvs:List (D×D)}{l u:Option Int}
theorem Yx{i:Int}{x:D}{Q:T->Prop}(h0:0<=i)(w:i<ds.9)(q:Q (.lst ((ds.set i.toNat x).map T.d))):Vg (.lst (ds.map T.d)) (.d (.int i)) (.d x) Q:=by
 have h:i.toNat<ds.length:=()
 refine#[i.toNat,?_,by rw[<- List.map_set];exact q];unfold HS;rw[QD];rw[i0 h0,i0 w]
theorem si{J:LN}{w:xA}{N:xA->Prop}:RV J [] w N ρ=N ρ:=i3 #[λh=>h.2,λh=>#[λ_ z=>(nomatch z),h]]
theorem oA{α:Type}(f:α->D)(l:List α):l.map (λc=>T.d (f c))=(l.map f).map T.d:=by rw[Qb];rfl
theorem TC:(gA (.lst (ds.map T.d)) n).vw=.ls (ds.map T.d):=by cases n;rfl;show Vw.ls ((ersT (ds.map T.d)).map T.d)=_;rw[fB]
theorem Ei:YB md [] C=C []:=OA
theorem jAd:YB [] ((.d d,n)::xs) C=YB [] xs λts=>C (.d d::ts):=by
 have e:VA [] ((.d d,n)::xs) []=(VA [] xs []).map (.d d::·):=by cases n<;>rfl
 unfold YB;rw[e,xF]
theorem jAc:YB [] ((.lst (ds.map T.d),kf)::xs) C=YB [] xs λts=>C (.d (.list ds)::ts):=by have e:VA [] ((.lst (ds.map T.d),kf)::xs) []=(VA [] xs []).map (.d (.list (ersT (ds.map T.d)))::·):=rfl;unfold YB;rw[e,xF,fB]
theorem jAe:YB (.bor::md) ((t,kb)::xs) C=YB md xs λts=>C (t::ts):=by have e:VA (.bor::md) ((t,kb)::xs) []=(VA md xs []).map (t::·):=rfl;unfold YB;rw[e,xF]
theorem t6:DF (.lst (ds.map T.d))=jr (.lst (ds.map T.d)):=by simp only[DF,T.vw,JA,Q5]
theorem jBU{u:T}(h:DF (gA t n)=jr u):YB (.shal::md) ((t,n)::xs) C=YB md xs λts=>C (u::ts):=by
 have e:VA (.shal::md) ((t,n)::xs) []=(VA md xs []).map (u::·):=by show(match DF (gA t n) with|some t=>(VA md xs []).map (t::·)|none=>kv)=_;rw[h]
 unfold YB;rw[e,xF]
theorem Jv:YB (.shal::md) ((.lst (ds.map T.d),n)::xs) C=YB md xs λts=>C (.lst (ds.map T.d)::ts):=jBU (by cases n;exact t6;show DF (.d (.list (ersT (ds.map T.d))))=_;rw[fB];simp only[DF,T.vw,JA,Q5])
theorem jj:NL [] C=C []:=i3 #[λh=>h.2,λh=>#[rfl,h]]
theorem Ez:NL ((.lst (ds.map T.d),kf)::xs) C=NL xs λts=>C (.lst (ds.map T.d)::ts):=by show((uH (.lst (ds.map T.d)) kf&&mE xs)=kf/\C (.lst (ds.map T.d)::zF xs))=(mE xs=kf/\C (.lst (ds.map T.d)::zF xs));rw[show uH (.lst (ds.map T.d)) kf=kf from rfl,WS]
theorem jAs:NL ((.d d,n)::xs) C=NL xs λts=>C (.d d::ts):=by show((uH (.d d) n&&mE xs)=kf/\C (.d d::zF xs))=(mE xs=kf/\C (.d d::zF xs));rw[show uH (.d d) n=kf by cases n<;>rfl,WS]
theorem iO{i j:Nat}{x y:D}:mV (.tp [i,j]) (.d (.tuple [x,y])) ρ P=P ((ρ.set i (bD x)).set j (bD y)):=OA
theorem Pv{i:Nat}:mV (.nm i) t ρ P=P (ρ.set i (jr (.bor t))):=rfl
theorem L4{h:Tg}:JL h t ρ P=mV h t ρ P:=rfl
theorem fi:JK .Add (.d (.int i)) n (.d (.int j)) m Q=Q (.d (.int (i+j))) false:=by unfold JK;rw[pA,pA];exact Lo i j
theorem ui:JK .Add (.d (.str z)) n (.d (.str y)) m Q=(z.9+y.9<=kt/\Q (.d (.str (z++y))) kb):=by unfold JK;rw[pA,pA];exact Ho z y
theorem zi:JK .Sub (.d (.int i)) n (.d (.int j)) m Q=Q (.d (.int (i - j))) false:=by unfold JK;rw[pA,pA];exact Go i j
theorem ki:JK .Mult (.d (.int i)) n (.d (.int j)) m Q=(l0 i j/\Q (.d (.int (i * j))) kb):=by unfold JK;rw[pA,pA];exact Fo i j
theorem xi:JK .FloorDiv (.d (.int i)) n (.d (.int j)) m Q=((0<j/\j<2 ^ 200)/\Q (.d (.int (i / j))) kb):=by unfold JK;rw[pA,pA];exact Do i j
theorem vi:JK .Mod (.d (.int i)) n (.d (.int j)) m Q=(0<j/\Q (.d (.int (i % j))) kb):=by unfold JK;rw[pA,pA];exact Co i j
theorem mk_2:SD [.d d,.d e]=.d (.tuple [d,e]):=rfl
theorem yt{f g:D}:SD [.d d,.d e,.d f,.d g]=.d (.tuple [d,e,f,g]):=rfl
theorem Oh:SB .Eq (.d (.int i)) (.d (.int j)) L=L (decide (i=j)):=rfl
theorem Nh:SB .Eq (.d (.str z)) (.d (.str y)) L=L (decide (z=y)):=rfl
theorem Fh:SB .NotEq (.d (.int i)) (.d (.int j)) L=L (!decide (i=j)):=rfl
theorem Dh:SB .NotEq (.d (.str z)) (.d (.str y)) L=L (!decide (z=y)):=rfl
theorem Du:SB .Lt (.d (.int i)) (.d (.int j)) L=L (decide (i<j)):=rfl
theorem A9:SB v (.d d) (.lst (ds.map T.d)) L=BX v d (.list ds) L:=by show BX v d (.list (ersT (ds.map T.d))) L=_;rw[fB]
theorem Gu:SB .Gt (.d (.int i)) (.d (.int j)) L=L (decide (j<i)):=rfl
theorem jAV:SB v t (gA (.d d) m) L=SB v t (.d d) L:=by rw[pA]
theorem Lu{u:T}:SB v t (gA u kb) L=SB v t u L:=rfl
theorem da:SB .In (.d (.str z)) (.d (.list ds)) L=(((rB (.str z)=kf/\ds.all rB=kf)∨(JE (.str z)/\JE (.list ds)))/\L (ds.any λy=>Ql y (.str z))):=rfl
theorem ca:SB .NotIn (.d (.str z)) (.lst (ds.map T.d)) L=(((rB (.str z)=kf/\ds.all rB=kf)∨(JE (.str z)/\JE (.list ds)))/\L (!(ds.any λy=>Ql y (.str z)))):=by exact A9
theorem ga:SB .In (.d d) (.dct b ks ts) L=(aD b d/\L (cA ks d).isSome):=by show(aD b d/\((CmpOp.In=.In/\L (cA ks d).isSome)∨(CmpOp.In=.NotIn/\L (!(cA ks d).isSome))))=_;simp
theorem zO:SB .NotIn (.d d) (.dct b ks ts) L=(aD b d/\L (!(cA ks d).isSome)):=by show(aD b d/\((CmpOp.NotIn=.In/\L (cA ks d).isSome)∨(CmpOp.NotIn=.NotIn/\L (!(cA ks d).isSome))))=_;simp
theorem Gh:SB .In (.d (.str z)) (.d (.tuple ds)) L=(((rB (.str z)=kf/\ds.all rB=kf)∨(JE (.str z)/\JE (.list ds)))/\L (ds.any λy=>Ql y (.str z))):=rfl
theorem Hh:SB .In (.d (.str z)) (.lst (ds.map T.d)) L=(((rB (.str z)=kf/\ds.all rB=kf)∨(JE (.str z)/\JE (.list ds)))/\L (ds.any λy=>Ql y (.str z))):=by exact A9
theorem jAJ:jc (.d (.bool b)) L=L b:=rfl
theorem jAX:jAW (.d (.bool b)) L=L b:=rfl
theorem nH{k:String}(h:isD k d=jr b)(hk:HP k=kf):NF (.bty x k) (.d d) L=L b:=by show(∃b,isD k d=jr b/\HP k=kf/\L b)=_;exact i3 #[λ#[_,e,_,q]=>by rw[h]at e;cases e;exact q,λq=>#[_,h,hk,q]]
theorem Uy:NF (.bty x "str") (.d (.int i)) L=L false:=nH rfl rfl
theorem Vy:NF (.bty x "str") (.d (.str z)) L=L true:=nH rfl rfl
theorem Hy:NF (.bty x "int") (.d (.int i)) L=L true:=nH rfl rfl
theorem Oy:NF (.bty x "bool") (.d (.int i)) L=L false:=nH rfl rfl
theorem By:NF (.bty x "list") (.d (.tuple ds)) L=L false:=nH rfl rfl
theorem iy:NF (.bty x "tuple") (.d (.tuple ds)) L=L true:=nH rfl rfl
theorem Cy:NF (.bty x "list") (.lst ts) L=L true:=nH (d:=.list (ersT ts)) rfl rfl
theorem bh:dM .min [(.d (.int i),n),(.d (.int j),m)] Q=Q (.d (.int (if j<i then j else i))) false:=by unfold dM CB CB CB;rw[pA,pA];exact No i j
theorem Ls:dM .len [(.d (.list ds),n)] Q=Q (.d (.int ds.9)) false:=by unfold dM CB;rw[pA];refine(Ah _).trans ?_;rw[QD]
theorem Xs:dM .len [(.d (.tuple ds),n)] Q=Q (.d (.int ds.9)) false:=by unfold dM CB;rw[pA];refine(Pu _).trans ?_;rw[QD]
theorem Hs:dM .len [(.lst (ds.map T.d),n)] Q=Q (.d (.int ds.9)) false:=by unfold dM CB;rw[TC];refine(Ah _).trans ?_;rw[QD]
theorem Os:dM .any [(.lst (ds.map T.d),n)] Q=∃bs:List Bool,ds=bs.map PyData.bool/\Q (.d (.bool (bs.any id))) false:=by unfold dM CB;rw[TC];refine(Ou _).trans ?_;simp only[JA,Qr]
theorem N9:HU (.ls ts) k R=False:=i3 #[λ#[_,_,_,_,_,e,_]=>(by cases e),Qd]
theorem yo:HU (.tp ts) k R=False:=i3 #[λ#[_,_,_,_,_,e,_]=>(by cases e),Qd]
theorem zo{x:D}:HU (.sc x) k R=False:=i3 #[λ#[_,_,_,_,_,e,_]=>(by cases e),Qd]
theorem jAG:XA (.lst (ds.map T.d)) n (.d (.int i)) m R=uF (PC ds i) λd=>R (.d d):=by unfold XA;rw[TC,pA,N9,or_false];refine(m9 _ _).trans ?_;show uF (PC (ds.map T.d) i) R=_;rw[UF,xF]
theorem Gb:XA (.d (.list ds)) n (.d (.int i)) m R=uF (PC ds i) λd=>R (.d d):=by unfold XA;rw[pA,pA,show(T.d (.list ds)).vw=.ls (ds.map T.d) from rfl,N9,or_false];refine(m9 _ _).trans ?_;show uF (PC (ds.map T.d) i) R=_;rw[UF,xF]
theorem Z5:XA (.d (.tuple ds)) n (.d (.int i)) m R=uF (PC ds i) λd=>R (.d d):=by unfold XA;rw[pA,pA,show(T.d (.tuple ds)).vw=.tp (ds.map T.d) from rfl,yo,or_false];refine(Xn _ _).trans ?_;show uF (PC (ds.map T.d) i) R=_;rw[UF,xF]
theorem Xw:XA (.d (.str z)) n (.d (.int i)) m R=(z.9<=kt/\uF (PC z.cps.toList i) λc=>R (.d (.str #[(Q3 [c])]))):=by unfold XA;rw[pA,pA,show(T.d (.str z)).vw=.sc (.str z) from rfl,zo,or_false];exact Bn _ _
theorem jq{f:D}:XA (.lst [.d d,.d e,.d f]) n t m R=XA (.lst ([d,e,f].map T.d)) n t m R:=rfl
theorem yq{q:Bool}{l:Nat}(g:FC kvs=jr q)(f:aD q k)(a:cA (kvs.map (·.1)) k=jr l)(h:(kvs.map (·.2))[l]?=jr e)(w:R (.d e)):XA (.d (.dict kvs)) n (.d k) m R:=by
 unfold XA;rw[pA];refine .inr ?_;show HU (DB kvs) k R;unfold DB;rw[g];refine#[q,_,_,l,.d e,rfl,f,a,?_,w];rw[QX]at h ⊢;cases z:kvs[l]? with|none=>rw[z]at h;cases h|some p=>rw[z]at h;cases h;rfl
theorem jAM:EF (.d (.str z)) n l u Q=(z.9<=kt/\Q (.d (.str (w8 z l u))) kb):=by unfold EF;rw[pA];exact vk z
theorem jAN:EF (.d (.list ds)) n l u Q=Q (.lst ((pH ds l u).map T.d)) true:=by unfold EF;rw[pA];refine(r6 _).trans ?_;rw[JA];exact OA
theorem Tq:EF (.lst (ds.map T.d)) n l u Q=Q (.lst ((pH ds l u).map T.d)) true:=by unfold EF;rw[TC];refine(r6 _).trans ?_;rw[JA];exact OA
theorem jAI:rK .val [(.d (.list ds),n)] W=W (ds.map T.d):=by unfold rK CB;rw[pA];exact nJ _
theorem jAH:rK .val [(.d (.tuple ds),n)] W=W (ds.map T.d):=by unfold rK CB;rw[pA];exact u9 _
theorem lq:rK .val [(.lst (ds.map T.d),n)] W=W (ds.map T.d):=by unfold rK CB;rw[TC];exact nJ _
theorem cq:rK .rev [(.lst (ds.map T.d),n)] W=W (ds.reverse.map T.d):=by unfold rK CB;rw[TC,W0];exact i3 #[λ#[_,e,h]=>by cases e;exact h,λh=>#[_,rfl,h]]
theorem dq:rK .rng1 [(.d (.int j),n)] W=((-(2 ^ 62)<=j/\j<2 ^ 62)/\W ((Qj j.toNat).map λ(i:Nat)=>.d (.int (i:Int)))):=by unfold rK CB;rw[pA];exact x9 j
theorem oq:rK .enum [(.d (.list ds),n)] W=W (ds.zipIdx.map λp=>.d (.tuple [.int (p.2:Int),p.1])):=by unfold rK CB;rw[pA];refine(iU _).trans ?_;exact i3 #[λ#[_,_,w,h,k]=>by cases w;rw[JA]at h;cases h;exact k,λk=>#[_,_,rfl,JA _,k]]
theorem lg:rK .enum [(.lst (ds.map T.d),n)] W=W (ds.zipIdx.map λp=>.d (.tuple [.int (p.2:Int),p.1])):=by unfold rK CB;rw[TC];refine(iU _).trans ?_;exact i3 #[λ#[_,_,w,h,k]=>by cases w;rw[JA]at h;cases h;exact k,λk=>#[_,_,rfl,JA _,k]]
theorem mq(h:kvs=[]∨FC kvs=jr kf):rK .itm [(.d (.dict kvs),n)] W=W (kvs.map λp=>.d (.tuple [p.1,p.2])):=by
 unfold rK CB;rw[pA];show MB .itm [DB kvs] W=_;rcases h with rfl|h;exact v9;unfold DB;rw[h];refine(eU _ _).trans ?_;have e:(kvs.map λp=>T.d p.2)=(kvs.map (·.2)).map T.d:=by rw[Qb];rfl
 have w:((kvs.map (·.1)).zip (kvs.map (·.2))).map (λp=>T.d (.tuple [p.1,p.2]))=kvs.map λp=>T.d (.tuple [p.1,p.2]):=by rw[List.zip_map',Qb];rfl
 refine i3 #[λ#[ds,a,k]=>?_,λk=>#[kvs.map (·.2),by rw[e,JA],?_]];rw[e,JA]at a;cases a;rw[w]at k;exact k;rw[w];exact k
noncomputable def eZ(Q:T->LT->Prop):PEnds:={ nx:=λ_=>Q (.d .none) [],rt:=λt _=>Q t [] }
theorem Uh{Q:T->LT->Prop}{t:T}:(eZ Q).rt t ρ=Q t []:=rfl
theorem vA{Ψ:PEv}{b:PT}{p:PSp}{N w:LS}{ds:LT}{Q:T->LT->Prop}(ρ:xA)(h:pF Ψ b (eZ Q) ρ)(hl:ds.9=w.length:=by rfl)(hc:XB 0 p.md w.9=[]:=by rfl)(hs:lB N p.md ds=ρ:=by rfl):ds.9=w.9/\pF Ψ b (zD p w.9 Q) (lB N p.md ds):=by
 have e:zD p w.9 Q=eZ Q:=by unfold zD;rw[hc];rfl
 rw[e,hs];exact#[hl,h]
end
end
theorem Ds{y:List (List Ky)}{n:Bool}{Q:T->Bool->Prop}(h:y.9<64)(z:dv y)(q:∀x:List (List Ky),x.Perm y->x.Pairwise Om->Q (.lst ((x.map x5).map T.d)) kf):dM .sorted [(.lst ((y.map x5).map T.d),n)] Q:=by unfold dM CB;rw[TC];exact .inr (.inr (.inr #[_,y,rfl,JA _,#[h,z],q]))
end L2.L3
namespace L2.L3.K41
open PySem PySem.Spec PyProof.Rows L2 L2.L3
section
variable{p q:Pt}{r:Rm}{Q:T->Prop}{l:Inn}{v:Int}{a b n g:Str}{w:Wy}{e:Str×Str}
def top(i:Nat):Stmt:=Q9.main.body.getD i (.Pass #[0,0,0,0])
noncomputable def BG:LS:=["edges","starts","goal","rooms","came_from","firsts","chains"]
def HF:LS:=["edges","starts","goal"]
noncomputable def iN:Need:=#[["rooms_of","points_reached","lay_chain","chain_from","full_names"],["BEGIN"],["sorted"]]
noncomputable def KC:PT :=
  %[.expr (.call "lay_chain" %[.var 3,.var 4,.tup %[.var 2,.str "to"|1]|1]),.set 4 (.call "points_reached" %[.var 3|1])|2]
def VG:PT :=
  %[.own 3 (.call "rooms_of" %[.var 0,.var 1,.var 2|1]),.set 4 (.call "points_reached" %[.var 3|1]),.whl (.cmp .In (.tup %[.var 2,.str "to"|1]) (.var 4)) KC,.set 5 (.comp [] ["point"] (.nm 0) .val %[.idx (.var 3) (.glo "BEGIN")|1] (.cmp .Gt (.idx (.idx (.var 4) (.var 0)) (.glo "BEGIN")) (.int 0)) (.idx (.var 0) (.int 0))),.set 6 (.comp [] ["first"] (.nm 0) .val %[.var 5|1] .nop (.call "chain_from" %[.var 4,.var 0,.var 3|1])),.ret (.tup %[.bi .sorted %[.var 6|1],.call "full_names" %[.var 4|1]|1])|2]
theorem SL:GA iN VG BG HF (top 3)=true:=by kernel_rfl
noncomputable def lO:LS:=["edges","starts","goal","rooms","name","first","second"]
def vL:LS:=["edges","starts","goal"]
def OW:Need:=#[["add_name","add_way"],["BEGIN","WIDE"],[]]
noncomputable def aF:PT :=
  %[.ife (.cmp .NotEq (.var 4) (.var 2)) %[.expr (.call "add_name" %[.var 3,.var 4|1]),.expr (.call "add_way" %[.var 3,.glo "BEGIN",.tup %[.var 4,.str "to"|1],.glo "WIDE"|1])|2] .nil|2]
noncomputable def tF:PT :=
  %[.ife (.and (.cmp .NotEq (.var 5) (.var 2)) (.cmp .NotEq (.var 5) (.var 6))) %[.expr (.call "add_name" %[.var 3,.var 5|1]),.expr (.call "add_name" %[.var 3,.var 6|1]),.expr (.call "add_way" %[.var 3,.tup %[.var 5,.str "from"|1],.tup %[.var 6,.str "to"|1],.glo "WIDE"|1])|2] .nil|2]
def xO:PT :=
  %[.own 3 (.dsp (.glo "BEGIN") (.dnew kf)),.for_ (.nm 4) .val %[.var 1|1] aF,.for_ (.tp [5,6]) .val %[.var 0|1] tF,.ret (.var 3)|2]
theorem AU:GA OW xO lO vL (top 4)=true:=by kernel_rfl
def aO:LS:=["rooms","name"]
def gL:LS:=["rooms","name"]
def jX:Need:=#[["add_way"],[],[]]
noncomputable def sI:PT :=
  %[.expr (.call "add_way" %[.var 0,.tup %[.var 1,.str "to"|1],.tup %[.var 1,.str "from"|1],.int 1|1])|2]
theorem xV:GA jX sI aO gL (top 5)=true:=by kernel_rfl
def rQ:LS:=["rooms","here","there","room"]
def xN:LS:=["rooms","here","there","room"]
def u3:Need:=#[[],[],[]]
noncomputable def vQ:PT :=
  %[.sdf 0 (.var 1),.sdf 0 (.var 2),.six (.idx (.var 0) (.var 1)) (.var 2) (.var 3),.six (.idx (.var 0) (.var 2)) (.var 1) (.int 0)|2]
theorem EX:GA u3 vQ rQ xN (top 6)=true:=by kernel_rfl
noncomputable def AE:LS:=["rooms","came_from","waiting","here","there","room"]
def OD:LS:=["rooms"]
def mK:Need:=#[[],["BEGIN"],["len"]]
noncomputable def kB:PT :=
  %[.ife (.and (.cmp .Gt (.var 5) (.int 0)) (.cmp .NotIn (.var 4) (.var 1))) %[.six (.var 1) (.var 4) (.var 3),.expr (.mt .append (.var 2) %[.var 4|1])|2] .nil|2]
def ZD:PT :=
  %[.set 3 (.mt .pop (.var 2) %[.int 0|1]),.for_ (.tp [4,5]) .itm %[.idx (.var 0) (.var 3)|1] kB|2]
def RE:PT :=
  %[.own 1 (.dsp (.glo "BEGIN") .non),.own 2 (.lst %[.glo "BEGIN"|1]),.whl (.cmp .Gt (.bi .len %[.var 2|1]) (.int 0)) ZD,.ret (.var 1)|2]
theorem ZJ:GA mK RE AE OD (top 7)=true:=by kernel_rfl
def ZL:LS:=["rooms","came_from","last","there","here"]
def EI:LS:=["rooms","came_from","last"]
def yU:Need:=#[[],["BEGIN"],[]]
noncomputable def sE:PT :=
  %[.set 4 (.idx (.var 1) (.var 3)),.six (.idx (.var 0) (.var 4)) (.var 3) (.bin .Sub (.idx (.idx (.var 0) (.var 4)) (.var 3)) (.int 1)),.six (.idx (.var 0) (.var 3)) (.var 4) (.bin .Add (.idx (.idx (.var 0) (.var 3)) (.var 4)) (.int 1)),.set 3 (.var 4)|2]
def aG:PT :=
  %[.set 3 (.var 2),.whl (.cmp .NotEq (.var 3) (.glo "BEGIN")) sE|2]
theorem oS:GA yU aG ZL EI (top 8)=true:=by kernel_rfl
def SJ:LS:=["rooms","first","goal","chain","name"]
def VH:LS:=["rooms","first","goal"]
def DR:Need:=#[["name_behind"],[],[]]
noncomputable def BD:PT :=
  %[.expr (.mt .append (.var 3) %[.var 4|1]),.set 4 (.call "name_behind" %[.var 0,.var 4|1])|2]
def XF:PT :=
  %[.own 3 (.lst .anil),.set 4 (.var 1),.whl (.cmp .NotEq (.var 4) (.var 2)) BD,.ret (.var 3)|2]
theorem zP:GA DR XF SJ VH (top 9)=true:=by kernel_rfl
def FH:LS:=["rooms","name","here"]
def kG:LS:=["rooms","name"]
def BO:Need:=#[[],[],[]]
noncomputable def rE:PT :=
  %[.set 2 (.tup %[.var 1,.str "from"|1]),.ret (.idx (.comp [] ["there"] (.nm 0) .val %[.idx (.var 0) (.var 2)|1] (.and (.cmp .NotEq (.idx (.var 0) (.int 0)) (.var 2)) (.cmp .Gt (.idx (.idx (.var 1) (.var 0)) (.var 3)) (.int 0))) (.idx (.var 0) (.int 0))) (.int 0))|2]
theorem IN:GA BO rE FH kG (top 10)=true:=by kernel_rfl
def RJ:LS:=["came_from"]
def KH:LS:=["came_from"]
def BR:Need:=#[[],[],["sorted"]]
noncomputable def VF:PT :=
  %[.ret (.bi .sorted %[.comp [] ["point"] (.nm 0) .val %[.var 0|1] (.and (.cmp .Eq (.idx (.var 0) (.int 1)) (.str "to")) (.cmp .NotIn (.tup %[.idx (.var 0) (.int 0),.str "from"|1]) (.var 1))) (.idx (.var 0) (.int 0))|1])|2]
theorem yP:GA BR VF RJ KH (top 11)=true:=by kernel_rfl
noncomputable def UG:LS:=["edges","seers","needs","ground","found","grown","name","number","chains"]
def GF:LS:=["edges","seers","needs"]
def eN:Need:=#[["told_through"],[],["len"]]
noncomputable def ZC:PT :=
  %[.ife (.cmp .NotIn (.var 6) (.var 4)) %[.set 8 (.idx (.call "told_through" %[.var 0,.var 1,.var 4,.var 6|1]) (.int 0)),.ife (.cmp .GtE (.bi .len %[.var 8|1]) (.var 7)) %[.expr (.mt .append (.var 3) %[.tup %[.var 6,.slc (.var 8) .nop (.var 7)|1]|1]),.expr (.mt .append (.var 4) %[.var 6|1]),.set 5 (.bl kf)|2] .nil|2] .nil|2]
def YC:PT :=
  %[.set 5 (.bl kb),.for_ (.tp [6,7]) .val %[.var 2|1] ZC|2]
def KG:PT :=
  %[.own 3 (.comp [kb,kb,kb,kb,kb,kb,kf,kf] ["name","number"] (.tp [0,1]) .val %[.var 2|1] (.cmp .In (.var 0) (.var 3)) (.tup %[.var 0,.lst .anil|1])),.own 4 (.comp [kb,kb,kb,kb,kb,kb,kf,kb,kf] ["name","chains"] (.tp [0,1]) .val %[.var 3|1] .nop (.var 0)),.set 5 (.bl kf),.whl (.var 5) YC,.ret (.var 3)|2]
theorem RL:GA eN KG UG GF (top 13)=true:=by kernel_rfl
def XG:LS:=["edges","seers","people","goal"]
def FF:LS:=["edges","seers","people","goal"]
def aN:Need:=#[["apart_chains"],[],[]]
noncomputable def YD:PT :=
  %[.ret (.call "apart_chains" %[.comp [] ["edge"] (.nm 0) .val %[.var 0|1] (.cmp .In (.idx (.var 0) (.int 0)) (.var 3)) (.var 0),.var 1,.var 3|1])|2]
theorem PL:GA aN YD XG FF (top 14)=true:=by kernel_rfl
noncomputable def Sa:LS:=["world","events","past","taken","wrong","held","known","steps","number","believed","live"]
def TY:LS:=["world"]
noncomputable def Um:Need:=#[["going_order","is_taken","wrong_among","live_among","held_among"],[],[]]
noncomputable def OK:PT :=
  %[.own 4 (.call "wrong_among" %[.var 0,.var 2|1]),.set 10 (.call "live_among" %[.var 1,.var 3,.var 4|1]),.set 5 (.call "held_among" %[.var 0,.var 2,.var 10,.var 6|1]),.expr (.mt .append (.var 7) %[.tup %[.var 8,.var 9,.var 10,.var 5|1]|1])|2]
def bO:PT :=
  (.seq (.set 9 (.call "is_taken" %[.var 0,.idx (.var 1) (.var 8),.var 4,.var 5|1]))
  (.seq (.expr (.mt .append (.var 2) %[.var 8|1]))
  (.seq (.ife (.and (.var 9) (.cmp .Eq (.idx (.idx (.var 1) (.var 8)) (.int 0)) (.str "tell"))) %[.expr (.mt .append (.var 3) %[.var 8|1])|2] .nil)
  OK)))
def xY:PT :=
  %[.set 1 (.idx (.var 0) (.int 3)),.own 2 (.lst .anil),.own 3 (.lst .anil),.own 4 (.dnew kf),.set 5 (.lst .anil),.own 6 (.dnew kf),.own 7 (.lst .anil),.for_ (.nm 8) .val %[.call "going_order" %[.var 1|1]|1] bO,.ret (.var 7)|2]
theorem Df:GA Um xY Sa TY (top 17)=true:=by kernel_rfl
noncomputable def pO:LS:=["world","event","wrong","held","teller","hearer","matter"]
def cL:LS:=["world","event","wrong","held"]
def AW:Need:=#[["has_against","rank_of","floor_of"],[],[]]
noncomputable def YF:PT :=
  %[.ife (.cmp .Eq (.idx (.var 1) (.int 0)) (.str "see")) %[.ret (.bl kf)|2] .nil,.set 4 (.idx (.var 1) (.int 2)),.set 5 (.idx (.var 1) (.int 3)),.set 6 (.idx (.var 1) (.int 4)),.ife (.or (.cmp .NotIn (.tup %[.var 4,.var 6|1]) (.var 3)) (.cmp .In (.tup %[.var 4,.var 5|1]) (.var 2))) %[.ret (.bl kb)|2] .nil,.ret (.and (.cmp .GtE (.call "rank_of" %[.var 0,.var 4|1]) (.call "floor_of" %[.var 0,.var 5|1])) (.not (.call "has_against" %[.var 0,.var 3,.var 5,.var 6|1])))|2]
theorem yV:GA AW YF pO cL (top 18)=true:=by kernel_rfl
def bQ:LS:=["world","name"]
def SM:LS:=["world","name"]
def D2:Need:=#[[],[],[]]
noncomputable def ZK:PT :=
  %[.ret (.idx (.comp [] ["person"] (.nm 0) .val %[.idx (.var 0) (.int 0)|1] (.cmp .Eq (.idx (.var 0) (.int 0)) (.var 2)) (.idx (.var 0) (.int 1))) (.int 0))|2]
theorem GX:GA D2 ZK bQ SM (top 19)=true:=by kernel_rfl
def rO:LS:=["world","name"]
def dL:LS:=["world","name"]
def EW:Need:=#[[],[],[]]
noncomputable def oI:PT :=
  %[.ret (.idx (.comp [] ["person"] (.nm 0) .val %[.idx (.var 0) (.int 0)|1] (.cmp .Eq (.idx (.var 0) (.int 0)) (.var 2)) (.idx (.var 0) (.int 2))) (.int 0))|2]
theorem zV:GA EW oI rO dL (top 20)=true:=by kernel_rfl
def HH:LS:=["world","pairs","name","matter","rivals"]
def xG:LS:=["world","pairs","name","matter"]
def DO:Need:=#[[],[],["any"]]
noncomputable def iE:PT :=
  %[.own 4 (.comp [] ["first","second"] (.tp [0,1]) .val %[.idx (.var 0) (.int 2)|1] (.cmp .Eq (.var 0) (.var 5)) (.var 1)),.expr (.mt .extend (.var 4) %[.comp [] ["first","second"] (.tp [0,1]) .val %[.idx (.var 0) (.int 2)|1] (.cmp .Eq (.var 1) (.var 5)) (.var 0)|1]),.ret (.bi .any %[.comp [] ["rival"] (.nm 0) .val %[.var 4|1] .nop (.cmp .In (.tup %[.var 3,.var 0|1]) (.var 2))|1])|2]
theorem yO:GA DO iE HH xG (top 21)=true:=by kernel_rfl
def BH:LS:=["world","past","seen","wrong","number","event"]
def jG:LS:=["world","past"]
def VO:Need:=#[["seen_among","has_against"],[],[]]
noncomputable def LF:PT :=
  %[.set 5 (.idx (.idx (.var 0) (.int 3)) (.var 4)),.ife (.and (.cmp .Eq (.idx (.var 5) (.int 0)) (.str "tell")) (.cmp .NotIn (.tup %[.idx (.var 5) (.int 3),.idx (.var 5) (.int 4)|1]) (.var 2))) %[.ife (.call "has_against" %[.var 0,.var 2,.idx (.var 5) (.int 3),.idx (.var 5) (.int 4)|1]) %[.six (.var 3) (.tup %[.idx (.var 5) (.int 2),.idx (.var 5) (.int 3)|1]) (.bl kf)|2] .nil|2] .nil|2]
def nE:PT :=
  %[.own 2 (.call "seen_among" %[.idx (.var 0) (.int 3),.var 1|1]),.own 3 (.dnew kf),.for_ (.nm 4) .val %[.var 1|1] LF,.ret (.var 3)|2]
theorem TN:GA VO nE BH jG (top 22)=true:=by kernel_rfl
def MJ:LS:=["events","past","seen","number"]
def iH:LS:=["events","past"]
def ZR:Need:=#[[],[],[]]
noncomputable def tG:PT :=
  %[.ife (.cmp .Eq (.idx (.idx (.var 0) (.var 3)) (.int 0)) (.str "see")) %[.six (.var 2) (.tup %[.idx (.idx (.var 0) (.var 3)) (.int 2),.idx (.idx (.var 0) (.var 3)) (.int 3)|1]) (.bl kf)|2] .nil|2]
def sF:PT :=
  %[.own 2 (.dnew kf),.for_ (.nm 3) .val %[.var 1|1] tG,.ret (.var 2)|2]
theorem SO:GA ZR sF MJ iH (top 23)=true:=by kernel_rfl
def NJ:LS:=["events","taken","wrong"]
def JH:LS:=["events","taken","wrong"]
def KR:Need:=#[[],[],["sorted"]]
noncomputable def eF:PT :=
  %[.ret (.bi .sorted %[.comp [] ["number"] (.nm 0) .val %[.var 1|1] (.cmp .NotIn (.tup %[.idx (.idx (.var 1) (.var 0)) (.int 2),.idx (.idx (.var 1) (.var 0)) (.int 3)|1]) (.var 3)) (.var 0)|1])|2]
theorem AO:GA KR eF NJ JH (top 24)=true:=by kernel_rfl
def PJ:LS:=["world","past","live","known","seen","holders","matter","web","held","person"]
def ZH:LS:=["world","past","live","known"]
noncomputable def UR:Need:=#[["seen_among","edges_of","seers_of","holders_in"],[],[]]
noncomputable def IC:PT :=
  %[.six (.var 5) (.var 6) (.idx (.var 3) (.var 7))|2]
def UD:PT :=
  (.seq (.set 7 (.tup %[.call "seers_of" %[.var 0,.var 4,.var 6|1],.call "edges_of" %[.idx (.var 0) (.int 3),.var 2,.var 6|1]|1]))
  (.seq (.ife (.cmp .NotIn (.var 7) (.var 3)) %[.six (.var 3) (.var 7) (.call "holders_in" %[.var 0,.var 7|1])|2] .nil)
  IC))
noncomputable def VD:PT :=
  %[.expr (.mt .extend (.var 8) %[.comp [kb,kb,kb,kb,kb,kb,kf] ["matter"] (.nm 0) .val %[.idx (.var 0) (.int 1)|1] (.cmp .In (.idx (.var 10) (.int 0)) (.idx (.var 6) (.var 0))) (.tup %[.idx (.var 10) (.int 0),.var 0|1])|1])|2]
def KF:PT :=
  %[.own 4 (.call "seen_among" %[.idx (.var 0) (.int 3),.var 1|1]),.own 5 (.dnew kb),.for_ (.nm 6) .val %[.idx (.var 0) (.int 1)|1] UD,.own 8 (.lst .anil),.for_ (.nm 9) .val %[.idx (.var 0) (.int 0)|1] VD,.ret (.var 8)|2]
theorem jP:GA UR KF PJ ZH (top 25)=true:=by kernel_rfl
def gO:LS:=["world","seen","matter"]
def kL:LS:=["world","seen","matter"]
def NW:Need:=#[[],[],["tuple"]]
noncomputable def dI:PT :=
  %[.ret (.bi .tuple %[.comp [] ["person"] (.nm 0) .val %[.idx (.var 0) (.int 0)|1] (.cmp .In (.tup %[.idx (.var 0) (.int 0),.var 3|1]) (.var 2)) (.idx (.var 0) (.int 0))|1])|2]
theorem TU:GA NW dI gO kL (top 26)=true:=by kernel_rfl
def sO:LS:=["events","live","matter","tells"]
def fL:LS:=["events","live","matter"]
def IW:Need:=#[[],[],["tuple"]]
noncomputable def pI:PT :=
  %[.set 3 (.comp [] ["number"] (.nm 0) .val %[.var 1|1] (.cmp .Eq (.idx (.idx (.var 1) (.var 0)) (.int 4)) (.var 3)) (.idx (.var 1) (.var 0))),.ret (.bi .tuple %[.comp [] ["event"] (.nm 0) .val %[.var 3|1] .nop (.tup %[.idx (.var 0) (.int 2),.idx (.var 0) (.int 3)|1])|1])|2]
theorem vV:GA IW pI sO fL (top 27)=true:=by kernel_rfl
def OJ:LS:=["world","web"]
def YH:LS:=["world","web"]
def XR:Need:=#[["ground_alone","needs_of"],[],[]]
noncomputable def ZF:PT :=
  %[.ret (.comp [] ["name","chains"] (.tp [0,1]) .val %[.call "ground_alone" %[.idx (.var 1) (.int 1),.idx (.var 1) (.int 0),.call "needs_of" %[.var 0|1]|1]|1] .nop (.var 0))|2]
theorem EO:GA XR ZF OJ YH (top 28)=true:=by kernel_rfl
def mO:LS:=["world"]
def xL:LS:=["world"]
def RW:Need:=#[[],[],[]]
noncomputable def fI:PT :=
  %[.ret (.comp [] ["person"] (.nm 0) .val %[.idx (.var 0) (.int 0)|1] .nop (.tup %[.idx (.var 0) (.int 0),.idx (.var 0) (.int 3)|1]))|2]
theorem EU:GA RW fI mO xL (top 29)=true:=by kernel_rfl
def GH:LS:=["world"]
def vG:LS:=["world"]
def CO:Need:=#[["gone"],[],[]]
noncomputable def tE:PT :=
  %[.ret (.tup %[.var 0,.call "gone" %[.var 0|1]|1])|2]
theorem jO:GA CO tE GH vG (top 31)=true:=by kernel_rfl
def cQ:LS:=["moment"]
def TM:LS:=["moment"]
def G2:Need:=#[[],[],[]]
noncomputable def UK:PT :=
  %[.ret (.comp [] ["step"] (.nm 0) .val %[.idx (.var 0) (.int 1)|1] .nop (.idx (.var 0) (.int 0)))|2]
theorem HX:GA G2 UK cQ TM (top 32)=true:=by kernel_rfl
def dQ:LS:=["moment"]
def AM:LS:=["moment"]
def N2:Need:=#[[],[],["len"]]
noncomputable def BK:PT :=
  %[.ret (.ife (.cmp .Gt (.bi .len %[.idx (.var 0) (.int 1)|1]) (.int 0)) (.idx (.idx (.idx (.var 0) (.int 1)) (.ng 1)) (.int 2)) (.lst .anil))|2]
theorem LX:GA N2 BK dQ AM (top 33)=true:=by kernel_rfl
def CH:LS:=["world","person","matter"]
def yG:LS:=["world","person","matter"]
def XO:Need:=#[["wordings_in","last_moment"],[],[]]
noncomputable def oE:PT :=
  %[.ret (.call "wordings_in" %[.call "last_moment" %[.var 0|1],.var 1,.var 2|1])|2]
theorem AN:GA XO oE CH yG (top 35)=true:=by kernel_rfl
def HJ:LS:=["moment","person","matter","events"]
def aH:LS:=["moment","person","matter"]
def YR:Need:=#[["live_in"],[],[]]
noncomputable def rF:PT :=
  %[.set 3 (.idx (.idx (.var 0) (.int 0)) (.int 3)),.ret (.comp [] ["number"] (.nm 0) .val %[.call "live_in" %[.var 0|1]|1] (.cmp .Eq (.slc (.idx (.var 4) (.var 0)) (.int 3) (.int 5)) (.tup %[.var 2,.var 3|1])) (.var 0))|2]
theorem RO:GA YR rF HJ aH (top 36)=true:=by kernel_rfl
noncomputable def DH:LS:=["moment","person","matter","events","tells","wordings","number","event"]
def zG:LS:=["moment","person","matter"]
def UO:Need:=#[["tellers_in","past_in"],[],[]]
noncomputable def EC:PT :=
  %[.set 7 (.idx (.var 3) (.var 6)),.ife (.cmp .In (.var 6) (.var 4)) %[.expr (.mt .append (.var 5) %[.tup %[.var 6,.idx (.var 7) (.int 5)|1]|1])|2] %[.ife (.and (.cmp .Eq (.idx (.var 7) (.int 0)) (.str "see")) (.cmp .Eq (.slc (.var 7) (.int 2) (.int 4)) (.tup %[.var 1,.var 2|1]))) %[.expr (.mt .append (.var 5) %[.tup %[.var 6,.idx (.var 7) (.int 4)|1]|1])|2] .nil|2]|2]
def pE:PT :=
  %[.set 3 (.idx (.idx (.var 0) (.int 0)) (.int 3)),.set 4 (.call "tellers_in" %[.var 0,.var 1,.var 2|1]),.own 5 (.lst .anil),.for_ (.nm 6) .val %[.call "past_in" %[.var 0|1]|1] EC,.ret (.var 5)|2]
theorem EN:GA UO pE DH zG (top 37)=true:=by kernel_rfl
def VL:LS:=["_law_script","_law_k"]
def jJ:LS:=["_law_script","_law_k"]
def kU:Need:=#[[],[],["len"]]
noncomputable def YG:PT :=
  %[.ife (.cmp .Lt (.var 1) (.bi .len %[.var 0|1])) %[.ret (.idx (.var 0) (.var 1))|2] .nil,.ret (.int 0)|2]
theorem rS:GA kU YG VL jJ (top 39)=true:=by kernel_rfl
def oQ:LS:=["_law_cell","_law_k","_law_number"]
def kN:LS:=["_law_cell","_law_k"]
def y3:Need:=#[[],[],[]]
noncomputable def LK:PT :=
  %[.set 2 (.bin .Mod (.bin .Mult (.bin .Mod (.var 0) (.int 2147483647)) (.bin .Add (.int 69621) (.bin .Mult (.bin .Mult (.int 1511) (.var 1)) (.var 1)))) (.int 2147483629)),.ret (.bin .Mod (.bin .Mult (.bin .Add (.var 2) (.var 1)) (.bin .Add (.bin .Add (.var 2) (.bin .Mult (.int 5) (.var 1))) (.int 1))) (.int 2147483587))|2]
theorem TX:GA y3 LK oQ kN (top 40)=true:=by kernel_rfl
noncomputable def KL:LS:=["_law_number","_law_size","_law_some","_law_word","_law_k"]
def II:LS:=["_law_number","_law_size"]
def zU:Need:=#[[],[],["range"]]
noncomputable def UH:PT :=
  %[.set 3 (.bin .Add (.var 3) (.idx (.var 2) (.bin .Mod (.var 0) (.int 26)))),.set 0 (.bin .FloorDiv (.var 0) (.int 26))|2]
def JG:PT :=
  %[.set 2 (.str "abcdefghijklmnopqrstuvwxyz"),.set 3 (.str ""),.for_ (.nm 4) .rng1 %[.var 1|1] UH,.ret (.var 3)|2]
theorem pS:GA zU JG KL II (top 41)=true:=by kernel_rfl
def lQ:LS:=["_law_word","_law_some","_law_kept"]
def jN:LS:=["_law_word"]
def A2:Need:=#[[],[],[]]
noncomputable def FK:PT :=
  %[.set 1 (.str "abcdefghijklmnopqrstuvwxyz"),.set 2 (.lst %[.str "person",.str "matter",.str "against",.str "see",.str "tell",.str "by",.str "at",.str "who",.str "what",.str "since",.str "tellers"|1]),.ife (.or (.cmp .In (.var 0) (.var 2)) (.cmp .In (.var 0) (.lst %[.str "wordings",.str "apart",.str "leans",.str "hidden",.str "strike",.str "quote",.str "ground",.str "cut"|1]))) %[.ret (.bin .Add (.slc (.var 0) .nop (.ng 1)) (.idx (.var 1) (.bin .Mod (.bin .Add (.mt .index (.var 1) %[.idx (.var 0) (.ng 1)|1]) (.int 13)) (.int 26))))|2] .nil,.ret (.var 0)|2]
theorem OX:GA A2 FK lQ jN (top 42)=true:=by kernel_rfl
noncomputable def gQ:LS:=["_law_cell","_law_many","_law_longest","_law_some","_law_number","_law_base","_law_size","_law_at","_law_words_here","_law_k","_law_sign","_law_word"]
def IM:LS:=["_law_cell","_law_many","_law_longest"]
noncomputable def T2:Need:=#[["_law_mixed","_law_letters","_law_spelt"],[],["range","list","reversed"]]
noncomputable def uD:PT :=
  %[.expr (.mt .append (.var 8) %[.call "_law_spelt" %[.var 11|1]|1])|2]
def iG:PT :=
  (.seq (.set 10 (.idx (.var 3) (.bin .Mod (.bin .Add (.bin .FloorDiv (.var 4) (.int 192)) (.var 9)) (.int 26))))
  (.seq (.ife (.cmp .Eq (.bin .Mod (.var 4) (.int 3)) (.int 0)) %[.set 11 (.bin .Add (.bin .Add (.slc (.var 5) .nop (.var 7)) (.var 10)) (.slc (.var 5) (.bin .Add (.var 7) (.int 1)) (.var 6)))|2] %[.ife (.cmp .Eq (.bin .Mod (.var 4) (.int 3)) (.int 1)) %[.set 11 (.slc (.var 5) .nop (.bin .Add (.int 1) (.bin .Mod (.bin .Add (.bin .FloorDiv (.var 4) (.int 24)) (.var 9)) (.var 2))))|2] %[.set 11 (.slc (.bin .Add (.var 10) (.call "_law_letters" %[.call "_law_mixed" %[.var 0,.bin .Add (.var 9) (.int 2)|1],.int 7|1])) .nop (.bin .Add (.int 1) (.bin .Mod (.call "_law_mixed" %[.var 0,.bin .Add (.var 9) (.int 40)|1]) (.var 2))))|2]|2])
  uD))
def DK:PT :=
  %[.set 3 (.str "abcdefghijklmnopqrstuvwxyz"),.set 4 (.call "_law_mixed" %[.var 0,.int 1|1]),.set 5 (.call "_law_letters" %[.bin .Add (.bin .Mult (.var 4) (.var 4)) (.var 4),.int 8|1]),.set 6 (.bin .Add (.int 1) (.bin .Mod (.bin .FloorDiv (.var 4) (.int 3)) (.var 2))),.set 7 (.bin .Mod (.bin .FloorDiv (.var 4) (.int 24)) (.var 6)),.own 8 (.lst .anil),.for_ (.nm 9) .rng1 %[.var 1|1] iG,.ife (.cmp .Eq (.bin .Mod (.bin .FloorDiv (.var 4) (.int 5000)) (.int 2)) (.int 1)) %[.ret (.lrv (.var 8))|2] .nil,.ret (.var 8)|2]
theorem NX:GA T2 DK gQ IM (top 43)=true:=by kernel_rfl
def nO:LS:=["_law_name","_law_m","_law_floor","_law_rank"]
def uL:LS:=["_law_name","_law_m"]
def SW:Need:=#[[],[],[]]
noncomputable def lI:PT :=
  %[.set 2 (.idx (.lst %[.int 0,.int 0,.int 0,.int 20,.int 50,.int 99|1]) (.bin .Mod (.var 1) (.int 6))),.set 3 (.idx (.lst %[.int 99,.int 50,.int 20,.int 99,.int 0,.int 50,.int 99,.int 21|1]) (.bin .Mod (.bin .FloorDiv (.var 1) (.int 6)) (.int 8))),.ret (.tup %[.var 0,.var 3,.var 2,.idx (.lst %[.int 1,.int 1,.int 1,.int 2,.int 2,.int 3|1]) (.bin .Mod (.bin .FloorDiv (.var 1) (.int 48)) (.int 6))|1])|2]
theorem IU:GA SW lI nO uL (top 44)=true:=by kernel_rfl
noncomputable def UL:LS:=["_law_matters","_law_m","_law_found","_law_j","_law_k"]
def yJ:LS:=["_law_matters","_law_m"]
def vU:Need:=#[[],[],["range","len"]]
noncomputable def eE:PT :=
  %[.set 1 (.bin .FloorDiv (.var 1) (.int 3)),.ife (.cmp .Eq (.bin .Mod (.var 1) (.int 3)) (.int 0)) %[.expr (.mt .append (.var 2) %[.tup %[.idx (.var 0) (.var 3),.idx (.var 0) (.var 4)|1]|1])|2] %[.ife (.cmp .Eq (.bin .Mod (.var 1) (.int 3)) (.int 1)) %[.expr (.mt .append (.var 2) %[.tup %[.idx (.var 0) (.var 4),.idx (.var 0) (.var 3)|1]|1])|2] .nil|2]|2]
def aE:PT :=
  %[.for_ (.nm 4) .rng1 %[.var 3|1] eE|2]
def ZG:PT :=
  %[.own 2 (.lst .anil),.for_ (.nm 3) .rng1 %[.bi .len %[.var 0|1]|1] aE,.ret (.var 2)|2]
theorem tS:GA vU ZG UL yJ (top 45)=true:=by kernel_rfl
noncomputable def mQ:LS:=["_law_events","_law_teller","_law_matter","_law_most","_law_told","_law_here","_law_event_here"]
noncomputable def yN:LS:=["_law_events","_law_teller","_law_matter","_law_most"]
def E2:Need:=#[[],[],["reversed","len","tuple"]]
noncomputable def yE:PT :=
  %[.ife (.and (.cmp .Eq (.idx (.var 6) (.int 0)) (.str "tell")) (.and (.cmp .Eq (.idx (.var 6) (.int 3)) (.var 5)) (.and (.cmp .Eq (.idx (.var 6) (.int 4)) (.var 2)) (.cmp .Lt (.bi .len %[.var 4|1]) (.var 3))))) %[.expr (.mt .append (.var 4) %[.idx (.var 6) (.int 2)|1]),.set 5 (.idx (.var 6) (.int 2))|2] .nil|2]
def GK:PT :=
  %[.own 4 (.lst .anil),.set 5 (.var 1),.for_ (.nm 6) .rev %[.var 0|1] yE,.ret (.bi .tuple %[.var 4|1])|2]
theorem RX:GA E2 GK mQ yN (top 46)=true:=by kernel_rfl
noncomputable def pQ:LS:=["_law_events","_law_names","_law_matters","_law_m","_law_time","_law_rest","_law_one","_law_matter","_law_word","_law_other","_law_quote_here"]
noncomputable def vN:LS:=["_law_events","_law_names","_law_matters","_law_m"]
noncomputable def v3:Need:=#[["_law_letters","_law_quote"],[],["len","tuple","range"]]
noncomputable def JF:PT :=
  %[.ret (.tup %[.str "tell",.var 4,.idx (.var 1) (.var 6),.idx (.var 1) (.var 9),.var 7,.var 8,.var 10|1])|2]
def MK:PT :=
  (.seq (.set 4 (.idx (.lst %[.bin .Mod (.bin .FloorDiv (.var 3) (.int 3)) (.int 5),.bin .Mod (.bin .FloorDiv (.var 3) (.int 3)) (.int 30),.bin .Sub (.int 999999999) (.bin .Mod (.bin .FloorDiv (.var 3) (.int 3)) (.int 4))|1]) (.bin .Mod (.var 3) (.int 3))))
  (.seq (.set 5 (.bin .FloorDiv (.var 3) (.int 40)))
  (.seq (.set 6 (.bin .Mod (.var 5) (.bi .len %[.var 1|1])))
  (.seq (.set 7 (.idx (.var 2) (.bin .Mod (.bin .FloorDiv (.var 5) (.int 7)) (.bi .len %[.var 2|1]))))
  (.seq (.set 8 (.call "_law_letters" %[.var 5,.bin .Add (.int 1) (.bin .Mod (.bin .FloorDiv (.var 5) (.int 11)) (.int 8))|1]))
  (.seq (.ife (.cmp .Eq (.bin .Mod (.bin .FloorDiv (.var 5) (.int 90)) (.int 4)) (.int 0)) %[.ret (.tup %[.str "see",.var 4,.idx (.var 1) (.var 6),.var 7,.var 8|1])|2] .nil)
  (.seq (.set 9 (.bin .Mod (.bin .Add (.bin .Add (.var 6) (.int 1)) (.bin .Mod (.bin .FloorDiv (.var 5) (.int 360)) (.bin .Sub (.bi .len %[.var 1|1]) (.int 1)))) (.bi .len %[.var 1|1])))
  (.seq (.set 10 (.call "_law_quote" %[.var 0,.idx (.var 1) (.var 6),.var 7,.bin .Mod (.bin .FloorDiv (.var 5) (.int 2500)) (.int 4)|1]))
  (.seq (.ife (.cmp .Eq (.bin .Mod (.bin .FloorDiv (.var 5) (.int 10000)) (.int 5)) (.int 0)) %[.set 10 (.bi .tuple %[.comp [] ["_law_k"] (.nm 0) .rng1 %[.bin .Add (.int 1) (.bin .Mod (.bin .FloorDiv (.var 5) (.int 2500)) (.int 3))|1] .nop (.idx (.var 2) (.bin .Mod (.bin .Add (.bin .FloorDiv (.var 6) (.int 50000)) (.bin .Mult (.int 2) (.var 0))) (.bi .len %[.var 2|1])))|1])|2] .nil)
  JF)))))))))
theorem AX:GA v3 MK pQ vN (top 47)=true:=by kernel_rfl
noncomputable def oO:LS:=["_law_cells","_law_many","_law_sums","_law_k","_law_cell"]
def bL:LS:=["_law_cells","_law_many"]
def TW:Need:=#[[],[],["range","min","len","enumerate"]]
noncomputable def iF:PT :=
  %[.six (.var 2) (.bin .Mod (.var 3) (.var 1)) (.bin .Add (.idx (.var 2) (.bin .Mod (.var 3) (.var 1))) (.var 4))|2]
def mI:PT :=
  %[.own 2 (.comp [kb,kb,kb,kf] ["_law_k"] (.nm 0) .rng1 %[.bi .min %[.var 1,.bi .len %[.var 0|1]|1]|1] .nop (.int 0)),.for_ (.tp [3,4]) .enum %[.var 0|1] iF,.ret (.var 2)|2]
theorem jV:GA TW mI oO bL (top 48)=true:=by kernel_rfl
noncomputable def fQ:LS:=["_law_script","_law_first","_law_second","_law_names","_law_matters","_law_people","_law_events","_law_k","_law_cell"]
def EM:LS:=["_law_script"]
noncomputable def O2:Need:=#[["_law_mixed","_law_cell_at","_law_words","_law_person","_law_folded","_law_event","_law_against"],[],["enumerate"]]
noncomputable def eG:PT :=
  %[.expr (.mt .append (.var 6) %[.call "_law_event" %[.var 6,.var 3,.var 4,.call "_law_mixed" %[.var 8,.bin .Add (.var 7) (.int 3)|1]|1]|1])|2]
def CK:PT :=
  %[.set 1 (.call "_law_mixed" %[.call "_law_cell_at" %[.var 0,.int 0|1],.int 1|1]),.set 2 (.call "_law_mixed" %[.call "_law_cell_at" %[.var 0,.int 1|1],.int 2|1]),.set 3 (.call "_law_words" %[.call "_law_cell_at" %[.var 0,.int 0|1],.bin .Add (.int 2) (.bin .Mod (.var 1) (.int 5)),.int 8|1]),.set 4 (.call "_law_words" %[.call "_law_cell_at" %[.var 0,.int 1|1],.bin .Add (.int 1) (.bin .Mod (.var 2) (.int 3)),.int 8|1]),.set 5 (.comp [kb,kb,kb,kb,kb,kb,kb,kf] ["_law_k","_law_name"] (.tp [0,1]) .enum %[.var 3|1] .nop (.call "_law_person" %[.var 1,.call "_law_mixed" %[.call "_law_cell_at" %[.var 2,.int 0|1],.bin .Add (.int 10) (.var 0)|1]|1])),.own 6 (.lst .anil),.for_ (.tp [7,8]) .enum %[.call "_law_folded" %[.slc (.var 0) (.int 2) .nop,.int 18|1]|1] eG,.frz [6] (.ret (.tup %[.var 5,.var 4,.call "_law_against" %[.var 4,.bin .FloorDiv (.var 2) (.int 3)|1],.var 6|1]))|2]
theorem MX:GA O2 CK fQ EM (top 49)=true:=by kernel_rfl
def cH:LS:=["_law_found","_law_due_here","_law_k"]
def vF:LS:=["_law_found","_law_due_here"]
noncomputable def x3:Need:=#[["_law_alike"],[],["isinstance","bool","str","int","tuple","list","len","range"]]
noncomputable def zE:PT :=
  %[.ife (.not (.call "_law_alike" %[.idx (.var 0) (.var 2),.idx (.var 1) (.var 2)|1])) %[.ret (.bl kb)|2] .nil|2]
def xC:PT :=
  %[.ife (.isi (.var 1) (.bty "bool" "bool")) %[.ret (.and (.isi (.var 0) (.bty "bool" "bool")) (.cmp .Eq (.var 0) (.var 1)))|2] .nil,.ife (.isi (.var 1) (.bty "str" "str")) %[.ret (.and (.isi (.var 0) (.bty "str" "str")) (.cmp .Eq (.var 0) (.var 1)))|2] .nil,.ife (.isi (.var 1) (.bty "int" "int")) %[.ret (.and (.isi (.var 0) (.bty "int" "int")) (.and (.not (.isi (.var 0) (.bty "bool" "bool"))) (.cmp .Eq (.var 0) (.var 1))))|2] .nil,.ife (.and (.isi (.var 1) (.bty "tuple" "tuple")) (.not (.isi (.var 0) (.bty "tuple" "tuple")))) %[.ret (.bl kb)|2] .nil,.ife (.and (.isi (.var 1) (.bty "list" "list")) (.not (.isi (.var 0) (.bty "list" "list")))) %[.ret (.bl kb)|2] .nil,.ife (.cmp .NotEq (.bi .len %[.var 0|1]) (.bi .len %[.var 1|1])) %[.ret (.bl kb)|2] .nil,.for_ (.nm 2) .rng1 %[.bi .len %[.var 1|1]|1] zE,.ret (.bl kf)|2]
theorem oF:GA x3 xC cH vF (top 50)=true:=by kernel_rfl
def iV:LS:=["_law_world_here","_law_steps"]
def iP:LS:=["_law_world_here"]
def r8:Need:=#[["gone"],[],["len"]]
noncomputable def uO:PT :=
  %[.set 1 (.call "gone" %[.var 0|1]),.ife (.cmp .Eq (.bi .len %[.var 1|1]) (.int 0)) %[.ret (.tup %[.lst .anil,.lst .anil|1])|2] .nil,.ret (.tup %[.idx (.idx (.var 1) (.ng 1)) (.int 2),.idx (.idx (.var 1) (.ng 1)) (.int 3)|1])|2]
theorem B4:GA r8 uO iV iP (top 51)=true:=by kernel_rfl
noncomputable def nQ:LS:=["_law_world_here","_law_m","_law_pairs_here","_law_person_here"]
def zN:LS:=["_law_world_here","_law_m"]
def j3:Need:=#[[],[],["range","min","len"]]
noncomputable def YL:PT :=
  %[.expr (.mt .extend (.var 2) %[.comp [] ["_law_matter"] (.nm 0) .val %[.idx (.var 0) (.int 1)|1] .nop (.tup %[.idx (.var 4) (.int 0),.var 0|1])|1])|2]
def HK:PT :=
  %[.own 2 (.lst .anil),.for_ (.nm 3) .val %[.idx (.var 0) (.int 0)|1] YL,.ret (.comp [] ["_law_k"] (.nm 0) .rng1 %[.bi .min %[.int 3,.bi .len %[.var 2|1]|1]|1] .nop (.idx (.var 3) (.bin .Mod (.bin .Add (.var 2) (.bin .Mult (.int 7) (.var 0))) (.bi .len %[.var 3|1]))))|2]
theorem SX:GA j3 HK nQ zN (top 52)=true:=by kernel_rfl
noncomputable def Z0:LS:=["_law_world_here","_law_live","_law_name","_law_matter","_law_rows","_law_number","_law_event_here"]
noncomputable def KT:LS:=["_law_world_here","_law_live","_law_name","_law_matter"]
def Ye:Need:=#[[],[],["enumerate","sorted"]]
noncomputable def JC:PT :=
  %[.ife (.and (.cmp .Eq (.idx (.var 6) (.int 0)) (.str "tell")) (.and (.cmp .Eq (.idx (.var 6) (.int 3)) (.var 2)) (.and (.cmp .Eq (.idx (.var 6) (.int 4)) (.var 3)) (.cmp .In (.var 5) (.var 1))))) %[.expr (.mt .append (.var 4) %[.tup %[.idx (.var 6) (.int 1),.var 5,.idx (.var 6) (.int 5)|1]|1])|2] .nil|2]
def bH:PT :=
  (.seq (.ife (.and (.cmp .Eq (.idx (.var 6) (.int 0)) (.str "see")) (.and (.cmp .Eq (.idx (.var 6) (.int 2)) (.var 2)) (.cmp .Eq (.idx (.var 6) (.int 3)) (.var 3)))) %[.expr (.mt .append (.var 4) %[.tup %[.idx (.var 6) (.int 1),.var 5,.idx (.var 6) (.int 4)|1]|1])|2] .nil)
  JC)
def eS:PT :=
  %[.own 4 (.lst .anil),.for_ (.tp [5,6]) .enum %[.idx (.var 0) (.int 3)|1] bH,.ret (.comp [] ["_law_row"] (.nm 0) .val %[.bi .sorted %[.var 4|1]|1] .nop (.tup %[.idx (.var 0) (.int 1),.idx (.var 0) (.int 2)|1]))|2]
theorem ya:GA Ye eS Z0 KT (top 53)=true:=by kernel_rfl
noncomputable def Ii:LS:=["_law_script","_law_world_here","_law_live","_law_held","_law_name","_law_matter","_law_due_here","_law_found"]
def z7:LS:=["_law_script"]
noncomputable def Ms:Need:=#[["_law_world","_law_last","_law_pairs","_law_mixed","_law_cell_at","_law_due","wordings_of","_law_alike"],[],[]]
noncomputable def fM:PT :=
  %[.set 6 (.call "_law_due" %[.var 1,.var 2,.var 4,.var 5|1]),.own 7 (.call "wordings_of" %[.var 1,.var 4,.var 5|1]),.ife (.not (.call "_law_alike" %[.var 7,.var 6|1])) %[.ret (.bl kb)|2] .nil,.expr (.mt .reverse (.var 7) .anil),.ife (.not (.call "_law_alike" %[.call "wordings_of" %[.var 1,.var 4,.var 5|1],.var 6|1])) %[.ret (.bl kb)|2] .nil|2]
def Ka:PT :=
  %[.set 1 (.call "_law_world" %[.var 0|1]),.tset [2,3] (.call "_law_last" %[.var 1|1]),.for_ (.tp [4,5]) .val %[.call "_law_pairs" %[.var 1,.call "_law_mixed" %[.call "_law_cell_at" %[.var 0,.int 1|1],.int 91|1]|1]|1] fM,.ret (.cmp .Eq (.var 1) (.call "_law_world" %[.var 0|1]))|2]
theorem fo:GA Ms Ka Ii z7 (top 54)=true:=by kernel_rfl
theorem iK(a b:Str):Ql (.str a) (.str b)=decide (a=b):=by rw[Qz,o2];simp[Ql]
theorem lM(l:LS)(z:Str):((l.map j0).any λy=>Ql y (.str z))=decide (z∈l):=by rw[QBU,Qz,wx,o2];constructor;rintro⟨x,u,e⟩;have e:Ql (.str x) (.str z)=true:=e;rw[iK,o2]at e;exact e▸u;intro h;exact#[z,h,by show Ql (.str z) (.str z)=kf;rw[iK];exact dT rfl]
theorem sJ(l:LS):(l.map j0).all rB=true:=by rw[List.all_map,qA];exact λ_ _=>rfl
noncomputable def uf(g:Str)(cut:LS)(s:Str):Bool:=!decide (s=g)&&!decide (s∈cut)
inductive Led(es:NC)(st:LS)(g:Str)(cut:LS):Str->Prop
 |st {s:Str}:s∈st->uf g cut s=kf->Led es st g cut s
 |ed {a b:Str}:Led es st g cut a->(a,b)∈es->uf g cut b=kf->Led es st g cut b
theorem JR:∀{ks ns:LS},ks.Nodup->(∀s∈ks,s∈ns)->ks.9<=ns.9
 |[],_,_,_=>Qt _|s::r,ns,h,hs=>by let#[u,z]:=Qk.mp h;have hm:=hs s QF;have:=JR (ks:=r) (ns:=ns.erase s) z λx y=>(QBh (λ(e:x=s)=>u (e▸y))).mpr (hs x (QE _ y));rw[QAs hm]at this;have k:=QBG hm;rw[QO];omega
def one(y:Str):Prop:=∃c,c<128/\y=#[(Q3 [c])]
def pr(p:Str×Str):D:=.tuple [.str p.1,.str p.2]
theorem RZ{α h:Type}(f:α->h)(l:List α)(a b:Option Int):pH (l.map f) a b=(pH l a b).map f:=by unfold pH;rw[QD,List.map_take,List.map_drop]
noncomputable abbrev Pt:=Str×Str
theorem xR(h:pr p=pr q):p=q:=by let#[a,b]:=p;let#[c,d]:=q;injection h with h;injection h with h1 h;injection h with h2 _;injection h1 with h1;injection h2 with h2;exact QCi h1 h2
theorem U9{x k:D}{r:List D}(h:x≠k):cA (x::r) k=(cA r k).map (·+1):=by unfold cA;rw[ii h];cases r<;>rfl
theorem Yh{x k:D}{r:List D}(h:x=k):cA (x::r) k=jr 0:=by unfold cA;rw[i0 h]
noncomputable def look{α:Type}:List (Pt×α)->Pt->Option α
 |[],_=>kv|e::l,p=>if e.1=p then jr e.2 else look l p
noncomputable def put{α:Type}:List (Pt×α)->Pt->α->List (Pt×α)
 |[],p,v=>[(p,v)]|e::l,p,v=>if e.1=p then(e.1,v)::l else e::put l p v
def GC{α:Type}(l:List (Pt×α)):List D:=l.map λe=>pr e.1
theorem aK{α:Type}{p:Pt}:∀{l:List (Pt×α)},look l p=kv->cA (GC l) (pr p)=kv/\∀w,put l p w=l++[(p,w)]
 |[],_=>#[rfl,λ_=>rfl]|e::l,h=>by unfold look at h;by_cases c:e.1=p;rw[i0 c]at h;cases h;rw[ii c]at h;let#[y,x]:=aK h;refine#[?_,λw=>?_];show cA (pr e.1::GC l) (pr p)=kv;rw[U9 (λz=>c (xR z)),y];rfl;show(if e.1=p then(e.1,w)::l else e::put l p w)=_;rw[ii c,x];rfl
theorem iC{α:Type}{p:Pt}{v:α}(f:α->T):∀{l:List (Pt×α)},look l p=jr v->∃n,cA (GC l) (pr p)=jr n/\(l.map λe=>f e.2)[n]?=jr (f v)/\∀w,GC (put l p w)=GC l/\(l.map λe=>f e.2).set n (f w)=(put l p w).map λe=>f e.2
 |[],h=>by cases h|e::l,h=>by unfold look at h;by_cases c:e.1=p;rw[i0 c]at h;injection h with h;refine#[0,?_,?_,λw=>?_];exact Yh (o9 pr c);show jr (f e.2)=_;rw[h];have:put (e::l) p w=(e.1,w)::l:=i0 c;rw[this];exact#[rfl,rfl];rw[ii c]at h;let#[n,i,k,u]:=iC f h;refine#[n+1,?_,k,λw=>?_];show cA (pr e.1::GC l) (pr p)=jr (n+1);rw[U9 (λz=>c (xR z)),i];rfl;have:put (e::l) p w=e::put l p w:=ii c;rw[this];let#[y,x]:=u w;refine#[?_,?_];show pr e.1::GC (put l p w)=pr e.1::GC l;rw[y];show f e.2::(l.map λe=>f e.2).set n (f w)=f e.2::(put l p w).map λe=>f e.2;rw[x]
theorem sD{α:Type}{p q:Pt}{w:α}:∀{l:List (Pt×α)},look (put l p w) q=if p=q then jr w else look l q
 |[]=>rfl|e::l=>by
  by_cases c:e.1=p;have h:put (e::l) p w=(e.1,w)::l:=i0 c;rw[h];show(if e.1=q then jr w else look l q)=if p=q then jr w else(if e.1=q then jr e.2 else look l q)
  rw[c];split<;>rfl;have h:put (e::l) p w=e::put l p w:=ii c;rw[h];show(if e.1=q then jr e.2 else look (put l p w) q)=if p=q then jr w else(if e.1=q then jr e.2 else look l q)
  rw[sD];by_cases d:e.1=q;rw[i0 d,i0 d,ii (λz=>c (d.trans z.symm))];rw[ii d,ii d]
theorem RY{α:Type}{p:Pt}{w:α}:∀{l:List (Pt×α)},(put l p w).9<=l.9+1
 |[]=>QT _|e::l=>by by_cases c:e.1=p;rw[show put (e::l) p w=(e.1,w)::l from i0 c,QO,QO];omega;have:=RY (p:=p) (w:=w) (l:=l);rw[show put (e::l) p w=e::put l p w from ii c,QO,QO];omega
theorem EB(p:Pt):aD kf (pr p):=#[[.s p.1,.s p.2],rfl,by simp[d8,nkds]]
noncomputable abbrev Inn:=List (Pt×Int)
noncomputable abbrev Rm:=List (Pt×Inn)
noncomputable def eD(l:Inn):T:=.dct kf (GC l) (l.map λe=>T.d (.int e.2))
def cB(r:Rm):T:=.dct kf (GC r) (r.map λe=>eD e.2)
def sdf(r:Rm)(p:Pt):Rm:=match look r p with
 |some _=>r|none=>r++[(p,[])]
theorem GY(hl:r.9<kt)(q:Q (cB (sdf r p))):Rq (.d (pr p)) (cB r) Q:=by
 refine#[GC r,_,rfl,EB p,by unfold GC;rw[QD];exact hl,?_];unfold sdf at q;cases h:look r p with
 |some v=>rw[h]at q;let#[n,x,_]:=iC eD h;exact .inl #[n,x,q]|none =>
  rw[h]at q;refine .inr #[(aK h).1,?_];have e:cB (r++[(p,[])])=.dct kf (GC r++[pr p]) ((r.map λe=>eD e.2)++[.dct kf [] []]):=by unfold cB GC;rw[QM,QM];rfl
  show Q (T.dct kf (GC r++[pr p]) ((r.map λe=>eD e.2)++[.dct kf [] []]));rw[<- e];exact q
theorem JQ(hl:l.9<kt)(q:Q (eD (put l p v))):Vg (eD l) (.d (pr p)) (.d (.int v)) Q:=by
 refine#[EB p,by unfold GC;rw[QD];exact hl,?_];have e:cK kf (GC l) (l.map λe=>T.d (.int e.2)) (pr p) (.d (.int v))=eD (put l p v):=by
  unfold cK;cases h:look l p with|none=>let#[x,y]:=aK h;rw[x,y];unfold eD GC;rw[QM,QM];rfl|some u=>let#[n,x,y,f]:=iC (λi:Int=>T.d (.int i)) h;rw[x];let#[k,z]:=f v;show T.dct kf (GC l) ((l.map λe=>T.d (.int e.2)).set n (T.d (.int v)))=_;unfold eD;rw[k,z]
 show Q (cK kf (GC l) (l.map λe=>T.d (.int e.2)) (pr p) (.d (.int v)));rw[e];exact q
theorem YI{Q:T->(T->T)->Prop}(h:look r p=jr l)(q:∀f:T->T,(∀x,f (eD x)=cB (put r p x))->Q (eD l) f):Cq (.d (pr p)) (cB r) Q:=by let#[n,i,k,u]:=iC eD h;refine#[kf,GC r,_,n,eD l,rfl,EB p,i,k,q _ λx=>?_];let#[z,y]:=u x;show T.dct kf (GC r) ((r.map λe=>eD e.2).set n (eD x))=_;unfold cB;rw[z,y]
def UA:Pt:=("","begin")
def tO(n:Str):Pt:=(n,"to")
def fR(n:Str):Pt:=(n,"from")
theorem Bx:("begin":Str)≠"to":=by decide +kernel
theorem Dx:("begin":Str)≠"from":=by decide +kernel
theorem Ux:("to":Str)≠"from":=by decide +kernel
theorem AB:UA≠tO a:=λh=>Bx (o9 QBa h)
theorem OE:UA≠fR a:=λh=>Dx (o9 QBa h)
theorem RA:tO a≠fR b:=λh=>Ux (o9 QBa h)
theorem FB(h:tO a=tO b):a=b:=o9 qp h
theorem uI(h:fR a=fR b):a=b:=o9 qp h
def n5(p q:Pt):Prop:=(p=UA/\∃n,q=tO n)∨(∃n,p=tO n/\q=fR n)∨(∃a b,a≠b/\p=fR a/\q=tO b)
theorem mF(h:n5 p q):¬ n5 q p:=by
 rintro k;rcases h with⟨rfl,n,rfl⟩| ⟨n,rfl,rfl⟩| ⟨a,b,u,rfl,rfl⟩<;>rcases k with⟨x,m,y⟩| ⟨m,x,y⟩| ⟨c,d,z,x,y⟩
 exact AB x.symm;exact OE y;exact RA x;exact OE x.symm;exact RA x.symm;exact z ((uI x).symm.trans (FB y));exact AB x.symm;exact u ((uI y).trans (FB x).symm);exact RA x
theorem fG(h:n5 p q):p≠q:=λe=>mF h (by rw[e]at h ⊢;exact h)
noncomputable abbrev Wy:=Pt×Pt×Int
def lk(r:Rm)(p:Pt):Inn:=(look r p).getD []
def ZB(r:Rm)(w:Wy):Rm:=put (put (sdf (sdf r w.1) w.2.1) w.1 (put (lk (sdf (sdf r w.1) w.2.1) w.1) w.2.1 w.2.2)) w.2.1 (put (lk (put (sdf (sdf r w.1) w.2.1) w.1 (put (lk (sdf (sdf r w.1) w.2.1) w.1) w.2.1 w.2.2)) w.2.1) w.1 0)
theorem cU{α:Type}{p q:Pt}{v:α}:∀{l:List (Pt×α)},look (l++[(p,v)]) q=(look l q).or (if p=q then jr v else kv)
 |[]=>rfl|e::l=>by show(if e.1=q then jr e.2 else look (l++[(p,v)]) q)=(if e.1=q then jr e.2 else look l q).or (if p=q then jr v else kv);by_cases c:e.1=q;rw[i0 c,i0 c];rfl;rw[ii c,ii c];exact cU
theorem bU:look (sdf r p) q=(look r q).or (if p=q then jr [] else kv):=by
 unfold sdf;cases h:look r p with
 |some v =>
  show look r q=_;cases y:look r q with
  |some x=>rfl|none =>
   show kv=if p=q then jr [] else kv
   rw[ii];intro e;rw[e,y]at h;cases h
 |none=>show look (r++[(p,[])]) q=_;exact cU
theorem PQ:(sdf r p).9<=r.9+1:=by unfold sdf;split;omega;rw[QI,qL];omega
theorem SI{α:Type}{p:Pt}{w:α}{e:Pt×α}:∀{l:List (Pt×α)},e∈put l p w->e=(p,w)∨e∈l
 |[],h=>.inl (QJ.mp h)|x::l,h=>by by_cases c:x.1=p;rw[show put (x::l) p w=(x.1,w)::l from i0 c]at h;rcases QL.mp h with h|h;exact .inl (by rw[h,c]);exact .inr (QE _ h);rw[show put (x::l) p w=x::put l p w from ii c]at h;rcases QL.mp h with h|h;exact .inr (by rw[h];exact QF);exact(SI h).imp_right (QE _)
theorem zR{α:Type}{p:Pt}{w:α}{q:Pt}:∀{l:List (Pt×α)},(∃v,(q,v)∈put l p w)↔q=p∨∃v,(q,v)∈l
 |[]=>by
  constructor;rintro⟨v,h⟩;exact .inl (o9 qp (QJ.mp h));rintro(rfl|⟨v,h⟩)
  ·exact#[w,QJ.mpr rfl]
  exact(nomatch h)
 |x::l=>by
  by_cases c:x.1=p;rw[show put (x::l) p w=(x.1,w)::l from i0 c];constructor;rintro⟨v,h⟩;rcases QL.mp h with h|h;exact .inl ((o9 qp h).trans c);exact .inr #[v,QE _ h];rintro(rfl|⟨v,h⟩)
  ·exact#[w,by rw[c];exact QF]
  rcases QL.mp h with h|h
  ·exact#[w,by rw[<- h];exact QF]
  exact#[v,QE _ h];rw[show put (x::l) p w=x::put l p w from ii c];have y:=zR (p:=p) (w:=w) (q:=q) (l:=l);constructor;rintro⟨v,h⟩;rcases QL.mp h with h|h;exact .inr #[v,by rw[h];exact QF];exact(y.mp #[v,h]).imp_right λ#[v,h]=>#[v,QE _ h]
  rintro(h|⟨v,h⟩)
  ·let#[v,h]:=y.mpr (.inl h)
   exact#[v,QE _ h]
  rcases QL.mp h with h|h
  ·exact#[v,by rw[h];exact QF]
  let#[v,h]:=y.mpr (.inr #[v,h]);exact#[v,QE _ h]
def t5(r:Rm)(p q:Pt):Prop:=∃v,(q,v)∈lk r p
def Key(r:Rm)(p:Pt):Prop:=∃l,look r p=jr l
def Pos(r:Rm):Prop:=∀p,∀e∈lk r p,(0<e.2↔n5 p e.1)
def Ub(r:Rm):Prop:=∀p q,t5 r p q->Key r q
def Sz(r:Rm)(n:Nat):Prop:=r.9<=n/\∀p,(lk r p).9<=n
theorem fE:lk (put r p l) q=if p=q then l else lk r q:=by unfold lk;rw[sD];split<;>rfl
theorem dE:lk (sdf r p) q=lk r q:=by
 unfold lk;rw[bU];cases look r q with|some x=>rfl|none=>show(if p=q then jr [] else kv).getD []=[];split<;>rfl
theorem mJ:Key (put r p l) q↔p=q∨Key r q:=by unfold Key;rw[sD];by_cases h:p=q;rw[i0 h];exact#[λ_=>.inl h,λ_=>#[_,rfl]];rw[ii h];exact#[.inr,λz=>z.resolve_left h]
theorem AD:Key (sdf r p) q↔p=q∨Key r q:=by
 unfold Key;rw[bU];cases look r q with|some x=>exact#[λ_=>.inr #[_,rfl],λ_=>#[_,rfl]]|none=>show(∃l,(if p=q then jr [] else kv)=jr l)↔_;by_cases h:p=q;rw[i0 h];exact#[λ_=>.inl h,λ_=>#[_,rfl]];rw[ii h];exact#[λ#[_,e]=>(nomatch e),λz=>(z.resolve_left h)]
theorem gJ(h:w.1≠w.2.1)(p:Pt):lk (ZB r w) p=if w.2.1=p then put (lk r p) w.1 0 else if w.1=p then put (lk r p) w.2.1 w.2.2 else lk r p:=by unfold ZB;rw[fE,fE,fE,dE,dE,dE,dE,ii h,dE,dE];by_cases y:w.2.1=p;rw[i0 y,i0 y,y];rw[ii y,ii y];by_cases x:w.1=p;rw[i0 x,i0 x,x];rw[ii x,ii x]
theorem hG:Key (ZB r w) p↔p=w.1∨p=w.2.1∨Key r p:=by
 unfold ZB;rw[mJ,mJ,AD,AD];constructor;rintro(h|h|h|h|h)
 ·exact .inr (.inl h.symm)
 exact .inl h.symm;exact .inr (.inl h.symm);exact .inl h.symm;exact .inr (.inr h);rintro(h|h|h)
 ·exact .inr (.inl h.symm)
 exact .inl h.symm;exact .inr (.inr (.inr (.inr h)))
theorem eJ(h:w.1≠w.2.1):t5 (ZB r w) p q↔t5 r p q∨(p=w.1/\q=w.2.1)∨(p=w.2.1/\q=w.1):=by
 unfold t5;rw[gJ h];by_cases x:w.2.1=p;rw[i0 x,zR];constructor;rintro(e|e)
 ·exact .inr (.inr #[x.symm,e])
 exact .inl e;rintro(e|⟨u,y⟩| ⟨u,y⟩)
 ·exact .inr e
 exact i2 (u.symm.trans x.symm) h;exact .inl y;rw[ii x];by_cases k:w.1=p;rw[i0 k,zR];constructor;rintro(e|e)
 ·exact .inr (.inl #[k.symm,e])
 exact .inl e;rintro(e|⟨u,y⟩| ⟨u,y⟩)
 ·exact .inr e
 exact .inl y;exact i2 u.symm x;rw[ii k];exact#[.inl,λz=>z.elim id λz=>z.elim (λe=>i2 e.1.symm k) λe=>i2 e.1.symm x]
def DG(w:Wy):Prop:=n5 w.1 w.2.1/\0<w.2.2
theorem u7(g:DG w)(y:Pos r):Pos (ZB r w):=by intro p e h;rw[gJ (fG g.1)]at h;by_cases k:w.2.1=p;rw[i0 k]at h;rcases SI h with z|z;rw[z,<- k];exact#[λx=>i2 x (ww 0),λx=>i2 x (mF g.1)];exact y p e z;rw[ii k]at h;by_cases u:w.1=p;rw[i0 u]at h;rcases SI h with z|z;rw[z,<- u];exact#[λ_=>g.1,λ_=>g.2];exact y p e z;rw[ii u]at h;exact y p e h
theorem M9(g:DG w)(x:Ub r):Ub (ZB r w):=by
 intro p q h;rw[hG];rcases(eJ (fG g.1)).mp h with h|⟨_,h⟩| ⟨_,h⟩
 exact .inr (.inr (x p q h));exact .inr (.inl h);exact .inl h
theorem NM{α:Type}{w:α}{l:List (Pt×α)}{n:Nat}(h:l.9<=n):(put l p w).9<=n+1:=QU RY ()
theorem kR{α:Type}{p:Pt}{w:α}:∀{l:List (Pt×α)},(look l p).isSome=kf->(put l p w).9=l.9
 |[],h=>by cases h|e::l,h=>by by_cases c:e.1=p;rw[show put (e::l) p w=(e.1,w)::l from i0 c];rfl;rw[show put (e::l) p w=e::put l p w from ii c,QO,QO];rw[show look (e::l) p=look l p from ii c]at h;rw[kR h]
theorem pU(h:Key r p):(look r p).isSome=true:=by let#[l,e]:=h;rw[e];rfl
theorem M8:(ZB r w).9<=r.9+2:=by have x:Key (sdf (sdf r w.1) w.2.1) w.1:=AD.mpr (.inr (AD.mpr (.inl rfl)));have h:Key (sdf (sdf r w.1) w.2.1) w.2.1:=AD.mpr (.inl rfl);unfold ZB;rw[kR (pU (mJ.mpr (.inr h))),kR (pU x)];have:=PQ (r:=r) (p:=w.1);have:=PQ (r:=sdf r w.1) (p:=w.2.1);omega
theorem JI{n:Nat}(g:w.1≠w.2.1)(h:Sz r n):Sz (ZB r w) (n+2):=by
 refine#[QU M8 (by have:=h.1;omega),λp=>?_];rw[gJ g];have x:=h.2 p;split;exact QU (NM x) ();split
 ·exact QU (NM x) ()
 omega
theorem MZ:∀{ws:List Wy}{r:Rm},(∀w∈ws,DG w)->∀{p q:Pt},t5 (ws.foldl ZB r) p q↔t5 r p q∨(∃v,(p,q,v)∈ws)∨∃v,(q,p,v)∈ws
 |[],r,_,p,q=>#[.inl,λz=>z.elim id λz=>z.elim (λ#[_,z]=>(nomatch z)) λ#[_,z]=>(nomatch z)]
 |w::ws,r,h,p,q=>by
  rw[QAK,MZ (λw x=>h w (QE _ x)),eJ (fG (h w QF).1)];constructor;rintro((z|⟨rfl,rfl⟩| ⟨rfl,rfl⟩)|⟨v,z⟩| ⟨v,z⟩)
  ·exact .inl z
  exact .inr (.inl #[_,QF]);exact .inr (.inr #[_,QF]);exact .inr (.inl #[v,QE _ z]);exact .inr (.inr #[v,QE _ z]);rintro(z|⟨v,z⟩| ⟨v,z⟩)
  ·exact .inl (.inl z)
  rcases QL.mp z with z|z
  ·rw[<- z]
   exact .inl (.inr (.inl #[rfl,rfl]))
  exact .inr (.inl #[v,z]);rcases QL.mp z with z|z
  ·rw[<- z]
   exact .inl (.inr (.inr #[rfl,rfl]))
  exact .inr (.inr #[v,z])
theorem sV:∀{ws:List Wy}{r:Rm}{n:Nat},(∀w∈ws,DG w)->Pos r->Ub r->Key r UA->Sz r n->Pos (ws.foldl ZB r)/\Ub (ws.foldl ZB r)/\Key (ws.foldl ZB r) UA/\Sz (ws.foldl ZB r) (n+2 * ws.length)
 |[],r,n,_,h1,h2,h3,h4=>#[h1,h2,h3,h4]|w::ws,r,n,h,h1,h2,h3,h4=>by have g:=h w QF;have:=sV (ws:=ws) (r:=ZB r w) (n:=n+2) (λw x=>h w (QE _ x)) (u7 g h1) (M9 g h2) (hG.mpr (.inr (.inr h3))) (JI (fG g.1) h4);rw[QAK,QO,show n+2 * (ws.length+1)=n+2+2 * ws.length by omega];exact this
noncomputable def CS(g:Str)(n:Str):List Wy:=if n=g then[] else[(tO n,fR n,1),(UA,tO n,2)]
noncomputable def FV(g:Str)(e:Str×Str):List Wy:=if e.1=g∨e.1=e.2 then[] else[(tO e.1,fR e.1,1),(tO e.2,fR e.2,1),(fR e.1,tO e.2,2)]
def tH:Rm:=[(UA,[])]
def yA(es:NC)(st:LS)(g:Str):Rm:=(es.flatMap (FV g)).foldl ZB ((st.flatMap (CS g)).foldl ZB tH)
theorem iw:(0:Int)<1:=by decide
theorem jAF:(0:Int)<2:=by decide
theorem rY:(CS g n).9<=2:=by unfold CS;split;exact Qt _;exact QT _
theorem sY:(FV g e).9<=3:=by unfold FV;split;exact Qt _;exact QT _
theorem oM:∀w∈CS g n,DG w:=by
 intro w h;unfold CS at h;split at h;exact(nomatch h);rcases QL.mp h with rfl|h
 ·exact#[.inr (.inl #[n,rfl,rfl]),iw]
 rw[QJ.mp h];exact#[.inl #[rfl,n,rfl],jAF]
theorem pM:∀w∈FV g e,DG w:=by
 intro w x;unfold FV at x;split at x;exact(nomatch x);rename_i h;rcases QL.mp x with rfl|x;exact#[.inr (.inl #[e.1,rfl,rfl]),iw];rcases QL.mp x with rfl|x
 ·exact#[.inr (.inl #[e.2,rfl,rfl]),iw]
 rw[QJ.mp x];exact#[.inr (.inr #[e.1,e.2,λz=>h (.inr z),rfl,rfl]),jAF]
theorem MN{α:Type}{f:α->List Wy}{k:Nat}(h:∀x,(f x).9<=k):∀(l:List α),(l.flatMap f).9<=k * l.9
 |[]=>QT _|x::l=>by have:=MN h l;have:=h x;rw[QAt,QI,QO,Nat.mul_succ];omega
theorem xH{α:Type}{f:α->List Wy}(h:∀x,∀w∈f x,DG w)(l:List α):∀w∈l.flatMap f,DG w:=λw z=>by let#[x,_,y]:=WO.mp z;exact h x w y
structure RmOk(r:Rm)(n:Nat):Prop where
 pos:Pos r
 dom:Ub r
 bg:Key r UA
 sz:Sz r n
theorem FE:RmOk tH 1:=by
 have e:∀p,lk tH p=[]:=λp=>by show(if UA=p then jr [] else kv).getD []=[];split<;>rfl
 refine#[λp y x=>?_,λp q #[v,h]=>?_,#[[],i0 rfl],QT _,λp=>?_];rw[e]at x;exact(nomatch x);rw[e]at h;exact(nomatch h);rw[e];exact Qt _
theorem RmOk.add{r:Rm}{n:Nat}(h:RmOk r n){ws:List Wy}(g:∀w∈ws,DG w):RmOk (ws.foldl ZB r) (n+2 * ws.length):=by let#[u,z,y,x]:=sV g h.pos h.dom h.bg h.sz;exact#[u,z,y,x]
theorem MT{es:NC}{st:LS}(z:es.9<=126)(y:st.9<=11):RmOk (yA es st g) 1000:=by have a:=(FE.add (xH (f:=CS g) (λ_=>oM) st)).add (xH (f:=FV g) (λ_=>pM) es);have x:=MN (f:=CS g) (k:=2) (λ_=>rY) st;have h:=MN (f:=FV g) (k:=3) (λ_=>sY) es;exact#[a.pos,a.dom,a.bg,QU a.sz.1 (),λp=>QU (a.sz.2 p) ()]
def yi(r:Rm)(p q:Pt):Prop:=∃v,(q,v)∈lk r p/\0<v
inductive Rch(r:Rm):Pt->Prop
 |bg:Rch r UA
 |go {p q:Pt}:Rch r p->yi r p q->Rch r q
theorem Nt:(p,q,v)∈CS g n↔n≠g/\((p,q,v)=(tO n,fR n,1)∨(p,q,v)=(UA,tO n,2)):=by unfold CS;split;rename_i h;exact#[λz=>(nomatch z),λz=>i2 h z.1];rename_i h;rw[QL,QJ];exact#[λz=>#[h,z],λz=>z.2]
theorem Ot:(p,q,v)∈FV g e↔(e.1≠g/\e.1≠e.2)/\((p,q,v)=(tO e.1,fR e.1,1)∨(p,q,v)=(tO e.2,fR e.2,1)∨(p,q,v)=(fR e.1,tO e.2,2)):=by unfold FV;split;rename_i h;exact#[λz=>(nomatch z),λz=>h.elim (λh=>i2 h z.1.1) λh=>i2 h z.1.2];rename_i h;rw[QL,QL,QJ];exact#[λz=>#[#[λe=>h (.inl e),λe=>h (.inr e)],z],λz=>z.2]
theorem ME{cut:LS}{s:Str}:uf g cut s=kf↔s≠g/\s∉cut:=by unfold uf;rw[Qa,qE,qE,decide_eq_false_iff_not,decide_eq_false_iff_not]
end
section
variable{es:NC}{st:LS}{g:Str}{x:LS}
theorem VN{s:Str}(h:Led es st g x s):s≠g/\s∉x:=by
 cases h with|st _ h=>exact ME.mp h|ed _ _ h=>exact ME.mp h
end
section
variable{r:Rm}{ks:List Pt}{vs:List D}
theorem y6:∀{ws:List Wy}{r:Rm}{n:Nat},(∀w∈ws,DG w)->Sz r n->Sz (ws.foldl ZB r) (n+2 * ws.length)
 |[],r,n,_,h4=>h4|w::ws,r,n,h,h4=>by have:=y6 (ws:=ws) (r:=ZB r w) (n:=n+2) (λw x=>h w (QE _ x)) (JI (fG (h w QF).1) h4);rw[QAK,QO,show n+2 * (ws.length+1)=n+2+2 * ws.length by omega];exact this
inductive CF(r:Rm):List Pt->List D->Prop
 |bg:CF r [UA] [.none]
 |add {ks:List Pt}{vs:List D}{p q:Pt}:CF r ks vs->p∈ks->yi r p q->q∉ks->CF r (ks++[q]) (vs++[pr p])
theorem CF.len(h:CF r ks vs):vs.9=ks.length:=by
 induction h with|bg=>rfl|add _ _ _ _ x=>rw[QI,QI,x];rfl
theorem CF.hb(h:CF r ks vs):UA∈ks:=by
 induction h with|bg=>exact QF|add _ _ _ _ x=>exact Qm _ x
theorem CF.rch(h:CF r ks vs):∀k∈ks,Rch r k:=by
 induction h with|bg=>intro k hk;rw[QJ.mp hk];exact .bg|add _ y w _ x=>intro k hk;rcases Qh.mp hk with z|z;exact x k z;rw[QJ.mp z];exact .go (x _ y) w
theorem CF.nd(h:CF r ks vs):ks.Nodup:=by
 induction h with
 |bg=>exact Qk.mpr #[λz=>(nomatch z),Q7]
 |add _ _ _ n x=>refine qy.mpr #[x,Qk.mpr #[λz=>(nomatch z),Q7],λa y b hb z=>?_];rw[QJ.mp hb]at z;exact n (z▸y)
theorem OI(x:Ub r)(hb:Key r UA){p:Pt}(h:Rch r p):Key r p:=by
 cases h with|bg=>exact hb|go _ w=>let#[v,m,_]:=w;exact x _ _ #[v,m]
theorem OR{p:Pt}{l:Inn}:∀{r:Rm},look r p=jr l->p∈r.map (·.1)
 |[],h=>by cases h|e::r,h=>by by_cases c:e.1=p;rw[<- c];exact QF;rw[show look (e::r) p=look r p from ii c]at h;exact QE _ (OR (r:=r) h)
theorem jH:∀{ks ns:List Pt},ks.Nodup->(∀s∈ks,s∈ns)->ks.9<=ns.9
 |[],_,_,_=>Qt _|s::r,ns,h,hs=>by let#[u,z]:=Qk.mp h;have hm:=hs s QF;have:=jH (ks:=r) (ns:=ns.erase s) z λx y=>(QBh (λ(e:x=s)=>u (e▸y))).mpr (hs x (QE _ y));rw[QAs hm]at this;have v:=QBG hm;rw[QO];omega
theorem CF.le(x:Ub r)(hb:Key r UA)(h:CF r ks vs):ks.9<=r.length:=by
 have:=jH (ns:=r.map (·.1)) h.nd λs hs=>by let#[l,e]:=OI x hb (h.rch s hs);exact OR e
 rw[QD]at this;exact this
structure Srch(r:Rm)(ks:List Pt)(vs:List D)(ws:List Pt):Prop where
 cf:CF r ks vs
 sub:∀w∈ws,w∈ks
 clo:∀k∈ks,k∉ws->∀q,yi r k q->q∈ks
structure Srch1(r:Rm)(here:Pt)(ks:List Pt)(vs:List D)(ws:List Pt)(l:Inn):Prop where
 cf:CF r ks vs
 sub:∀w∈ws,w∈ks
 clo:∀k∈ks,k∉ws->k≠here->∀q,yi r k q->q∈ks
 her:here∈ks
 don:∀e∈lk r here,0<e.2->e.1∈ks∨e∈l
 all:∀e∈l,e∈lk r here
end
section
variable{r:Rm}{ks ws:List Pt}{vs:List D}
theorem Lq:Srch r [UA] [.none] [UA]:=#[.bg,λ_ h=>h,λk h n=>i2 h n]
theorem Srch.pop{w:Pt}(h:Srch r ks vs (w::ws)):Srch1 r w ks vs ws (lk r w):=by refine#[h.cf,λx v=>h.sub x (QE _ v),λk hk n u=>h.clo k hk λz=>?_,h.sub w QF,λe y _=>.inr y,λe y=>y];rcases QL.mp z with z|z;exact u z;exact n z
theorem Srch1.skip{y:Pt}{e:Pt×Int}{l:Inn}(h:Srch1 r y ks vs ws (e::l))(c:0<e.2->e.1∈ks):Srch1 r y ks vs ws l:=by
 refine#[h.cf,h.sub,h.clo,h.her,λx u p=>?_,λx u=>h.all x (QE _ u)];rcases h.don x u p with z|z;exact .inl z;rcases QL.mp z with z|z
 ·rw[z]at p ⊢;exact .inl (c p)
 exact .inr z
theorem Srch1.add{u:Pt}{e:Pt×Int}{l:Inn}(h:Srch1 r u ks vs ws (e::l))(c:0<e.2)(n:e.1∉ks):Srch1 r u (ks++[e.1]) (vs++[pr u]) (ws++[e.1]) l:=by
 have f:=h.all e QF;refine#[h.cf.add h.her #[e.2,f,c] n,λx v=>?_,λk hk a b q w=>?_,Qm _ h.her,λx v p=>?_,λx v=>h.all x (QE _ v)];rcases Qh.mp v with z|z
 ·exact Qm _ (h.sub x z)
 exact QY _ z;rcases Qh.mp hk with z|z
 ·exact Qm _ (h.clo k z (λy=>a (Qm _ y)) b q w)
 exact i2 (QY _ z) a;rcases h.don x v p with z|z
 ·exact .inl (Qm _ z)
 rcases QL.mp z with z|z
 ·rw[z];exact .inl (QY _ QF)
 exact .inr z
theorem Srch1.fin{x:Pt}(h:Srch1 r x ks vs ws []):Srch r ks vs ws:=by refine#[h.cf,h.sub,λk hk n q w=>?_];by_cases e:k=x;subst e;let#[v,m,p]:=w;rcases h.don (q,v) m p with z|z;exact z;exact(nomatch z);exact h.clo k hk n e q w
theorem Srch.done(h:Srch r ks vs [])(p:Pt):p∈ks↔Rch r p:=by
 refine#[h.cf.rch p,λz=>?_];induction z with|bg=>exact h.cf.hb|go _ w x=>exact h.clo _ x (λz=>(nomatch z)) _ w
end
def eC(Q:T->LT->Prop):PEnds:={ nx:=λh=>iW (LA [0] h) (Q (.d .none)),rt:=λt h=>iW (LA [0] h) (Q t) }
theorem YK{Ψ:PEv}{b:PT}{p:PSp}{N x:LS}{ds:LT}{Q:T->LT->Prop}(ρ:xA)(h:pF Ψ b (eC Q) ρ)(hl:ds.9=x.length:=by rfl)(hc:XB 0 p.md x.9=[0]:=by rfl)(hs:lB N p.md ds=ρ:=by rfl):ds.9=x.9/\pF Ψ b (zD p x.9 Q) (lB N p.md ds):=by
 have e:zD p x.9 Q=eC Q:=by unfold zD;rw[hc];rfl
 rw[e,hs];exact#[hl,h]
def O4(r:Rm)(h t:Pt)(v:Int):xA:=[oW (cB r),bD (pr h),bD (pr t),bD (.int v)]
section
variable{Ψ:PEv}{Z:PEnds}{q:PT}{r:Rm}{h t:Pt}{v:Int}
theorem Yz(hl:r.9<kt)(k:pF Ψ q Z (O4 (sdf r h) h t v)):pF Ψ (.seq (.sdf 0 (.var 1)) q) Z (O4 r h t v):=by delta O4 at k ⊢;simp![↓kA];refine#[rfl,GY hl ?_];exact k
theorem Jz(hl:r.9<kt)(k:pF Ψ q Z (O4 (sdf r t) h t v)):pF Ψ (.seq (.sdf 0 (.var 2)) q) Z (O4 r h t v):=by delta O4 at k ⊢;simp![↓kA];refine#[rfl,GY hl ?_];exact k
theorem iz{l:Inn}(e:look r h=jr l)(hl:l.9<kt)(k:pF Ψ q Z (O4 (put r h (put l t v)) h t v)):pF Ψ (.seq (.six (.idx (.var 0) (.var 1)) (.var 2) (.var 3)) q) Z (O4 r h t v):=by delta O4 at k ⊢;simp![↓kA];refine YI e λf x=>JQ hl ?_;rw[x];exact k
theorem az{l:Inn}(e:look r t=jr l)(hl:l.9<kt)(k:pF Ψ q Z (O4 (put r t (put l h 0)) h t v)):pF Ψ (.seq (.six (.idx (.var 0) (.var 2)) (.var 1) (.int 0)) q) Z (O4 r h t v):=by delta O4 at k ⊢;simp![↓kA];refine YI e λf x=>JQ hl ?_;rw[x];exact k
end
theorem HE{r:Rm}{p:Pt}(h:Key r p):look r p=jr (lk r p):=by let#[l,e]:=h;unfold lk;rw[e];rfl
def MG:PSp where
 md:=[.chg]
 run:=λh Q _=>∃(r:Rm) (w:Wy),h=[cB r,.d (pr w.1),.d (pr w.2.1),.d (.int w.2.2)]/\(w.1≠w.2.1/\Sz r 5000)/\Q (.d .none) [cB (ZB r w)]
theorem ze{Ψ:PEv}:GD Ψ vQ MG rQ xN:=by rintro _ Q _ ⟨r,w,rfl,⟨y,hs⟩,q⟩;refine YK (O4 r w.1 w.2.1 w.2.2) ?_;have k:=hs.1;have v:=PQ (r:=r) (p:=w.1);have x:Key (sdf (sdf r w.1) w.2.1) w.1:=AD.mpr (.inr (AD.mpr (.inl rfl)));have h:Key (sdf (sdf r w.1) w.2.1) w.2.1:=AD.mpr (.inl rfl);have u:=hs.2 w.1;have z:=hs.2 w.2.1;refine Yz () (Jz () (iz (HE x) (by rw[dE,dE];omega) (az (HE (mJ.mpr (.inr h))) (by rw[fE,ii y,dE,dE];omega) ?_)));exact q
def FI:PSp where
 md:=[.chg]
 run:=λh Q _=>∃(r:Rm) (n:Str),h=[cB r,.d (.str n)]/\Sz r 5000/\Q (.d .none) [cB (ZB r (tO n,fR n,1))]
theorem ke{Ψ:PEv}(h:Ψ.sp "add_way"=MG):GD Ψ sI FI aO gL:=by rintro _ Q _ ⟨r,n,rfl,hs,q⟩;refine YK [oW (cB r),bD (.str n)] ?_;delta sI;simp![↓dH (md:=[]) h rfl rfl];refine#[(),(),?_];exact#[_,(tO n,fR n,1),rfl,#[RA,hs],#[_,rfl,q]]
def z5(es:NC)(st:LS)(g:Str)(r:Rm)(o4 o5 o6:Option Sl):xA:=[bD (.list (es.map pr)),bD (.tuple (st.map j0)),bD (.str g),oW (cB r),o4,o5,o6]
section
variable{Ψ:PEv}{Z:PEnds}{es:NC}{st:LS}{g:Str}{r:Rm}
theorem Nx(h:Ψ.va "BEGIN"=jr (pr UA)){q:PT}{o3 o4 o5 o6:Option Sl}(k:pF Ψ q Z (z5 es st g tH o4 o5 o6)) :
  pF Ψ (.seq (.own 3 (.dsp (.glo "BEGIN") (.dnew kf))) q) Z [bD (.list (es.map pr)),bD (.tuple (st.map j0)),bD (.str g),o3,o4,o5,o6]:=by
 simp![↓NH h];exact#[EB UA,k]
theorem Mx(a:Ψ.sp "add_name"=FI)(v:Ψ.sp "add_way"=MG)(u:Ψ.va "BEGIN"=jr (pr UA))(z:Ψ.va "WIDE"=jr (.int 2)){n:Str}{o5 o6:Option Sl}(hs:Sz r 4900)(k:Z.nx (z5 es st g ((CS g n).foldl ZB r) (bD (.str n)) o5 o6)) :
  pF Ψ aF Z (z5 es st g r (bD (.str n)) o5 o6):=by
 delta z5 at k ⊢;delta aF;simp![↓NH u,↓NH z,↓dH (md:=[]) a rfl rfl,↓dH (md:=[]) v rfl rfl];by_cases e:n=g;rw[dT e];unfold CS at k;rw[i0 e]at k;exact k;rw[dF e];unfold CS at k;rw[ii e]at k;have y:Sz r 5000:=#[QU hs.1 (),λp=>QU (hs.2 p) ()]
 have h:=JI (w:=(tO n,fR n,1)) RA hs;have x:Sz (ZB r (tO n,fR n,1)) 5000:=#[QU h.1 (),λp=>QU (h.2 p) ()]
 refine#[_,_,rfl,y,#[_,rfl,?_]];refine#[(),?_];exact#[_,(UA,tO n,2),rfl,#[AB,x],#[_,rfl,k]]
theorem Lx(i:Ψ.sp "add_name"=FI)(f:Ψ.sp "add_way"=MG)(v:Ψ.va "WIDE"=jr (.int 2)){a b:Str}{o4:Option Sl}(hs:Sz r 4900)(k:Z.nx (z5 es st g ((FV g (a,b)).foldl ZB r) o4 (bD (.str a)) (bD (.str b)))) :
  pF Ψ tF Z (z5 es st g r o4 (bD (.str a)) (bD (.str b))):=by
 delta z5 at k ⊢;delta tF;simp![↓NH v,↓dH (md:=[]) i rfl rfl,↓dH (md:=[]) f rfl rfl];unfold FV at k;by_cases e:a=g;rw[dT e];rw[i0 (.inl e)]at k;exact k;rw[dF e];by_cases h:a=b;rw[dT h];rw[i0 (.inr h)]at k;exact k;rw[dF h];rw[ii (λz=>z.elim e h)]at k;have u:Sz r 5000:=#[QU hs.1 (),λp=>QU (hs.2 p) ()]
 have x:=JI (w:=(tO a,fR a,1)) RA hs;have y:=JI (w:=(tO b,fR b,1)) RA x;refine#[_,_,rfl,u,#[_,rfl,?_]];refine#[_,_,rfl,#[QU x.1 (),λp=>QU (x.2 p) ()],#[_,rfl,?_]];refine#[(),(),?_];exact#[_,(fR a,tO b,2),rfl,#[RA.symm,#[QU y.1 (),λp=>QU (y.2 p) ()]],#[_,rfl,k]]
end
section
variable{Ψ:PEv}{r:Rm}{p q:Pt}{l:Inn}{n m:Bool}{R:T->Prop}{W:LT->Prop}{E:XE}{ρ:xA}{b:PX}{M:List (T×Bool)->xA->Prop}{md:List Md}{ks:List Pt}{vs:List D}
def XI:PSp where
 run:=λx Q _=>∃(h:NC) (st:LS) (g:Str),x=[.d (.list (h.map pr)),.d (.tuple (st.map j0)),.d (.str g)]/\(h.9<=126/\st.9<=11)/\Q (cB (yA h st g)) []
theorem Y2(o:Ψ.sp "add_name"=FI)(j:Ψ.sp "add_way"=MG)(i:Ψ.va "BEGIN"=jr (pr UA))(f:Ψ.va "WIDE"=jr (.int 2)):GD Ψ xO XI lO vL:=by rintro _ Q _ ⟨h,st,g,rfl,⟨Y,X⟩,q⟩;refine vA [bD (.list (h.map pr)),bD (.tuple (st.map j0)),bD (.str g),kv,kv,kv,kv] ?_;refine Nx i ?_;delta z5;simp![↓kA];rw[<- oA];refine BA (λ(s:Str)=>T.d (.str s)) (λl ρ=>∃r x,RmOk r (1+4 * (11 - l.9))/\l.9<=11/\(l.flatMap (CS g)).foldl ZB r=(st.flatMap (CS g)).foldl ZB tH/\ρ=z5 h st g r x kv kv) ?_ ?_ _ _ #[tH,_,?_,X,rfl,rfl];rintro ρ ⟨r,x,ok,_,e,rfl⟩;have e:r=(st.flatMap (CS g)).foldl ZB tH:=e;delta z5;simp![↓kA];rw[<- oA];refine BA (λ(p:Str×Str)=>T.d (pr p)) (λl ρ=>∃r v u,Sz r (45+6 * (126 - l.9))/\l.9<=126/\(l.flatMap (FV g)).foldl ZB r=yA h st g/\ρ=z5 h st g r (UN x) v u) ?_ ?_ _ _ #[r,_,_,?_,Y,by rw[e];rfl,rfl];rintro ρ ⟨r,v,u,_,_,e,rfl⟩;have e:r=yA h st g:=e;subst e;delta z5;simp![↓kA];exact q;rintro⟨a,b⟩ l ρ N k ⟨r,v,u,s,w,e,rfl⟩;rw[QO]at s w;rw[QAt,QAu]at e;refine uF.mk rfl ?_;refine Lx (a:=a) (b:=b) o j f #[QU s.1 (),λp=>QU (s.2 p) ()] (k _ #[_,_,_,?_,(),e,rfl]);have z:Sz ((FV g (a,b)).foldl ZB r) (45+6 * (126 - (l.9+1))+2 * (FV g (a,b)).9):=y6 pM s;have y:=sY (g:=g) (e:=(a,b));exact#[QU z.1 (),λp=>QU (z.2 p) ()];exact#[QU ok.sz.1 (by rw[wc];omega),λp=>QU (ok.sz.2 p) (by rw[wc];omega)];rintro s l ρ N k ⟨r,x,ok,w,e,rfl⟩;rw[QO]at ok w;rw[QAt,QAu]at e;refine Mx (n:=s) o j i f #[QU ok.sz.1 (),λp=>QU (ok.sz.2 p) ()] (k _ #[_,_,?_,(),e,rfl]);have z:=ok.add (ws:=CS g s) oM;have y:=rY (g:=g) (n:=s);exact#[z.pos,z.dom,z.bg,QU z.sz.1 (),λp=>QU (z.sz.2 p) ()];exact#[FE.pos,FE.dom,FE.bg,QU FE.sz.1 (),λp=>QU (FE.sz.2 p) ()]
def hX(l:Inn):D:=.dict (l.map λe=>(pr e.1,.int e.2))
def Im(r:Rm):List (D×D):=r.map λe=>(pr e.1,hX e.2)
theorem T3(h:look r p=jr l):FC (Im r)=jr true:=by
 cases r with|nil=>cases h|cons e r=>rfl
theorem y9(l:Inn):(l.map λe=>(pr e.1,j1 e.2))=[]∨FC (l.map λe=>(pr e.1,j1 e.2))=jr true:=by
 cases l with|nil=>exact .inl rfl|cons e r=>exact .inr rfl
theorem Vj(h:Key r p)(k:R (.d (hX (lk r p)))):XA (.d (.dict (Im r))) n (.d (pr p)) m R:=by
 have e:=HE h;let#[i,u,y,_]:=iC (λl=>T.d (hX l)) e;have w:(Im r).map (·.1)=GC r:=by unfold Im GC;rw[Qb];rfl
 refine yq (T3 e) (EB p) (by rw[w];exact u) ?_ k;have v:(Im r).map (·.2)=r.map λe=>hX e.2:=by unfold Im;rw[Qb];rfl
 rw[v];rw[QX]at y ⊢;cases z:r[i]? with|none=>rw[z]at y;cases y|some x=>rw[z]at y;injection y with y;injection y with y;show jr (hX x.2)=_;rw[y]
theorem nq:rK .itm [(.d (hX l),n)] W=W (l.map λe=>.d (.tuple [pr e.1,.int e.2])):=by unfold hX;rw[mq (y9 l),Qb];rfl
theorem tI{K:TK}:gb (cB r) kb Ψ b E ρ K=xB Ψ b E (lockA ρ) λy m _=>K y m ρ:=rfl
theorem o0{K:TK}:gb (eD l) kb Ψ b E ρ K=xB Ψ b E (lockA ρ) λy m _=>K y m ρ:=rfl
theorem XS:Jb (cB r) kb Ψ b E md ρ M=zM Ψ b E md (lockA ρ) λxs _=>M xs ρ:=rfl
theorem Ea:Jb (eD l) kb Ψ b E md ρ M=zM Ψ b E md (lockA ρ) λxs _=>M xs ρ:=rfl
def zp(t:T)(r:Rm):Prop:=t=cB r∨t=.d (.dict (Im r))
theorem zq{b:Bool}{ks:List D}{ts:LT}{n m:Bool}{k:D}{l:Nat}{t:T}(z:aD b k)(y:cA ks k=jr l)(x:ts[l]?=jr t)(h:R t):XA (.dct b ks ts) kb (.d k) m R:=.inr #[b,ks,ts,l,t,rfl,z,y,x,h]
theorem jF(h:Key r p)(k:R (eD (lk r p))):XA (cB r) kb (.d (pr p)) m R:=by let#[i,y,x,_]:=iC eD (HE h);exact zq (n:=kb) (EB p) y x k
theorem sQ{v:Int}(h:look l p=jr v)(k:R (.d (.int v))):XA (eD l) kb (.d (pr p)) m R:=by let#[i,y,x,_]:=iC (λv:Int=>T.d (.int v)) h;exact zq (n:=kb) (EB p) y x k
theorem eY(l:Inn):GG (l.map λe=>T.d (.int e.2))=jr (l.map λe=>.int e.2):=by rw[show(l.map λe=>T.d (.int e.2))=(l.map λe=>j1 e.2).map T.d by rw[Qb];rfl,JA]
theorem Dj:rK .itm [(eD l,kb)] W=W (l.map λe=>.d (.tuple [pr e.1,.int e.2])):=by
 refine(eU _ _).trans ?_;have e:((GC l).zip (l.map λe=>j1 e.2)).map (λp=>T.d (.tuple [p.1,p.2]))=l.map λe=>T.d (.tuple [pr e.1,.int e.2]):=by unfold GC;rw[List.zip_map',Qb];rfl
 refine i3 #[λ#[x,h,k]=>?_,λk=>#[_,eY l,by rw[e];exact k]];rw[eY]at h;cases h;rw[e]at k;exact k
theorem Pb{a:PX}:PF (.idx a b)=PF a:=rfl
theorem To:KS [(eD l,kb)]=false:=rfl
noncomputable def Gf(ks:List Pt)(vs:List D):T:=.dct kf (ks.map pr) (vs.map T.d)
theorem vR:pr q∈ks.map pr↔q∈ks:=by constructor;intro h;let#[x,y,e]:=QZ.mp h;rw[<- xR e];exact y;exact QBu
theorem tJ(ks:List Pt)(q:Pt):(cA (ks.map pr) (pr q)).isSome=decide (q∈ks):=by rw[Qz,aX,vR,o2]
theorem Rj{x:D}{Q:T->Prop}(n:q∉ks)(hl:ks.9<kt)(k:Q (Gf (ks++[q]) (vs++[x]))):Vg (Gf ks vs) (.d (pr q)) (.d x) Q:=by refine#[EB q,by rw[QD];exact hl,?_];show Q (cK kf (ks.map pr) (vs.map T.d) (pr q) (.d x));unfold cK;rw[zB.mpr (λz=>n (vR.mp z))];unfold Gf at k;rw[QM,QM]at k;exact k
theorem Vo{L:Bool->Prop}:SB .NotIn (.d (pr q)) (Gf ks vs) L=L (!decide (q∈ks)):=by unfold Gf;rw[zO,tJ];exact i3 #[λh=>h.2,λh=>#[EB q,h]]
def JP(h:T)(ks:List Pt)(vs:List D)(ws:List Pt)(o3 o4 o5:Option Sl):xA:=[jr (.bor h),jr (.own (Gf ks vs)),jr (.own (.lst ((ws.map pr).map T.d))),o3,o4,o5]
end
section
variable{Ψ:PEv}{Z:PEnds}{x:T}{r:Rm}{ks ws:List Pt}{vs:List D}
section
variable{w:Pt}{o3 o4 o5:Option Sl}
theorem Ix{p q:Pt}{v:Int}(hl:ks.9<kt)(a:ws.length<kt)(u:(0<v->q∈ks)->Z.nx (JP x ks vs ws (bD (pr p)) (bD (pr q)) (bD (.int v))))
  (k:0<v->q∉ks->Z.nx (JP x (ks++[q]) (vs++[pr p]) (ws++[q]) (bD (pr p)) (bD (pr q)) (bD (.int v)))) :
  pF Ψ kB Z (JP x ks vs ws (bD (pr p)) (bD (pr q)) (bD (.int v))):=by
 delta JP at u k ⊢;delta kB;simp![↓Vo];by_cases h:0<v;rw[dT h];by_cases y:q∈ks;rw[dT y];exact u λ_=>y;rw[dF y];simp only[WF,↓reduceIte];refine Rj y hl ?_;refine#[by rw[QD,QD];exact a,?_];have:=k h y;rw[QM,QM]at this;exact this;rw[dF h];exact u λz=>i2 z h
theorem Lk{q:PT}(k:pF Ψ q Z (JP x ks vs ws (bD (pr w)) o4 o5)) :
  pF Ψ (.seq (.set 3 (.mt .pop (.var 2) %[.int 0|1])) q) Z (JP x ks vs (w::ws) o3 o4 o5):=by
 delta JP at k ⊢;simp![↓kA];refine#[0,.d (pr w),?_,rfl,rfl,k];unfold HS;rw[i0 (by decide),i0 (by rw[QD,QD,QO];omega)];rfl
theorem Mk(y:zp x r)(hk:Key r w)
  (k:bI (pF Ψ kB) (.tp [4,5]) { Z with nx:=λh=>Z.nx (kill [4,5] h) } ((lk r w).map λe=>T.d (.tuple [pr e.1,.int e.2])) (JP x ks vs ws (bD (pr w)) o4 o5)) :
  pF Ψ %[.for_ (.tp [4,5]) .itm %[.idx (.var 0) (.var 3)|1] kB|2] Z (JP x ks vs ws (bD (pr w)) o4 o5):=by
 rcases y with rfl|rfl;delta JP at k ⊢;simp![↓tI];refine jF hk ?_;simp![↓Ea,↓Dj,To,Pb];exact k;delta JP at k ⊢;simp![↓kA];refine Vj hk ?_;simp![↓nq];exact k
theorem Ex(m:zp x r)(a:Ub r)(hb:Key r UA)(Y:r.9<=1000)(h:Srch r ks vs (w::ws))(hm:2 * (r.9 - ks.9)+ws.length+1<=3000)
  (o:∀z u y o3 o4 o5,Srch r z u y->2 * (r.9 - z.9)+y.9<=2 * (r.9 - ks.9)+ws.length->Z.nx (JP x z u y o3 o4 o5)) :
  pF Ψ ZD Z (JP x ks vs (w::ws) o3 o4 o5):=by
 have W:kt=16777216:=qB;refine Lk ?_;have h0:=h.pop;have hk:Key r w:=OI a hb (h.cf.rch w (h.sub w QF));refine Mk m hk ?_;refine BA (λ(e:Pt×Int)=>T.d (.tuple [pr e.1,.int e.2])) (λl k=>∃z u y o4 o5,Srch1 r w z u y l/\2 * (r.9 - z.9)+y.9<=2 * (r.9 - ks.9)+ws.length/\k=JP x z u y (bD (pr w)) o4 o5) ?_ ?_ _ _ #[ks,vs,ws,_,_,h0,QT _,rfl];rintro k ⟨z,u,y,g,f,s,l,rfl⟩;exact o z u y _ (UN g) (UN f) s.fin l;rintro⟨q,v⟩ l k N i ⟨z,u,y,g,f,s,e,rfl⟩;refine uF.mk rfl ?_;have X:=s.cf.le a hb;refine Ix (p:=w) (q:=q) (v:=v) () () (λc=>i _ #[z,u,y,_,_,s.skip c,e,rfl]) λc n=>?_;have b:=s.add c n;have j:=b.cf.le a hb;rw[QI,qL]at j;exact i _ #[_,_,_,_,_,b,by rw[QI,QI,qL];omega,rfl]
theorem jy(h:Ψ.va "BEGIN"=jr (pr UA)){q:PT}(k:pF Ψ q Z (JP x [UA] [.none] [UA] kv kv kv)) :
  pF Ψ (.seq (.own 1 (.dsp (.glo "BEGIN") .non)) (.seq (.own 2 (.lst %[.glo "BEGIN"|1])) q)) Z [jr (.bor x),kv,kv,kv,kv,kv]:=by
 have y:kt=16777216:=qB;simp![↓NH h];exact#[EB UA,(),k]
end
end
theorem eI{Ψ:PEv}{E:XE}{c:PX}{q:PT}{Z:PEnds}{ρ:xA}(W:Nat->xA->Prop)(m:Nat)(h0:W m ρ)(hs:∀m ρ,W m ρ->cN Ψ c E ρ λb x=>if b=kf then tB Ψ E q { Z with nx:=λh=>∃y,y < m/\W y h,ct:=λh=>∃y,y < m/\W y h,bk:=Z.nx } x else Z.nx x):vq Ψ E c q Z ρ:=#[W,#[m,h0],hs]
def TF:PSp where
 md:=[.bor]
 run:=λz Q _=>∃(y:T) (r:Rm),z=[y]/\(zp y r/\Ub r/\Key r UA/\r.9<=1000)/\∀h x,CF r h x->(∀p,p∈h↔Rch r p)->Q (Gf h x) []
theorem O7{Ψ:PEv}(j:Ψ.va "BEGIN"=jr (pr UA)):GD Ψ RE TF AE OD:=by
 rintro _ Q _ ⟨k,r,rfl,⟨h0,i,hb,g⟩,q⟩;refine vA [jr (.bor k),kv,kv,kv,kv,kv] ?_;refine jy j ?_;delta JP;simp![↓kA];refine eI (λm v=>m<=3000/\∃h x ws o3 o4 o5,Srch r h x ws/\m=2 * (r.9 - h.9)+ws.length/\v=JP k h x ws o3 o4 o5) (2 * (r.9 - 1)+1) #[(),[UA],[.none],[UA],kv,kv,kv,Lq,rfl,rfl] ?_;rintro m v ⟨hm,h,x,ws,o3,o4,o5,s,e,rfl⟩;cases ws with|nil=>delta JP;simp![QD];rw[dF ()];simp![↓kA];exact q h x s.cf s.done|cons w ws=>rw[QO]at e;have a:=λ(Z:PEnds) f=>Ex (Ψ:=Ψ) (Z:=Z) (o3:=o3) (o4:=o4) (o5:=o5) h0 i hb g s () f;unfold JP at a;delta JP;simp![QD];rw[dT ()];refine a _ λu z y o3 o4 o5 b l=>#[_,(),(),u,z,y,o3,o4,o5,b,rfl,rfl]
theorem Oo{α:Type}{x:α}{r:List α}:PC (x::r) 0=jr x:=kE (j:=0) rfl
theorem Kz{α:Type}{x y:α}{r:List α}:PC (x::y::r) 1=jr y:=kE (j:=1) rfl
def sm:List Pt->(Pt->Int)->Int
 |[],_=>0|x::l,f=>f x+sm l f
section
variable{f g:Pt->Int}
theorem yB:∀{l:List Pt},(∀x∈l,f x=g x)->sm l f=sm l g
 |[],_=>rfl|x::l,h=>by show f x+sm l f=g x+sm l g;rw[h x QF,yB λy z=>h y (QE _ z)]
theorem AH:∀(l:List Pt),sm l (λx=>f x+g x)=sm l f+sm l g
 |[]=>rfl|x::l=>by show f x+g x+sm l _=f x+sm l f+(g x+sm l g);rw[AH l];omega
theorem kK:∀(l:List Pt),sm l (λx=>- f x)=- sm l f
 |[]=>rfl|x::l=>by show - f x+sm l _=- (f x+sm l f);rw[kK l];omega
theorem NG:∀(l:List Pt),sm l (λ_=>0)=0
 |[]=>rfl|x::l=>by show 0+sm l _=0;rw[NG l];rfl
theorem pP:∀{l:List Pt},(∀x∈l,0<=f x)->0<=sm l f
 |[],_=>QCr _|x::l,h=>by have v:=h x QF;have u:=pP (l:=l) λy z=>h y (QE _ z);show 0<=f x+sm l f;omega
theorem TH:∀{l:List Pt},(∀x∈l,0<=f x)->∀{y:Pt},y∈l->f y<=sm l f
 |x::l,h,y,z=>by have v:=h x QF;have h0:∀y∈l,0<=f y:=λy z=>h y (QE _ z);show f y<=f x+sm l f;rcases QL.mp z with e|e;have u:=pP h0;rw[e];omega;have u:=TH h0 e;omega
theorem d6:∀{l:List Pt},(∀x∈l,0<=f x)->∀{y z:Pt},y∈l->z∈l->y≠z->f y+f z<=sm l f
 |x::l,h,y,z,v,hz,ne=>by
  have k:=h x QF;have h0:∀y∈l,0<=f y:=λy v=>h y (QE _ v);show f y+f z<=f x+sm l f;rcases QL.mp v with e|e;rcases QL.mp hz with u|u
  ·exact i2 (e.trans u.symm) ne
  have w:=TH h0 u;rw[e];omega;rcases QL.mp hz with u|u
  ·have w:=TH h0 e
   rw[u];omega
  have w:=d6 h0 e u ne;omega
theorem f6:∀{l:List Pt},0<sm l f->∃x∈l,0<f x
 |[],h=>i2 h (ww 0)|x::l,h=>by by_cases c:0<f x;exact#[x,QF,c];have h:0<f x+sm l f:=h;let#[y,z,p]:=f6 (l:=l) ();exact#[y,QE _ z,p]
theorem BY{k:Pt->Pt->Int}{m:List Pt}:∀(l:List Pt),sm l (λx=>sm m λy=>k x y)=sm m λy=>sm l λx=>k x y
 |[]=>(NG m).symm|x::l=>by show sm m (λy=>k x y)+sm l _=sm m λy=>k x y+sm l λx=>k x y;rw[BY l,AH]
theorem MQ{u:Pt}{k:Int}:∀{l:List Pt},u∉l->sm l (λx=>if x=u then k else 0)=0
 |[],_=>rfl|x::l,h=>by show(if x=u then k else 0)+sm l _=0;rw[ii (λ(e:x=u)=>h (e▸QF)),MQ λz=>h (QE _ z)];rfl
theorem vK{u:Pt}{k:Int}:∀{l:List Pt},l.Nodup->u∈l->sm l (λx=>if x=u then k else 0)=k
 |x::l,nd,h=>by let#[v,y]:=Qk.mp nd;show(if x=u then k else 0)+sm l _=k;by_cases e:x=u;rw[i0 e,MQ (by rw[<- e];exact v)];omega;rw[ii e,vK y ((QL.mp h).resolve_left λz=>e z.symm)];omega
theorem cT(p:Pt->Bool):∀(l:List Pt),sm l f=sm (l.filter p) f+sm (l.filter λx=>!p x) f
 |[]=>rfl|x::l=>by
  show f x+sm l f=_;rw[WN,WN,cT p l];cases p x with|true=>show _=(f x+sm (l.filter p) f)+sm (l.filter λx=>!p x) f;omega|false=>show _=sm (l.filter p) f+(f x+sm (l.filter λx=>!p x) f);omega
theorem gc{a:Pt->Pt->Int}(l:List Pt)(h:∀x∈l,∀y∈l,a x y=- a y x):sm l (λx=>sm l λy=>a x y)=0:=by
 have w:sm l (λx=>sm l λy=>a x y)=sm l λy=>sm l λx=>a x y:=BY l;have v:(sm l λy=>sm l λx=>a x y)=- sm l (λy=>sm l λx=>a y x):=by rw[<- kK];refine yB λy z=>?_;rw[<- kK];exact yB λx u=>h x u y z
 omega
end
section
variable{p q u v:Pt}{r:Rm}{w:Wy}{es:NC}{st:LS}{g:Str}
def rm(r:Rm)(p q:Pt):Int:=(look (lk r p) q).getD 0
def aI(r:Rm)(p q:Pt):Prop:=∃v,look (lk r p) q=jr v
def yg(r:Rm):Prop:=∀p,((lk r p).map (·.1)).Nodup
theorem yH{α:Type}{q:Pt}{v:α}:∀{l:List (Pt×α)},look l q=jr v->(q,v)∈l
 |[],h=>by cases h|e::l,h=>by by_cases c:e.1=q;rw[show look (e::l) q=jr e.2 from i0 c]at h;injection h with h;rw[<- c,<- h];exact QF;rw[show look (e::l) q=look l q from ii c]at h;exact QE _ (yH h)
theorem IR{α:Type}{q:Pt}{v:α}:∀{l:List (Pt×α)},(l.map (·.1)).Nodup->(q,v)∈l->look l q=jr v
 |e::l,nd,h=>by let#[k,y]:=Qk.mp nd;rcases QL.mp h with c|c;rw[<- c];exact i0 rfl;have x:e.1≠q:=λz=>k (QZ.mpr #[(q,v),c,z.symm]);rw[show look (e::l) q=look l q from ii x];exact IR y c
theorem put_keys{α:Type}{p:Pt}{w:α}:∀{l:List (Pt×α)},(put l p w).map (·.1)=if p∈l.map (·.1) then l.map (·.1) else l.map (·.1)++[p]
 |[]=>rfl|e::l=>by by_cases c:e.1=p;rw[show put (e::l) p w=(e.1,w)::l from i0 c,i0 (by rw[<- c];exact QF)];rfl;rw[show put (e::l) p w=e::put l p w from ii c];rw[QS,QS,put_keys];by_cases h:p∈l.map (·.1);rw[i0 h,i0 (QE _ h)];rw[ii h,ii (λz=>(QL.mp z).elim (λz=>c z.symm) h)];rfl
theorem SG{α:Type}{w:α}{l:List (Pt×α)}(h:(l.map (·.1)).Nodup):((put l p w).map (·.1)).Nodup:=by rw[put_keys];split;exact h;rename_i n;refine qy.mpr #[h,Qk.mpr #[λz=>(nomatch z),Q7],λa x b hb z=>?_];rw[QJ.mp hb]at z;exact n (z▸x)
theorem OV(nd:yg r):yi r p q↔0<rm r p q:=by
 unfold yi rm;constructor;rintro⟨v,m,h⟩;rw[IR (nd p) m];exact h;intro h;cases e:look (lk r p) q with|none=>rw[e]at h;exact i2 h (ww 0)|some v=>rw[e]at h;exact#[v,yH e,h]
def L1(r:Rm)(u v:Pt):Rm:=put (put r u (put (lk r u) v (rm r u v - 1))) v (put (lk (put r u (put (lk r u) v (rm r u v - 1))) v) u (rm (put r u (put (lk r u) v (rm r u v - 1))) v u+1))
theorem vX(h:u≠v)(p:Pt):lk (L1 r u v) p=if v=p then put (lk r v) u (rm r v u+1) else if u=p then put (lk r u) v (rm r u v - 1) else lk r p:=by
 have e:rm (put r u (put (lk r u) v (rm r u v - 1))) v u=rm r v u:=by unfold rm;rw[fE,ii h]
 unfold L1;rw[e,fE,fE,fE,ii h]
theorem nW(h:u≠v)(p q:Pt):rm (L1 r u v) p q=rm r p q+(if p=v/\q=u then 1 else 0) - (if p=u/\q=v then 1 else 0):=by show(look (lk (L1 r u v) p) q).getD 0=_;rw[vX h];by_cases y:v=p;rw[i0 y,sD,ii (c:=p=u/\q=v) (λz=>h (z.1.symm.trans y.symm))];by_cases x:u=q;rw[i0 x,i0 #[y.symm,x.symm],<- y,<- x];show rm r v u+1=rm r v u+1 - 0;omega;rw[ii x,ii (λz=>x z.2.symm),y];show rm r p q=rm r p q+0 - 0;omega;rw[ii y,ii (c:=p=v/\q=u) (λz=>y z.1.symm)];by_cases x:u=p;rw[i0 x,sD];by_cases k:v=q;rw[i0 k,i0 #[x.symm,k.symm],<- x,<- k];show rm r u v - 1=rm r u v+0 - 1;omega;rw[ii k,ii (λz=>k z.2.symm),x];show rm r p q=rm r p q+0 - 0;omega;rw[ii x,ii (λz=>x z.1.symm)];show rm r p q=rm r p q+0 - 0;omega
theorem oB:aI r p q↔t5 r p q:=by
 unfold aI t5;constructor;rintro⟨v,h⟩;exact#[v,yH h];rintro⟨v,h⟩;generalize lk r p=l at h;induction l with
 |nil=>exact(nomatch h)
 |cons e l x =>
  by_cases c:e.1=q;exact#[e.2,i0 c];rcases QL.mp h with z|z
  ·exact i2 (by rw[<- z]) c
  let#[w,y]:=x z;exact#[w,(show look (e::l) q=look l q from ii c).trans y]
theorem Af(h:u≠v)(a:aI r u v)(k:aI r v u):aI (L1 r u v) p q↔aI r p q:=by unfold aI;rw[vX h];by_cases y:v=p;rw[i0 y,sD];by_cases x:u=q;rw[i0 x,<- y,<- x];exact#[λ_=>k,λ_=>#[_,rfl]];rw[ii x,y];rw[ii y];by_cases x:u=p;rw[i0 x,sD];by_cases z:v=q;rw[i0 z,<- x,<- z];exact#[λ_=>a,λ_=>#[_,rfl]];rw[ii z,x];rw[ii x]
theorem ae(h:u≠v)(nd:yg r):yg (L1 r u v):=by
 intro p;rw[vX h];split;exact SG (nd v);split
 ·exact SG (nd u)
 exact nd p
theorem AQ(h:¬ aI r p q):rm r p q=0:=by
 unfold rm;cases e:look (lk r p) q with|none=>rfl|some v=>exact i2 #[v,e] h
def Ov(p q:Pt)(v:Int):Prop:=(∃n,p=tO n/\q=fR n/\v=1)∨(∃n,p=UA/\q=tO n/\v=2)∨(∃a b,a≠b/\p=fR a/\q=tO b/\v=2)∨(¬ n5 p q/\v=0)
def bp(P:Pt->Pt->Int->Prop)(r:Rm):Prop:=∀p,∀e∈lk r p,P p e.1 e.2
theorem V4{P:Pt->Pt->Int->Prop}(a:w.1≠w.2.1)(f:P w.1 w.2.1 w.2.2)(b:P w.2.1 w.1 0)(h:bp P r):bp P (ZB r w):=by intro p e x;rw[gJ a]at x;by_cases k:w.2.1=p;rw[i0 k]at x;rcases SI x with z|z;rw[z,<- k];exact b;exact h p e z;rw[ii k]at x;by_cases y:w.1=p;rw[i0 y]at x;rcases SI x with z|z;rw[z,<- y];exact f;exact h p e z;rw[ii y]at x;exact h p e x
theorem pT(h:(r.map (·.1)).Nodup):((sdf r p).map (·.1)).Nodup:=by
 unfold sdf;cases e:look r p with|some v=>exact h|none=>show(List.map (λe:Pt×Inn=>e.1) (r++[(p,[])])).Nodup;rw[QM];refine qy.mpr #[h,Qk.mpr #[λz=>(nomatch z),Q7],λa y b hb z=>?_];have hb:b=p:=QJ.mp hb;rw[z,hb]at y;let#[x,k,f]:=QZ.mp y;have:=IR h (show(p,x.2)∈r by rw[<- f];exact k);rw[e]at this;cases this
theorem g8(x:w.1≠w.2.1)(h:yg r):yg (ZB r w):=by
 intro p;rw[gJ x];split;exact SG (h p);split
 ·exact SG (h p)
 exact h p
theorem vB:Key r p↔p∈r.map (·.1):=by
 constructor;rintro⟨l,e⟩;exact OR e;intro h;induction r with
 |nil=>exact(nomatch h)
 |cons e r x =>
  by_cases c:e.1=p;exact#[e.2,i0 c];rcases QL.mp h with z|z
  ·exact i2 z.symm c
  let#[l,hl]:=x z;exact#[l,(show look (e::r) p=look r p from ii c).trans hl]
structure Tbl0(r:Rm):Prop where
 ndk:(r.map (·.1)).Nodup
 ndi:yg r
 cap:bp Ov r
 kind:∀p,Key r p->p=UA∨∃n,p=tO n∨p=fR n
 sym:∀p q,t5 r p q->t5 r q p/\Key r p
theorem oU(h:n5 p q):(p=UA∨∃n,p=tO n∨p=fR n)/\(q=UA∨∃n,q=tO n∨q=fR n):=by
 rcases h with⟨h,n,e⟩| ⟨n,h,e⟩| ⟨a,b,_,h,e⟩
 exact#[.inl h,.inr #[n,.inl e]];exact#[.inr #[n,.inl h],.inr #[n,.inr e]];exact#[.inr #[a,.inr h],.inr #[b,.inl e]]
theorem zc(k:n5 w.1 w.2.1)(f:Ov w.1 w.2.1 w.2.2)(t:Tbl0 r):Tbl0 (ZB r w):=by
 have y:=fG k;refine#[?_,g8 y t.ndi,V4 y f (.inr (.inr (.inr #[mF k,rfl]))) t.cap,λp h=>?_,λp q h=>?_];unfold ZB;exact SG (SG (pT (pT t.ndk)));rcases hG.mp h with z|z|z
 ·rw[z];exact(oU k).1
 rw[z];exact(oU k).2;exact t.kind p z;rw[eJ y,hG];rcases(eJ y).mp h with z|⟨x,a⟩| ⟨x,a⟩
 let#[e,b]:=t.sym p q z;exact#[.inl e,.inr (.inr b)];exact#[.inr (.inr #[a,x]),.inl x];exact#[.inr (.inl #[a,x]),.inr (.inl x)]
theorem ZY:∀{ws:List Wy}{r:Rm},(∀w∈ws,n5 w.1 w.2.1/\Ov w.1 w.2.1 w.2.2)->Tbl0 r->Tbl0 (ws.foldl ZB r)
 |[],_,_,t=>t|w::ws,r,h,t=>ZY (ws:=ws) (λw x=>h w (QE _ x)) (zc (h w QF).1 (h w QF).2 t)
theorem xM{p:Pt}:∀{ws:List Wy}{r:Rm},Key (ws.foldl ZB r) p↔Key r p∨∃w∈ws,p=w.1∨p=w.2.1
 |[],r=>#[.inl,λz=>z.elim id λ#[_,m,_]=>(nomatch m)]
 |w::ws,r=>by
  rw[QAK,xM (ws:=ws),hG];constructor;rintro((z|z|z)|⟨x,m,z⟩)
  ·exact .inr #[w,QF,.inl z]
  exact .inr #[w,QF,.inr z];exact .inl z;exact .inr #[x,QE _ m,z];rintro(z|⟨x,m,z⟩)
  ·exact .inl (.inr (.inr z))
  rcases QL.mp m with rfl|m
  ·rcases z with z|z
   ·exact .inl (.inl z)
   exact .inl (.inr (.inl z))
  exact .inr #[x,m,z]
def E4(es:NC)(st:LS)(g:Str):List Wy:=st.flatMap (CS g)++es.flatMap (FV g)
theorem ZE:yA es st g=(E4 es st g).foldl ZB tH:=by unfold yA E4;rw[QAu]
theorem lE{v:Int}:(p,q,v)∈E4 es st g↔(∃n∈st,n≠g/\((p,q,v)=(tO n,fR n,1)∨(p,q,v)=(UA,tO n,2)))∨(∃e∈es,(e.1≠g/\e.1≠e.2)/\((p,q,v)=(tO e.1,fR e.1,1)∨(p,q,v)=(tO e.2,fR e.2,1)∨(p,q,v)=(fR e.1,tO e.2,2))):=by
 unfold E4;rw[Qh,WO,WO];constructor;rintro(⟨n,m,h⟩| ⟨e,m,h⟩)
 ·exact .inl #[n,m,Nt.mp h]
 exact .inr #[e,m,Ot.mp h];rintro(⟨n,m,h⟩| ⟨e,m,h⟩)
 ·exact .inl #[n,m,Nt.mpr h]
 exact .inr #[e,m,Ot.mpr h]
theorem jC:∀w∈E4 es st g,n5 w.1 w.2.1/\Ov w.1 w.2.1 w.2.2:=by
 rintro⟨p,q,v⟩ h;rcases lE.mp h with⟨n,_,_,e|e⟩| ⟨e,_,⟨_,x⟩,z|z|z⟩
 cases e;exact#[.inr (.inl #[n,rfl,rfl]),.inl #[n,rfl,rfl,rfl]];cases e;exact#[.inl #[rfl,n,rfl],.inr (.inl #[n,rfl,rfl,rfl])];cases z;exact#[.inr (.inl #[_,rfl,rfl]),.inl #[_,rfl,rfl,rfl]];cases z;exact#[.inr (.inl #[_,rfl,rfl]),.inl #[_,rfl,rfl,rfl]];cases z;exact#[.inr (.inr #[_,_,x,rfl,rfl]),.inr (.inr (.inl #[_,_,x,rfl,rfl,rfl]))]
theorem fJ(p:Pt):lk tH p=[]:=by show(if UA=p then jr [] else kv).getD []=[];split<;>rfl
theorem iq:Tbl0 tH:=by refine#[Qk.mpr #[λz=>(nomatch z),Q7],λp=>?_,λp e x=>?_,λp h=>?_,λp q h=>?_];rw[fJ];exact Q7;rw[fJ]at x;exact(nomatch x);exact .inl (QJ.mp (vB.mp h));let#[v,h]:=h;rw[fJ]at h;exact(nomatch h)
end
section
variable{es:NC}{st:LS}{g:Str}
section
variable{p q:Pt}{n:Str}
theorem cD:Tbl0 (yA es st g):=by rw[ZE];exact ZY jC iq
theorem i9:∀w∈E4 es st g,DG w:=λw h=>by unfold E4 at h;rcases Qh.mp h with z|z;exact xH (f:=CS g) (λ_=>oM) st w z;exact xH (f:=FV g) (λ_=>pM) es w z
theorem vC:t5 (yA es st g) p q↔(∃v,(p,q,v)∈E4 es st g)∨∃v,(q,p,v)∈E4 es st g:=by
 rw[ZE,MZ i9];constructor;rintro(⟨v,h⟩| h)
 ·rw[fJ]at h;exact(nomatch h)
 exact h;exact .inr
theorem UP(h:Key (yA es st g) (tO n)):t5 (yA es st g) (tO n) (fR n):=by
 rw[ZE]at h;rcases xM.mp h with z|⟨⟨p,q,v⟩,m,z⟩
 exact i2 (QJ.mp (vB.mp z)).symm AB;refine vC.mpr (.inl #[1,lE.mpr ?_]);have z:tO n=p∨tO n=q:=z;rcases lE.mp m with⟨k,mk,x,e|e⟩| ⟨e,u,x,y|y|y⟩
 cases e;rcases z with z|z;rw[FB z];exact .inl #[k,mk,x,.inl rfl];exact i2 z RA;cases e;rcases z with z|z;exact i2 z.symm AB;rw[FB z];exact .inl #[k,mk,x,.inl rfl];cases y;rcases z with z|z;rw[FB z];exact .inr #[e,u,x,.inl rfl];exact i2 z RA;cases y;rcases z with z|z;rw[FB z];exact .inr #[e,u,x,.inr (.inl rfl)];exact i2 z RA;cases y;rcases z with z|z;exact i2 z RA;rw[FB z];exact .inr #[e,u,x,.inr (.inl rfl)]
theorem G4:Ov p q (rm (yA es st g) p q)∨(¬ aI (yA es st g) p q/\rm (yA es st g) p q=0):=by by_cases h:aI (yA es st g) p q;let#[v,e]:=h;have:=cD (es:=es) (st:=st) (g:=g) |>.cap p (q,v) (yH e);unfold rm;rw[e];exact .inl this;exact .inr #[h,AQ h]
theorem oz:0<=rm (yA es st g) p q:=by rcases G4 (es:=es) (st:=st) (g:=g) (p:=p) (q:=q) with(⟨_,_,_,e⟩| ⟨_,_,_,e⟩| ⟨_,_,_,_,_,e⟩| ⟨_,e⟩)|⟨_,e⟩<;>rw[e]<;>decide
theorem UJ(h:¬ n5 p q):rm (yA es st g) p q=0:=by
 rcases G4 (es:=es) (st:=st) (g:=g) (p:=p) (q:=q) with(⟨n,y,x,_⟩| ⟨n,y,x,_⟩| ⟨a,b,z,y,x,_⟩| ⟨_,e⟩)|⟨_,e⟩
 exact i2 (.inr (.inl #[n,y,x])) h;exact i2 (.inl #[y,n,x]) h;exact i2 (.inr (.inr #[a,b,z,y,x])) h;exact e;exact e
theorem Jo(h:q≠fR n):rm (yA es st g) (tO n) q=0:=UJ λl=>by
 rcases l with⟨e,_⟩| ⟨m,y,x⟩| ⟨a,b,_,e,_⟩
 exact AB e.symm;exact h (by rw[x,FB y]);exact RA e
theorem Cu:rm (yA es st g) (tO n) (fR n)<=1:=by
 rcases G4 (es:=es) (st:=st) (g:=g) (p:=tO n) (q:=fR n) with(⟨_,_,_,e⟩| ⟨m,h,_,_⟩| ⟨a,b,x,h,y,_⟩| ⟨_,e⟩)|⟨_,e⟩
 rw[e];decide;exact i2 h.symm AB;exact i2 h RA;rw[e];decide;rw[e];decide
theorem Yo(h:Key (yA es st g) (tO n)):rm (yA es st g) (tO n) (fR n)=1:=by
 have a:=oB.mpr (UP h);rcases G4 (es:=es) (st:=st) (g:=g) (p:=tO n) (q:=fR n) with(⟨_,_,_,e⟩| ⟨m,x,_,_⟩| ⟨a,b,y,x,u,_⟩| ⟨l,e⟩)|⟨z,e⟩
 exact e;exact i2 x.symm AB;exact i2 x RA;exact i2 (.inr (.inl #[n,rfl,rfl])) l;exact i2 a z
theorem pz(h:p≠tO n):rm (yA es st g) p (fR n)=0:=UJ λl=>by
 rcases l with⟨_,m,e⟩| ⟨m,y,x⟩| ⟨a,b,_,_,e⟩
 exact RA e.symm;exact h (by rw[y,uI x]);exact RA e.symm
theorem tz:rm (yA es st g) p UA=0:=UJ λl=>by
 rcases l with⟨_,m,e⟩| ⟨m,x,h⟩| ⟨a,b,_,_,e⟩
 exact AB e;exact OE h;exact AB e
theorem Bu(h:p≠fR n):rm (yA es st g) p (tO n)=0∨rm (yA es st g) p (tO n)=2:=by
 rcases G4 (es:=es) (st:=st) (g:=g) (p:=p) (q:=tO n) with(⟨_,_,e,_⟩| ⟨m,_,_,e⟩| ⟨a,b,_,_,_,e⟩| ⟨l,e⟩)|⟨_,e⟩
 exact i2 e RA;exact .inr e;exact .inr e;exact .inl e;exact .inl e
theorem ao{v:Int}(h:(p,tO n,v)∈E4 es st g):rm (yA es st g) p (tO n)=2:=by
 have a:aI (yA es st g) p (tO n):=oB.mpr (vC.mpr (.inl #[v,h]));have l:n5 p (tO n):=(jC _ h).1;rcases G4 (es:=es) (st:=st) (g:=g) (p:=p) (q:=tO n) with(⟨_,_,e,_⟩| ⟨m,_,_,e⟩| ⟨a,b,_,_,_,e⟩| ⟨x,e⟩)|⟨z,e⟩
 exact i2 e RA;exact e;exact e;exact i2 l x;exact i2 a z
end
end
section
variable{es:NC}{st:LS}{g:Str}
def vs0(es:NC)(st:LS)(g:Str):List Pt:=(yA es st g).map (·.1)
def fl(es:NC)(st:LS)(g:Str)(r:Rm)(p q:Pt):Int:=rm (yA es st g) p q - rm r p q
def out(es:NC)(st:LS)(g:Str)(r:Rm)(p:Pt):Int:=sm (vs0 es st g) (fl es st g r p)
structure Base(es:NC)(st:LS)(g:Str)(r:Rm):Prop where
 ndi:yg r
 adj:∀p q,aI r p q↔aI (yA es st g) p q
 keys:r.map (·.1)=vs0 es st g
 nn:∀p q,0<=rm r p q
 anti:∀p q,fl es st g r p q=- fl es st g r q p
structure Flow(es:NC)(st:LS)(g:Str)(r:Rm):Prop extends Base es st g r where
 cons:∀x,x≠UA->x≠tO g->out es st g r x=0
theorem OF:(vs0 es st g).Nodup:=cD.ndk
theorem Jh:Flow es st g (yA es st g):=by
 have e:∀p q,fl es st g (yA es st g) p q=0:=λp q=>by unfold fl;omega
 refine#[#[cD.ndi,λp q=>WZ,rfl,λp q=>oz,λp q=>by rw[e,e];rfl],λx _ _=>?_];unfold out;rw[yB (g:=λ_=>0) λq _=>e x q];exact NG _
theorem UB{p q:Pt}(h:aI (yA es st g) p q):aI (yA es st g) q p:=oB.mpr (cD.sym p q (oB.mp h)).1
theorem mB{p q:Pt}(h:aI (yA es st g) p q):p∈vs0 es st g:=vB.mp (cD.sym p q (oB.mp h)).2
theorem VS{p q:Pt}(h:aI (yA es st g) p q):p≠q:=by
 rcases vC.mp (oB.mp h) with⟨v,m⟩| ⟨v,m⟩
 exact fG (jC _ m).1;exact(fG (jC _ m).1).symm
section
variable{r:Rm}
theorem Base.dom(b:Base es st g r):Ub r:=λp q h=>by have a:=(b.adj p q).mp (oB.mpr h);rw[vB,b.keys];exact mB (UB a)
theorem Base.bg(b:Base es st g r):Key r UA:=by rw[vB,b.keys];refine vB.mp ?_;show Key (yA es st g) UA;rw[ZE];exact xM.mpr (.inl #[[],i0 rfl])
theorem Base.len(b:Base es st g r):r.9=(yA es st g).length:=by have:=o9 qQ b.keys;unfold vs0 at this;rw[QD,QD]at this;exact this
theorem Base.adjw(b:Base es st g r){p q:Pt}(h:0<rm r p q):aI (yA es st g) p q:=(b.adj p q).mp (by
 unfold rm at h;cases e:look (lk r p) q with|none=>rw[e]at h;exact i2 h (ww 0)|some v=>exact#[v,e])
theorem FR{u:Pt}{l:Inn}(h:u∈r.map (·.1)):(put r u l).map (·.1)=r.map (·.1):=by rw[put_keys,i0 h]
theorem Base.pushed(b:Base es st g r){u v:Pt}(h:0<rm r u v):Base es st g (L1 r u v):=by
 have a:=b.adjw h;have y:=VS a;have e:=nW (r:=r) y;refine#[ae y b.ndi,λp q=>?_,?_,λp q=>?_,λp q=>?_];rw[Af y ((b.adj u v).mpr a) ((b.adj v u).mpr (UB a))];exact b.adj p q;have k:u∈r.map (·.1):=by rw[b.keys];exact mB a
 have f:v∈r.map (·.1):=by rw[b.keys];exact mB (UB a)
 unfold L1;rw[FR (by rw[FR k];exact f),FR k];exact b.keys;rw[e];have:=b.nn p q;by_cases c:p=u/\q=v;rw[i0 c,c.1,c.2];split<;>omega;rw[ii c];split<;>omega;unfold fl;rw[e,e];have:=b.anti p q;unfold fl at this;by_cases x:p=v/\q=u;rw[i0 x,i0 (c:=q=u/\p=v) #[x.2,x.1],ii (c:=p=u/\q=v) (λz=>y (z.1.symm.trans x.1)),ii (c:=q=v/\p=u) (λz=>y (z.2.symm.trans x.1))];omega;rw[ii x,ii (c:=q=u/\p=v) (λz=>x #[z.2,z.1])];by_cases w:p=u/\q=v;rw[i0 w,i0 (c:=q=v/\p=u) #[w.2,w.1]];omega;rw[ii w,ii (c:=q=v/\p=u) (λz=>w #[z.2,z.1])];omega
theorem vZ(b:Base es st g r){u v:Pt}(h:0<rm r u v)(x:Pt):out es st g (L1 r u v) x=out es st g r x+(if x=u then 1 else 0) - (if x=v then 1 else 0):=by
 have a:=b.adjw h;have f:=VS a;unfold out;have e:∀q,fl es st g (L1 r u v) x q=fl es st g r x q+((if q=v then(if x=u then 1 else 0) else 0)+-(if q=u then(if x=v then 1 else 0) else 0)):=λq=>by unfold fl;rw[nW f];by_cases k:x=u;have w:x≠v:=λz=>f (k.symm.trans z);rw[ii (c:=x=v/\q=u) (λz=>w z.1),i0 k,ii w];by_cases y:q=v;rw[i0 (c:=x=u/\q=v) #[k,y],i0 y];split<;>omega;rw[ii (c:=x=u/\q=v) (λz=>y z.2),ii y];split<;>omega;rw[ii (c:=x=u/\q=v) (λz=>k z.1),ii k];by_cases w:x=v;rw[i0 w];by_cases y:q=u;rw[i0 (c:=x=v/\q=u) #[w,y],i0 y];split<;>omega;rw[ii (c:=x=v/\q=u) (λz=>y z.2),ii y];split<;>omega;rw[ii (c:=x=v/\q=u) (λz=>w z.1),ii w];split<;>split<;>omega
 rw[yB λq _=>e q,AH,AH,kK,vK OF (mB (UB a)),vK OF (mB a)];omega
end
section
variable{r y:Rm}{ks:List Pt}
theorem CF.find{vs:List D}(h:CF r ks vs){q:Pt}(m:q∈ks)(b:q≠UA):∃z u p k v,CF r z u/\p∈z/\yi r p q/\q∉z/\ks=z++q::k/\vs=u++pr p::v:=by
 induction h with|bg=>exact i2 (QJ.mp m) b|@add ks vs p x c i w n f=>by_cases e:q∈ks;let#[z,u,a,k,v,Z,Y,X,s,o,l]:=f e;exact#[z,u,a,k++[x],v++[pr p],Z,Y,X,s,by rw[o,Q1];rfl,by rw[l,Q1];rfl];have j:q=x:=QJ.mp ((Qh.mp m).resolve_left e);subst j;exact#[ks,vs,p,[],[],c,i,w,n,rfl,rfl]
structure LC(es:NC)(st:LS)(g:Str)(y r:Rm)(here:Pt)(ks:List Pt):Prop extends Base es st g r where
 cons:∀x,x≠UA->x≠tO g->out es st g r x=if x=here then 1 else 0
 val:out es st g r UA=out es st g y UA+if here=UA then 1 else 0
 fresh:∀p,∀q∈ks,rm y p q<=rm r p q
theorem N8(f:Flow es st g y)(ks:List Pt):LC es st g y y (tO g) ks:=by refine#[f.toBase,λx u h=>?_,?_,λp q _=>QCr _];rw[ii h];exact f.cons x u h;rw[ii (λz=>AB z.symm)];omega
theorem He{h p:Pt}{u:List Pt}(nd:yg y)(l:LC es st g y r h ks)(e:h∈ks)(hb:h≠UA)(w:yi y p h)(b:h∉u)(hs:∀q∈u,q∈ks):0<rm r p h/\LC es st g y (L1 r p h) p u:=by have h0:0<rm r p h:=Int.lt_of_lt_of_le ((OV nd).mp w) (l.fresh p h e);have a:=VS (l.adjw h0);refine#[h0,l.toBase.pushed h0,λx k f=>?_,?_,λx q v=>?_];rw[vZ l.toBase h0,l.cons x k f];split<;>split<;>omega;rw[vZ l.toBase h0,l.val,ii hb,ii (c:=UA=h) (λz=>hb z.symm)];by_cases c:p=UA;rw[i0 c,i0 c.symm];omega;rw[ii c,ii (λz=>c z.symm)];omega;have k:=l.fresh x q (hs q v);rw[nW a,ii (c:=x=p/\q=h) (λz=>b (z.2▸v))];split<;>omega
theorem Sm(l:LC es st g y r UA ks):Flow es st g r/\out es st g r UA=out es st g y UA+1:=by refine#[#[l.toBase,λx h z=>?_],?_];rw[l.cons x h z,ii h];rw[l.val,i0 rfl]
end
end
section
variable{es:NC}{st:LS}{g:Str}{r:Rm}
section
variable{p q y:Pt}{n a:Str}{ks:List Pt}
theorem bM(b:Base es st g r)(h:rm (yA es st g) q p=0):fl es st g r p q=rm r q p:=by have:=b.anti p q;unfold fl at this ⊢;omega
def zW(r:Rm)(n:Str):Int:=rm r (fR n) (tO n)
theorem yW(b:Base es st g r)(n:Str):fl es st g r (tO n) (fR n)=zW r n:=bM b (UJ λl=>mF (.inr (.inl #[n,rfl,rfl])) l)
theorem KM(b:Base es st g r)(n:Str):zW r n<=1:=by rw[<- yW b];have x:=Cu (es:=es) (st:=st) (g:=g) (n:=n);have h:=b.nn (tO n) (fR n);unfold fl;omega
theorem C6(b:Base es st g r)(h:p∉vs0 es st g∨q∉vs0 es st g):rm r p q=0:=by refine AQ λa=>?_;have a:=(b.adj p q).mp a;rcases h with h|h;exact h (mB a);exact h (mB (UB a))
theorem Xg(l:List Pt)(nd:l.Nodup)(u:Pt)(k:Int)(h:u∉l->k=0):sm l (λx=>if x=u then k else 0)=k:=by by_cases m:u∈l;exact vK nd m;rw[MQ m,h m]
def inn(r:Rm)(n:Str)(y:Pt):Int:=if y=fR n then 0 else rm r (tO n) y
theorem ER(f:Flow es st g r)(h:n≠g):sm (vs0 es st g) (inn r n)=zW r n:=by
 have c:=f.cons (tO n) (λz=>AB z.symm) (λz=>h (FB z));unfold out at c;have e:∀y,fl es st g r (tO n) y=(if y=fR n then zW r n else 0)+- inn r n y:=λy=>by unfold inn;by_cases e:y=fR n;rw[i0 e,i0 e,e,yW f.toBase];omega;rw[ii e,ii e];unfold fl;rw[Jo e];omega
 rw[yB λy _=>e y,AH,kK,Xg _ OF (fR n) (zW r n) (λz=>C6 f.toBase (.inl z))]at c;omega
theorem TR(b:Base es st g r)(n:Str)(y:Pt):0<=inn r n y:=by unfold inn;split;decide;exact b.nn _ _
def sd(r:Rm)(n:Str)(y:Pt):Int:=if y=tO n then 0 else rm r y (fR n)
theorem kZ(f:Flow es st g r)(n:Str):sm (vs0 es st g) (sd r n)=zW r n:=by
 have c:=f.cons (fR n) (λz=>OE z.symm) (λz=>RA z.symm);unfold out at c;have e:∀y,fl es st g r (fR n) y=- (if y=tO n then zW r n else 0)+sd r n y:=λy=>by unfold sd;by_cases e:y=tO n;rw[i0 e,i0 e,e];have:=f.anti (fR n) (tO n);rw[yW f.toBase]at this;omega;rw[ii e,ii e,bM f.toBase (pz e)];omega
 rw[yB λy _=>e y,AH,kK,Xg _ OF (tO n) (zW r n) (λz=>C6 f.toBase (.inr z))]at c;omega
theorem Zl(b:Base es st g r)(n:Str)(y:Pt):0<=sd r n y:=by unfold sd;split;decide;exact b.nn _ _
def MV(r:Rm)(n:Str):Prop:=0<rm r (tO n) UA
def Xb(r:Rm)(a b:Str):Prop:=a≠b/\0<rm r (tO b) (fR a)
theorem sK(b:Base es st g r)(h:MV r n):n∈st/\n≠g:=by
 rcases vC.mp (oB.mp (b.adjw h)) with⟨v,m⟩| ⟨v,m⟩
 exact i2 (jC _ m).1 λl=>by
  rcases l with⟨e,_⟩| ⟨_,_,e⟩| ⟨_,_,_,e,_⟩
  exact AB e.symm;exact OE e;exact RA e
 rcases lE.mp m with⟨k,mk,x,e|e⟩| ⟨e,_,_,y|y|y⟩
 ·exact i2 (o9 qp e) AB
 have:=o9 (λw:Wy=>w.2.1) e;rw[FB this];exact#[mk,x];exact i2 (o9 qp y) AB;exact i2 (o9 qp y) AB;exact i2 (o9 qp y) OE
theorem Zm(b:Base es st g r){c:Str}(h:Xb r a c):(a,c)∈es/\a≠g:=by
 rcases vC.mp (oB.mp (b.adjw h.2)) with⟨v,m⟩| ⟨v,m⟩
 exact i2 (jC _ m).1 λl=>by
  rcases l with⟨e,_⟩| ⟨k,z,x⟩| ⟨_,_,_,e,_⟩
  exact AB e.symm;exact h.1 ((uI x).trans (FB z).symm);exact RA e
 rcases lE.mp m with⟨k,mk,u,e|e⟩| ⟨e,f,u,y|y|y⟩
 ·exact i2 (o9 qp e).symm RA
 exact i2 (o9 qp e).symm OE;exact i2 (o9 qp y).symm RA;exact i2 (o9 qp y).symm RA;have z:a=e.1:=uI (o9 qp y);have x:c=e.2:=FB (o9 (λw:Wy=>w.2.1) y);rw[z,x];exact#[f,u.1]
theorem mX:inn r n UA=rm r (tO n) UA:=by unfold inn;exact ii OE
theorem oR(h:a≠n):inn r n (fR a)=rm r (tO n) (fR a):=by unfold inn;exact ii λz=>h (uI z)
theorem be(h:a≠n):sd r a (tO n)=rm r (tO n) (fR a):=by unfold sd;exact ii λz=>h (FB z).symm
theorem xJ(b:Base es st g r)(h:0<rm r p q):p∈vs0 es st g/\q∈vs0 es st g:=#[mB (b.adjw h),mB (UB (b.adjw h))]
theorem UZ(f:Flow es st g r)(n:Str)(h:n≠g):rm r (tO n) UA<=1:=by by_cases c:0<rm r (tO n) UA;have z:=TH (λx _=>TR f.toBase n x) (xJ f.toBase c).2;rw[ER f h,mX]at z;exact Ws z (KM f.toBase n);omega
theorem gf(f:Flow es st g r)(h:MV r n):zW r n=1:=by have ng:=(sK f.toBase h).2;have z:=TH (λx _=>TR f.toBase n x) (xJ f.toBase h).2;rw[ER f ng,mX]at z;have:=KM f.toBase n;unfold MV at h;omega
theorem ue(f:Flow es st g r)(h:Xb r a n)(ng:n≠g):zW r n=1:=by have z:=TH (λx _=>TR f.toBase n x) (xJ f.toBase h.2).2;rw[ER f ng,oR h.1]at z;have:=KM f.toBase n;have:=h.2;omega
theorem R5(f:Flow es st g r)(ng:n≠g){x:Pt}(u:0<inn r n x)(h:0<inn r n y):x=y:=by
 have w:x∈vs0 es st g:=by unfold inn at u;split at u;exact i2 u (ww 0);exact(xJ f.toBase u).2
 have v:y∈vs0 es st g:=by unfold inn at h;split at h;exact i2 h (ww 0);exact(xJ f.toBase h).2
 by_cases e:x=y;exact e;have k:=d6 (λz _=>TR f.toBase n z) w v e;rw[ER f ng]at k;have:=KM f.toBase n;omega
theorem cZ(f:Flow es st g r){b:Str}(ng:n≠g)(x:Xb r a n)(h:Xb r b n):a=b :=
 uI (R5 f ng (by rw[oR x.1];exact x.2) (by rw[oR h.1];exact h.2))
theorem uS(f:Flow es st g r)(x:MV r n)(h:Xb r a n):False :=
 OE (R5 f (sK f.toBase x).2 (by rw[mX];exact x) (by rw[oR h.1];exact h.2))
theorem y8(f:Flow es st g r)(h:zW r n=1):∃y,y≠tO n/\0<rm r y (fR n):=by let#[y,_,x]:=f6 (f:=sd r n) (l:=vs0 es st g) (by rw[kZ f,h];decide);unfold sd at x;split at x;exact i2 x (ww 0);rename_i ne;exact#[y,ne,x]
theorem vh(b:Base es st g r)(h:aI r y (fR n)):∃m,y=tO m:=by
 rcases vC.mp (oB.mp ((b.adj _ _).mp h)) with⟨v,m⟩| ⟨v,m⟩
 rcases(jC _ m).1 with⟨_,k,e⟩| ⟨k,e,_⟩| ⟨_,k,_,_,e⟩
 ·exact i2 e.symm RA
 exact#[k,e];exact i2 e.symm RA;rcases(jC _ m).1 with⟨e,_⟩| ⟨k,e,_⟩| ⟨_,k,_,_,e⟩
 ·exact i2 e.symm OE
 exact i2 e.symm RA;exact#[k,e]
theorem n8(b:Base es st g r)(h:aI r y UA):∃m,y=tO m:=by
 rcases vC.mp (oB.mp ((b.adj _ _).mp h)) with⟨v,m⟩| ⟨v,m⟩
 rcases(jC _ m).1 with⟨_,k,e⟩| ⟨k,_,e⟩| ⟨_,k,_,_,e⟩
 ·exact i2 e AB
 exact i2 e OE;exact i2 e AB;rcases(jC _ m).1 with⟨_,k,e⟩| ⟨k,e,_⟩| ⟨_,k,_,e,_⟩
 ·exact#[k,e]
 exact i2 e AB;exact i2 e OE
theorem Ym(f:Flow es st g r)(h:zW r n=1):∃m,Xb r n m:=by let#[y,z,x]:=y8 f h;let#[m,rfl]:=vh f.toBase ((f.adj _ _).mpr (f.toBase.adjw x));exact#[m,λe=>z (by rw[e]),x]
theorem cP(f:Flow es st g r){v:Int}(m:(p,tO n,v)∈E4 es st g):0<rm r p (tO n):=by
 have c:=ao m;have l:=(jC _ m).1;have h:fl es st g r p (tO n)=rm r (tO n) p:=bM f.toBase (UJ (mF l));unfold fl at h;rw[c]at h;have key:rm r (tO n) p<=1:=by
  rcases lE.mp m with⟨k,mk,z,e|e⟩| ⟨e,o,z,y|y|y⟩
  exact i2 (o9 (λw:Wy=>w.2.1) e) RA;have b:p=UA:=o9 qp e;have u:n=k:=FB (o9 (λw:Wy=>w.2.1) e);rw[b];exact UZ f n (by rw[u];exact z);exact i2 (o9 (λw:Wy=>w.2.1) y) RA;exact i2 (o9 (λw:Wy=>w.2.1) y) RA;have b:p=fR e.1:=o9 qp y;have u:n=e.2:=FB (o9 (λw:Wy=>w.2.1) y);rw[b];by_cases c:0<rm r (tO n) (fR e.1);have j:e.1≠n:=by rw[u];exact z.2
  have i:=TH (λx _=>Zl f.toBase e.1 x) (xJ f.toBase c).1;rw[kZ f,be j]at i;exact Ws i (KM f.toBase _);omega
 omega
theorem rT{l m:List Pt}(v:l.Nodup)(u:m.Nodup)(h:∀x,x∈l↔x∈m):l.9=m.length:=by have a:=jH v λx z=>(h x).mp z;have b:=jH u λx z=>(h x).mpr z;omega
noncomputable def oH(ks:List Pt)(x:Pt):Bool:=decide (x.2="to")&&!decide (fR x.1∈ks)
theorem ID{x:Pt}:oH ks x=kf↔∃n,x=tO n/\fR n∉ks:=by unfold oH;rw[Qa,qE,o2,decide_eq_false_iff_not];constructor;rintro⟨u,z⟩;exact#[x.1,QCi rfl u,z];rintro⟨n,rfl,h⟩;exact#[rfl,h]
theorem NQ(p:Pt->Bool):∀(l:List Pt),sm l (λx=>if p x=kf then 1 else 0)=(l.filter p).9
 |[]=>rfl|x::l=>by show(if p x=kf then 1 else 0)+sm l _=_;rw[NQ p l,WN];by_cases c:p x=kf;rw[i0 c,i0 c,QO];omega;rw[ii c,ii c];omega
theorem MU(f:Flow es st g r)(nd:ks.Nodup)(hk:∀p,p∈ks↔Rch r p)(M:tO g∉ks):out es st g r UA=(ks.filter (oH ks)).length:=by
 have sub:∀p∈ks,p∈vs0 es st g:=λp L=>by have:=vB.mp (OI f.toBase.dom f.toBase.bg ((hk p).mp L));rw[f.keys]at this;exact this
 have o:∀x∈ks,∀y,y∉ks->rm r x y=0:=λx w y u=>by have:=f.nn x y;by_cases c:0<rm r x y;exact i2 ((hk y).mpr (.go ((hk x).mp w) ((OV f.ndi).mpr c))) u;omega
 have I:sm ((vs0 es st g).filter λx=>decide (x∈ks)) (λx=>out es st g r x)=out es st g r UA:=by
  have hb:UA∈ks:=(hk UA).mpr .bg;have e:∀x∈(vs0 es st g).filter (λx=>decide (x∈ks)),out es st g r x=if x=UA then out es st g r UA else 0:=λx w=>by by_cases c:x=UA;rw[i0 c,c];rw[ii c];exact f.cons x c λz=>M (z▸ot (Qc.mp w).2)
  rw[yB e];exact vK (OF.sublist qH) (Qc.mpr #[sub _ hb,dT hb])
 have G:∀x∈(vs0 es st g).filter (λx=>decide (x∈ks)),sm ((vs0 es st g).filter λy=>!decide (y∈ks)) (fl es st g r x)=if oH ks x=kf then 1 else 0:=λx w=>by
  have W:x∈ks:=ot (Qc.mp w).2;have Z:=(Qc.mp w).1;have k:∀y∈(vs0 es st g).filter (λy=>!decide (y∈ks)),y∉ks/\fl es st g r x y=rm (yA es st g) x y:=λy u=>by have:=(Qc.mp u).2;rw[qE,decide_eq_false_iff_not]at this;refine#[this,?_];unfold fl;rw[o x W y this];omega
  have B:∀y∈(vs0 es st g).filter (λy=>!decide (y∈ks)),∀n,y=tO n->fl es st g r x y=0:=λy u n e=>by
   let#[C,O]:=k y u;rw[O,e];by_cases A:x=fR n;rw[A];exact UJ λl=>mF (.inr (.inl #[n,rfl,rfl])) l;rcases Bu (es:=es) (st:=st) (g:=g) A with z|z
   ·exact z
   have a:aI (yA es st g) x (tO n):=by refine wa λJ=>?_;rw[AQ J]at z;exact i2 z (by decide)
   rcases vC.mp (oB.mp a) with⟨v,m⟩| ⟨v,m⟩
   have:=cP f m;rw[o x W (tO n) (e▸C)]at this;exact i2 this (ww 0);rw[UJ (mF (jC _ m).1)]
  rcases cD.kind x (vB.mpr Z) with e|⟨n,e|e⟩
  have i:¬ oH ks x=true:=λz=>by let#[n,j,_]:=ID.mp z;exact AB (e.symm.trans j)
  rw[ii i];rw[yB (g:=λ_=>0),NG];intro y u;by_cases t:∃n,y=tO n;let#[n,t]:=t;exact B y u n t;rw[(k y u).2,e];exact UJ λl=>by
   rcases l with⟨_,z⟩| ⟨n,z,_⟩| ⟨_,b,_,_,z⟩
   exact t z;exact AB z;exact t #[b,z]
  by_cases X:fR n∈ks
  ·have i:¬ oH ks x=true:=λz=>by
    let#[m,j,h]:=ID.mp z;rw[<- FB (e.symm.trans j)]at h;exact h X
   rw[ii i,yB (g:=λ_=>0),NG];intro y u;rw[(k y u).2,e];exact Jo λz=>(k y u).1 (z▸X)
  rw[i0 (ID.mpr #[n,e,X])];have K:Key (yA es st g) (tO n):=by rw[<- e];exact vB.mpr Z
  have N:fR n∈vs0 es st g:=mB (UB (oB.mpr (UP K)));rw[yB (g:=λy=>if y=fR n then 1 else 0)];exact vK (OF.sublist qH) (Qc.mpr #[N,by rw[dF X];rfl]);intro y u;rw[(k y u).2,e];by_cases c:y=fR n;rw[i0 c,c,Yo K];rw[ii c,Jo c];have i:¬ oH ks x=true:=λz=>by let#[m,j,_]:=ID.mp z;exact RA (j.symm.trans e)
  rw[ii i,yB (g:=λ_=>0),NG];intro y u;by_cases t:∃n,y=tO n;let#[n,t]:=t;exact B y u n t;rw[(k y u).2,e];exact UJ λl=>by
   rcases l with⟨z,_⟩| ⟨n,z,_⟩| ⟨_,b,_,_,z⟩
   exact OE z.symm;exact RA z.symm;exact t #[b,z]
 have F:∀x,out es st g r x=sm ((vs0 es st g).filter λy=>decide (y∈ks)) (fl es st g r x)+sm ((vs0 es st g).filter λy=>!decide (y∈ks)) (fl es st g r x):=λx=>cT _ _;have E:sm ((vs0 es st g).filter λx=>decide (x∈ks)) (λx=>out es st g r x)=sm ((vs0 es st g).filter λx=>decide (x∈ks)) (λx=>if oH ks x=kf then 1 else 0):=by rw[yB λx _=>F x,AH,gc _ λx _ y _=>f.anti x y,yB G];omega
 rw[<- I,E,NQ];have:(((vs0 es st g).filter λx=>decide (x∈ks)).filter (oH ks)).9=(ks.filter (oH ks)).length:=by refine rT ((OF.sublist qH).sublist qH) (nd.sublist qH) λx=>?_;rw[Qc,Qc,Qc,o2];exact#[λ#[#[_,s],Y]=>#[s,Y],λ#[s,Y]=>#[#[sub x s,s],Y]]
 rw[this]
theorem mf(f:Flow es st g r):out es st g r UA=(((lk r UA).map (·.1)).filter λy=>decide (0<rm r y UA)).length:=by
 have e:∀y∈vs0 es st g,fl es st g r UA y=if decide (0<rm r y UA)=kf then 1 else 0:=λy x=>by rw[bM f.toBase tz];have h0:=f.nn y UA;by_cases c:0<rm r y UA;rw[dT c,i0 rfl];let#[n,e]:=n8 f.toBase ((f.adj _ _).mpr (f.toBase.adjw c));rw[e]at c ⊢;have:=UZ f n (sK f.toBase c).2;omega;rw[dF c,ii (by decide)];omega
 unfold out;rw[yB e,NQ];have:((vs0 es st g).filter λy=>decide (0<rm r y UA)).9=(((lk r UA).map (·.1)).filter λy=>decide (0<rm r y UA)).length:=by refine rT (OF.sublist qH) ((f.ndi UA).sublist qH) λy=>?_;rw[Qc,Qc,o2];refine#[λ#[_,h]=>#[?_,h],λ#[_,h]=>#[(xJ f.toBase h).1,h]];let#[v,hv]:=(f.adj UA y).mpr (UB (f.toBase.adjw h));exact QZ.mpr #[(y,v),yH hv,rfl]
 rw[this]
theorem Kf(f:Flow es st g r)(hk:∀p,p∈ks↔Rch r p)(o:tO g∉ks){cut:LS}(hc:∀n,tO n∈ks->fR n∉ks->n∈cut):¬ ∃a,(a,g)∈es/\Led es st g cut a:=by
 have u:∀p∈ks,∀n v,(p,tO n,v)∈E4 es st g->tO n∈ks:=λp j n v m=>(hk _).mpr (.go ((hk _).mp j) ((OV f.ndi).mpr (cP f m)));have key:∀n,Led es st g cut n->fR n∈ks:=λn h=>by
  induction h with|@st s h k=>let#[w,x]:=ME.mp k;have t:=u UA ((hk _).mpr .bg) s 2 (lE.mpr (.inl #[s,h,w,.inr rfl]));exact wa λz=>x (hc s t z)|@ed a b l m k i=>let#[w,x]:=ME.mp k;by_cases e:a=b;rw[<- e];exact i;have t:=u (fR a) i b 2 (lE.mpr (.inr #[(a,b),m,#[(VN l).1,e],.inr (.inr rfl)]));exact wa λz=>x (hc b t z)
 rintro⟨a,m,l⟩;exact o (u (fR a) (key a l) g 2 (lE.mpr (.inr #[(a,g),m,#[(VN l).1,(VN l).1],.inr (.inr rfl)])))
end
end
inductive Run(r:Rm)(g f:Str):LS->Str->Prop
 |nil:Run r g f [] f
 |go {c:LS}{n m:Str}:Run r g f c n->n≠g->Xb r n m->Run r g f (c++[n]) m
inductive Chn(es:NC)(st:LS)(g:Str):LS->Str->Prop
 |st {f:Str}:f∈st->f≠g->Chn es st g [] f
 |go {c:LS}{n m:Str}:Chn es st g c n->n≠g->(n,m)∈es->Chn es st g (c++[n]) m
section
variable{es:NC}{st:LS}{g:Str}{r:Rm}
section
variable{s n:Str}{c:LS}
theorem Run.chn(f:Flow es st g r)(hs:MV r s)(h:Run r g s c n):Chn es st g c n:=by
 induction h with|nil=>exact .st (sK f.toBase hs).1 (sK f.toBase hs).2|go _ ng x y=>exact .go y ng (Zm f.toBase x).1
theorem Run.thr1(f:Flow es st g r)(hs:MV r s)(h:Run r g s c n)(ng:n≠g):zW r n=1:=by
 cases h with|nil=>exact gf f hs|go _ _ x=>exact ue f x ng
theorem Run.pred(h:Run r g s c n):∀x,x∈c∨x=n->x=s∨∃y∈c,Xb r y x:=by
 induction h with
 |nil=>intro x u;exact u.elim (λz=>(nomatch z)) .inl
 |@go c n m _ _ v w =>
  intro x u;rcases u with u|rfl;have:x∈c∨x=n:=(Qh.mp u).imp_right QJ.mp;rcases w x this with z|⟨y,k,z⟩
  exact .inl z;exact .inr #[y,Qm _ k,z];exact .inr #[n,QY _ QF,v]
theorem Run.ng(h:Run r g s c n):∀x∈c,x≠g:=by
 induction h with
 |nil=>exact λx y=>(nomatch y)
 |go _ k _ u=>intro x y;rcases Qh.mp y with z|z;exact u x z;rw[QJ.mp z];exact k
theorem Run.nd(f:Flow es st g r)(hs:MV r s)(h:Run r g s c n):c.Nodup/\n∉c:=by
 induction h with
 |nil=>exact#[Q7,λz=>(nomatch z)]
 |@go c n m h k x u =>
  have nd:(c++[n]).Nodup:=qy.mpr #[u.1,Qk.mpr #[λz=>(nomatch z),Q7],λa w b hb z=>by rw[QJ.mp hb]at z;exact u.2 (z▸w)];refine#[nd,λz=>?_];rcases Qh.mp z with z|z;rcases h.pred m (.inl z) with e|⟨y,v,e⟩
  ·rw[e]at x;exact uS f hs x
  rw[cZ f (h.ng m z) e x]at v;exact u.2 v;exact x.1 (QJ.mp z).symm
theorem Run.apart(f:Flow es st g r){s':Str}(hs:MV r s)(b:MV r s'){l:LS}{p:Str}(h:Run r g s c n)(h':Run r g s' l p):∀x∈c,x∈l->s=s':=by
 induction h with
 |nil=>exact λx a=>(nomatch a)
 |@go c n m h k q i =>
  intro x a v;rcases Qh.mp a with z|z;exact i x z v;have z:=QJ.mp z;subst z;rcases h.pred x (.inr rfl) with e|⟨y,j,e⟩<;>rcases h'.pred x (.inl v) with u|⟨o,w,u⟩
  exact e.symm.trans u;rw[e]at u;exact(uS f hs u).elim;rw[u]at e;exact(uS f b e).elim;rw[cZ f k e u]at j;exact i o j w
end
end
section
variable{es:NC}{st:LS}{g:Str}
theorem Uf{cut:LS}{c:LS}{n:Str}(h:Chn es st g c n)(hc:∀x∈c,x∉cut)(ng:n≠g)(y:n∉cut):Led es st g cut n:=by
 induction h with|st h _=>exact .st h (ME.mpr #[ng,y])|@go c n m _ k e z=>exact .ed (z (λx u=>hc x (Qm _ u)) k (hc n (QY _ QF))) e (ME.mpr #[ng,y])
theorem ja{cut:LS}{c:LS}(h:Chn es st g c g)(hl:¬ ∃a,(a,g)∈es/\Led es st g cut a):∃x∈c,x∈cut:=by
 refine wa λz=>?_;have hc:∀x∈c,x∉cut:=λx y m=>z #[x,y,m];cases h with|st _ e=>exact e rfl|@go c n _ h k e=>exact hl #[n,e,Uf h (λx y=>hc x (Qm _ y)) k (hc n (QY _ QF))]
def AJ:List (LS)->Prop
 |[]=>True|c::cs=>(∀d∈cs,∀x∈c,x∉d)/\AJ cs
theorem Og{cut:LS}:∀{cs:List (LS)},AJ cs->(∀c∈cs,∃x∈c,x∈cut)->∃u:LS,u.9=cs.9/\u.Nodup/\(∀p∈u,p∈cut)/\∀p∈u,∃c∈cs,p∈c
 |[],_,_=>#[[],rfl,Q7,λ_ z=>(nomatch z),λ_ z=>(nomatch z)]
 |c::cs,a,h=>by
  let#[u,f,e,b,k]:=Og (cs:=cs) a.2 λd v=>h d (QE _ v);let#[x,w,hc]:=h c QF;refine#[x::u,by rw[QO,QO,f],Qk.mpr #[λz=>?_,e],λp y=>?_,λp y=>?_];let#[d,v,y]:=k x z;exact a.1 d v x w y;rcases QL.mp y with z|z
  ·rw[z];exact hc
  exact b p z;rcases QL.mp y with z|z
  ·exact#[c,QF,by rw[z];exact w]
  let#[d,v,y]:=k p z;exact#[d,QE _ v,y]
theorem U4{cut:LS}{cs:List (LS)}(a:AJ cs)(h:∀c∈cs,Chn es st g c g)(hl:¬ ∃a,(a,g)∈es/\Led es st g cut a):cs.9<=cut.length:=by let#[u,z,y,x,_]:=Og a λc hc=>ja (h c hc) hl;rw[<- z];exact JR y x
end
section
variable{ks:List Pt}{vs:List D}{p:Pt}
noncomputable def MC(ks:List Pt)(vs:List D):List (D×D):=(ks.map pr).zip vs
theorem so(ks:List Pt)(vs:List D):(Gf ks vs).er=.dict (MC ks vs):=by show PyData.dict ((ks.map pr).zip (ersT (vs.map T.d)))=_;rw[fB];rfl
theorem cM(h:vs.9=ks.9):(MC ks vs).map (·.1)=ks.map pr:=Wx (by rw[QD];omega)
theorem Ff(h:vs.9=ks.9):(MC ks vs).map (·.2)=vs:=WK (by rw[QD];omega)
theorem KJ(h:vs.9=ks.9)(m:p∈ks):FC (MC ks vs)=jr true:=by
 cases ks with
 |nil=>exact(nomatch m)
 |cons x ks=>cases vs with|nil=>cases h|cons y vs=>rfl
theorem GU{q:Pt}{u:List Pt}:∀{y:List Pt},q∉y->cA ((y++q::u).map pr) (pr q)=jr y.9
 |[],_=>Yh rfl|x::y,h=>by show cA (pr x::(y++q::u).map pr) (pr q)=_;rw[U9 (λz=>h (by rw[xR z];exact QF)),GU λz=>h (QE _ z)];rfl
theorem kq{h z:List Pt}{y x:List D}{q:Pt}{n m:Bool}{R:T->Prop}(u:y.9=h.9)(w:x.9=z.9)(v:q∉h)(k:R (.d (pr p))):XA (.d (.dict (MC (h++q::z) (y++pr p::x)))) n (.d (pr q)) m R:=by
 have hl:(y++pr p::x).9=(h++q::z).length:=by rw[QI,QI,QO,QO,u,w]
 refine yq (KJ hl (p:=q) (QY _ QF)) (EB q) (by rw[cM hl];exact GU v) ?_ k;rw[Ff hl,<- u,Qx (QT _),QBV];rfl
theorem cS(a b:Pt):Ql (pr a) (pr b)=decide (a=b):=by
 rw[Qz,o2];have e:Ql (pr a) (pr b)=(Ql (.str a.1) (.str b.1)&&(Ql (.str a.2) (.str b.2)&&kf)):=by simp[pr,Ql,PyData.eqvAll]
 rw[e,iK,iK,QBz,Qa,o2,o2];exact#[λh=>QCi h.1 h.2,λh=>by rw[h];exact#[rfl,rfl]]
def AK(es:NC)(st:LS):Prop:=(∀s∈st,ql s=kf)/\∀e∈es,ql e.1=kf/\ql e.2=kf
theorem yD{a b:Str}(x:ql a=kf)(h:ql b=kf):JE (pr (a,b)):=by refine#[?_,?_];simp only[pr,QAf,qz,x,h,Bool.and_self];simp only[pr,QBP,wm];decide
theorem bT:ql "to"=true:=by decide +kernel
theorem UY:ql "from"=true:=by decide +kernel
theorem oP:ql ""=kf/\ql "begin"=true:=by decide +kernel
theorem z9{es:NC}{st:LS}{g:Str}(h:AK es st)(k:p∈vs0 es st g):JE (pr p):=by
 have k:Key (yA es st g) p:=vB.mpr k;rw[ZE]at k;rcases xM.mp k with z|⟨⟨u,v,c⟩,m,z⟩
 rw[QJ.mp (vB.mp z)];exact yD oP.1 oP.2;have z:p=u∨p=v:=z;rcases lE.mp m with⟨n,w,_,e|e⟩| ⟨e,x,_,y|y|y⟩
 cases e;rcases z with z|z<;>subst z;exact yD (h.1 n w) bT;exact yD (h.1 n w) UY;cases e;rcases z with z|z<;>subst z;exact yD oP.1 oP.2;exact yD (h.1 n w) bT;cases y;rcases z with z|z<;>subst z;exact yD (h.2 e x).1 bT;exact yD (h.2 e x).1 UY;cases y;rcases z with z|z<;>subst z;exact yD (h.2 e x).2 bT;exact yD (h.2 e x).2 UY;cases y;rcases z with z|z<;>subst z;exact yD (h.2 e x).1 UY;exact yD (h.2 e x).2 bT
def GS(r:Rm)(kd:List (D×D))(last:D)(h:Pt)(o4:Option Sl):xA:=[oW (cB r),bD (.dict kd),bD last,bD (pr h),o4]
end
section
variable{Ψ:PEv}{Z:PEnds}{q:PT}{r:Rm}{h:List (D×D)}{last:D}{u v:Pt}
theorem cy(hk:Key r u)(w:aI r u v)(hl:(lk r u).9<kt)(k:pF Ψ q Z (GS (put r u (put (lk r u) v (rm r u v - 1))) h last v (bD (pr u)))) :
  pF Ψ (.seq (.six (.idx (.var 0) (.var 4)) (.var 3) (.bin .Sub (.idx (.idx (.var 0) (.var 4)) (.var 3)) (.int 1))) q) Z (GS r h last v (bD (pr u))):=by
 let#[x,y]:=w;have e:rm r u v=x:=by unfold rm;rw[y];rfl
 rw[e]at k;delta GS at k ⊢;simp![↓tI];refine jF hk ?_;simp![↓o0];refine sQ y ?_;simp![↓kA];refine YI (HE hk) λf z=>JQ hl ?_;rw[z];exact k
theorem uy(hk:Key r v)(w:aI r v u)(hl:(lk r v).9<kt)(k:pF Ψ q Z (GS (put r v (put (lk r v) u (rm r v u+1))) h last v (bD (pr u)))) :
  pF Ψ (.seq (.six (.idx (.var 0) (.var 3)) (.var 4) (.bin .Add (.idx (.idx (.var 0) (.var 3)) (.var 4)) (.int 1))) q) Z (GS r h last v (bD (pr u))):=by
 let#[x,y]:=w;have e:rm r v u=x:=by unfold rm;rw[y];rfl
 rw[e]at k;delta GS at k ⊢;simp![↓tI];refine jF hk ?_;simp![↓o0];refine sQ y ?_;simp![↓kA];refine YI (HE hk) λf z=>JQ hl ?_;rw[z];exact k
end
theorem Base.inn{es:NC}{st:LS}{g:Str}{r:Rm}(b:Base es st g r)(p:Pt):(lk r p).9<=(yA es st g).length:=by
 have:=jH (ns:=vs0 es st g) (b.ndi p) λq h=>by let#[e,x,z]:=QZ.mp h;have a:aI r p q:=oB.mpr #[e.2,by rw[<- z];exact x];exact mB (UB ((b.adj p q).mp a))
 unfold vs0 at this;rw[QD,QD]at this;exact this
section
variable{Ψ:PEv}{Z:PEnds}{es:NC}{st:LS}{g:Str}
theorem Be{m r:Rm}{ks:List Pt}{vs:List D}{x:Pt}{last:D}{o4:Option Sl}{z v:List Pt}{b u:List D}(hsz:(yA es st g).9<=1000)(Q:yg m)(G:CF m z b)(R:ks=z++v)(ev:vs=b++u)(h9:u.9=v.9)(E:x∈z)(hb:x≠UA)(i:LC es st g m r x z)
  (k:∀h y n l p r',CF m h y->ks=h++n->vs=y++l->l.9=n.9->h.9<z.9->p∈h->LC es st g m r' p h->Z.nx (GS r' (MC ks vs) last p (bD (pr p)))) :
  pF Ψ sE Z (GS r (MC ks vs) last x o4):=by
 let#[h,y,p,j,e,I,P,w,A,X,F]:=G.find E hb;have L:=G.len;have J:=I.len;have S:e.9=j.length:=by rw[X,F,QI,QI,QO,QO]at L;omega
 have s:ks=h++x::(j++v):=by rw[R,X,Q1];rfl
 have o:vs=y++pr p::(e++u):=by rw[ev,F,Q1];rfl
 let#[W,K]:=He Q i E hb w A λq O=>by rw[X];exact Qm _ O
 have a:=i.adjw W;have B:=VS a;have N:Key r p:=by rw[vB,i.keys];exact mB a
 have M:Key r x:=by rw[vB,i.keys];exact mB (UB a)
 have C:=i.toBase.inn;have Y:pF Ψ %[.set 3 (.var 4)|2] Z (GS (L1 r p x) (MC ks vs) last x (bD (pr p))):=by have:=k h y (x::(j++v)) (pr p::(e++u)) p (L1 r p x) I s o (by rw[QO,QO,QI,QI];omega) (by rw[X,QI,QO];omega) P K;unfold GS at this;delta GS;simp![↓kA];exact this
 have f:pF Ψ %[.six (.idx (.var 0) (.var 4)) (.var 3) (.bin .Sub (.idx (.idx (.var 0) (.var 4)) (.var 3)) (.int 1)),.six (.idx (.var 0) (.var 3)) (.var 4) (.bin .Add (.idx (.idx (.var 0) (.var 3)) (.var 4)) (.int 1)),.set 3 (.var 4)|2] Z (GS r (MC ks vs) last x (bD (pr p))):=by have i1:=C p;have H:=C x;refine cy N ((i.adj _ _).mpr a) () (uy ?_ ?_ ?_ Y);exact mJ.mpr (.inr M);show aI _ x p;have:=(i.adj x p).mpr (UB a);unfold aI at this ⊢;rw[fE,ii B];exact this;rw[fE,ii B];omega
 unfold GS at f;delta GS;delta sE;simp![↓kA];rw[s,o]at f ⊢;refine kq J (by rw[QI,QI];omega) A ?_;simp![↓kA];exact f
end
section
variable{Ψ:PEv}{W:LT->Prop}{n m:Bool}{E:XE}{ρ:xA}{R:T->Prop}{a g f:Str}{es:NC}{st c:LS}{r:Rm}{Z:PEnds}{ks:List Pt}{vs:List D}{L:Bool->Prop}{Q:T->Bool->Prop}{i:Nat}{cs:List (LS)}
def XQ:PSp where
 md:=[.chg]
 run:=λy Q _=>∃(es:NC) (st:LS) (g:Str) (h:Rm) (ks:List Pt) (vs:List D),y=[cB h,.d (.dict (MC ks vs)),.d (pr (tO g))]/\((yA es st g).9<=1000/\AK es st/\Flow es st g h/\CF h ks vs/\tO g∈ks)/\∀x,Flow es st g x->out es st g x UA=out es st g h UA+1->Q (.d .none) [cB x]
theorem vm(B:Ψ.va "BEGIN"=jr (pr UA)):GD Ψ aG XQ ZL EI:=by
 rintro _ Q _ ⟨es,st,g,k,ks,vs,rfl,⟨N,M,fl,H,I⟩,q⟩;refine YK [oW (cB k),bD (.dict (MC ks vs)),bD (pr (tO g)),kv,kv] ?_;delta aG;simp![↓kA];refine eI (λm ρ=>∃r h x v u y o4,m=h.9/\CF k h x/\ks=h++v/\vs=x++u/\u.9=v.9/\y∈h/\LC es st g k r y h/\ρ=GS r (MC ks vs) (pr (tO g)) y o4) ks.9 #[k,ks,vs,[],[],tO g,_,rfl,H,by rw[Qy],by rw[Qy],rfl,I,N8 fl ks,rfl] ?_;rintro m ρ ⟨r,h,x,v,u,y,o4,em,C,S,ev,J,K,Y,rfl⟩;have o:JE (pr y):=z9 M (by have:=OI fl.toBase.dom fl.toBase.bg (C.rch y K);rw[vB,fl.keys]at this;exact this);have s:JE (pr UA):=yD oP.1 oP.2;have z:∀L:Bool->Prop,L (!decide (y=UA))->SB .NotEq (.d (pr y)) (.d (pr UA)) L:=λL l=>by show JE (pr y)/\JE (pr UA)/\L (!PyData.eqv (pr y) (pr UA));rw[cS];exact#[o,s,l]
 by_cases e:y=UA;subst e;delta GS;simp![↓NH B];refine z _ ?_;rw[dT rfl];let#[P,O]:=Sm Y;exact q r P O;have A:=λ(Z:PEnds) G=>Be (Ψ:=Ψ) (Z:=Z) (last:=pr (tO g)) (o4:=o4) N fl.ndi C S ev J K e Y G;unfold GS at A;delta GS;simp![↓NH B];refine z _ ?_;rw[dF e];refine A _ λw j X b p F a1 a2 a3 a4 a5 a6 a7=>#[w.9,(),F,w,j,X,b,p,_,rfl,a1,a2,a3,a4,a6,a7,rfl]
theorem D5{l:Inn}:rK .val [(eD l,kb)] W=W ((l.map λe=>pr e.1).map T.d):=aU _ _
theorem Cj{kvs:List (D×D)}(h:FC kvs=jr kf):rK .val [(.d (.dict kvs),n)] W=W ((kvs.map (·.1)).map T.d):=by unfold rK CB;rw[pA];show MB .val [DB kvs] W=_;unfold DB;rw[h];exact aU _ _
theorem ji{a b h:PX}{t:Str}{x:T}{R:Option T->Prop}:rG Ψ E [] [t] (.nm 0) (.and a b) h ρ x R=cN Ψ (.and a b) E (jr (.bor x)::lockA ρ) λk z=>if k=kf then xB Ψ h E z λy n _=>bC y n (R (jr y)) else R none:=rfl
theorem NS{p:Pt}:XA (.d (pr p)) n (.d (.int 0)) m R=R (.d (.str p.1)):=by delta pr;rw[Z5,Oo,OA]
theorem Ip{p:Pt}:XA (.d (pr p)) n (.d (.int 1)) m R=R (.d (.str p.2)):=by delta pr;rw[Z5,Kz,OA]
theorem Ng:(T.d (.tuple [.str a,.str "from"]))=.d (pr (fR a)):=rfl
theorem v7:(T.d (.tuple [.str a,.str "to"]))=.d (pr (tO a)):=rfl
def LG:PSp where
 md:=[.bor]
 run:=λh Q _=>∃(es:NC) (st:LS) (g:Str) (r:Rm) (n:Str),h=[cB r,.d (.str n)]/\((yA es st g).9<=1000/\Flow es st g r/\zW r n=1)/\∀m,Xb r n m->Q (.d (.str m)) []
theorem V2:GD Ψ rE LG FH kG:=by
 rintro _ Q _ ⟨es,st,g,r,n,rfl,⟨J,fl,K⟩,q⟩;have I:=fl.toBase.inn (fR n);let#[b,k]:=Ym fl K;have l:aI r (fR n) (tO b):=(fl.adj _ _).mpr (UB (fl.toBase.adjw k.2));have s:Key r (fR n):=by rw[vB,fl.keys];exact mB ((fl.adj _ _).mp l)
 refine vA [jr (.bor (cB r)),bD (.str n),kv] ?_;delta rE;simp![Ng,↓tI];refine#[(),jF s ?_];simp![↓Ea,↓D5];have C:((lk r (fR n)).map λe=>pr e.1).map T.d=((lk r (fR n)).map (·.1)).map λp=>T.d (pr p):=by rw[Qb,Qb];rfl
 rw[C];refine nA (λp=>T.d (pr p)) (λ(p:Pt)=>T.d (.str p.1)) (λp=>!decide (p.1=n)&&decide (0<rm r p (fR n))) ((lk r (fR n)).map (·.1)) [] _ (λx Y R u=>?_) (by show 0+((lk r (fR n)).map (·.1)).9<=_;rw[QD];omega) ?_;let#[e,A,B]:=QZ.mp Y;have F:aI r (fR n) x:=oB.mpr #[e.2,by rw[<- B];exact A];have w:aI r x (fR n):=(fl.adj _ _).mpr (UB ((fl.adj _ _).mp F));have o:Key r x:=by rw[vB,fl.keys];exact mB ((fl.adj _ _).mp w)
 let#[v,hv]:=w;have ev:rm r x (fR n)=v:=by unfold rm;rw[hv];rfl
 rw[ev]at u;simp![↓ji,↓NS,↓tI];by_cases c:x.1=n;rw[dT c]at u ⊢;exact u;rw[dF c]at u ⊢;simp only[WF,↓reduceIte];refine jF o ?_;simp![↓o0];refine sQ hv ?_;simp![↓NS];by_cases d:0<v;rw[dT d]at u ⊢;exact u;rw[dF d]at u ⊢;exact u;have hm:tO b∈((lk r (fR n)).map (·.1)).filter λp=>!decide (p.1=n)&&decide (0<rm r p (fR n)):=by let#[v,hv]:=l;refine Qc.mpr #[QZ.mpr #[_,yH hv,rfl],?_];rw[dF (show ¬ (tO b).1=n from λz=>k.1 z.symm),dT k.2];rfl
 cases j:((lk r (fR n)).map (·.1)).filter λp=>!decide (p.1=n)&&decide (0<rm r p (fR n)) with
 |nil=>rw[j]at hm;exact(nomatch hm)
 |cons y G =>
  have X:y∈((lk r (fR n)).map (·.1)).filter λp=>!decide (p.1=n)&&decide (0<rm r p (fR n)):=by rw[j];exact QF
  have h:=(Qc.mp X).2;rw[Qa,qE,decide_eq_false_iff_not,o2]at h;let#[m,rfl]:=vh fl.toBase ((fl.adj _ _).mpr (fl.toBase.adjw h.2));rw[Qi,oA (λp:Pt=>j0 p.1)];simp![↓kA];rw[QS,Oo];simp![↓kA];exact q m #[λz=>h.1 z.symm,h.2]
def UI:PSp where
 md:=[.bor]
 run:=λh Q _=>∃(es:NC) (st:LS) (g:Str) (r:Rm) (f:Str),h=[cB r,.d (.str f),.d (.str g)]/\((yA es st g).9<=1000/\Flow es st g r/\MV r f)/\∀c,Run r g f c g->Q (.lst ((c.map j0).map T.d)) []
theorem Zk(fl:Flow es st g r)(w:MV r f){n:Str}(h:Run r g f c n):(∀x∈c,tO x∈vs0 es st g)/\tO n∈vs0 es st g:=by
 induction h with
 |nil=>exact#[λx y=>(nomatch y),(xJ fl.toBase w).1]
 |go _ _ v u=>refine#[λx y=>?_,(xJ fl.toBase v.2).1];rcases Qh.mp y with z|z;exact u.1 x z;rw[QJ.mp z];exact u.2
theorem HY(fl:Flow es st g r)(y:MV r f){n:Str}(h:Run r g f c n):c.9<=(yA es st g).length:=by
 have nd:=(h.nd fl y).1;have:=jH (ks:=c.map tO) (ns:=vs0 es st g) (Wk tO (λa b u z=>u (FB z)) nd) λp w=>by let#[x,v,e]:=QZ.mp w;rw[<- e];exact(Zk fl y h).1 x v
 unfold vs0 at this;rw[QD,QD]at this;exact this
def uo(r:Rm)(f g:Str)(c:LS)(n:Str):xA:=[jr (.bor (cB r)),bD (.str f),bD (.str g),oW (.lst ((c.map j0).map T.d)),bD (.str n)]
theorem Bf(x:Ψ.sp "name_behind"=LG){n:Str}(hs:(yA es st g).9<=1000)(fl:Flow es st g r)(h:zW r n=1)(hl:c.9<=1000)(k:∀m,Xb r n m->Z.nx (uo r f g (c++[n]) m)) :
  pF Ψ BD Z (uo r f g c n):=by
 delta uo at k ⊢;delta BD;simp![↓XS,↓jA (md:=[.bor]) x rfl rfl];refine#[by rw[QD,QD];omega,#[_,_,_,_,_,rfl,#[hs,fl,h],λm nx=>?_]];have:=k m nx;rw[QM,QM]at this;simp![↓kA];exact this
theorem A7(b:Ψ.sp "name_behind"=LG):GD Ψ XF UI SJ VH:=by
 rintro _ Q _ ⟨es,st,g,r,f,rfl,⟨hs,fl,z⟩,q⟩;have u:kt=16777216:=qB;refine vA [jr (.bor (cB r)),bD (.str f),bD (.str g),kv,kv] ?_;delta XF
 simp![↓kA];refine#[Qt _,eI (λm ρ=>∃c n,m+c.9=1001/\Run r g f c n/\ρ=uo r f g c n) 1001 #[[],f,rfl,.nil,rfl] ?_];rintro m ρ ⟨c,n,j,x,rfl⟩;have hl:=HY fl z x;by_cases e:n=g;subst e;delta uo;simp![↓kA];exact q c x;have v:=λ(Z:PEnds) u=>Bf (Ψ:=Ψ) (Z:=Z) (f:=f) (g:=g) (c:=c) b hs fl (x.thr1 fl z e) () u;unfold uo at v;delta uo;simp![↓kA];rw[dF e];refine v _ λk w=>?_;have h:=x.go e w;have y:=HY fl z h;rw[QI,qL]at y;exact#[m - 1,(),c++[n],k,by rw[QI,qL];omega,h,rfl]
theorem Ko{q:Pt}(hv:vs.9=ks.9)(hb:UA∈ks):SB .NotIn (.d (pr q)) (.d (.dict (MC ks vs))) L=L (!decide (q∈ks)):=by show(∃b,FC (MC ks vs)=jr b/\aD b (pr q)/\L (!(cA ((MC ks vs).map (·.1)) (pr q)).isSome))=_;rw[KJ hv hb,cM hv,tJ];exact i3 #[λ#[_,_,_,h]=>h,λh=>#[kf,rfl,EB q,h]]
theorem Mh{q:Pt}(hv:vs.9=ks.9)(hb:UA∈ks):SB .In (.d (pr q)) (.d (.dict (MC ks vs))) L=L (decide (q∈ks)):=by show(∃b,FC (MC ks vs)=jr b/\aD b (pr q)/\L (cA ((MC ks vs).map (·.1)) (pr q)).isSome)=_;rw[KJ hv hb,cM hv,tJ];exact i3 #[λ#[_,_,_,h]=>h,λh=>#[kf,rfl,EB q,h]]
theorem Us{x:LS}(y:x.9<64)(q:∀h:LS,h.Perm x->ak h=kf->Q (.lst ((h.map j0).map T.d)) kf):dM .sorted [(.lst ((x.map j0).map T.d),n)] Q:=by unfold dM CB;rw[TC];exact .inl #[_,x,rfl,JA _,y,q]
theorem Bs{ls:List (LS)}(x:ls.9<64)(q:∀h:List (LS),h.Perm ls->Q (.lst ((h.map MD).map T.d)) kf):dM .sorted [(.d (.list (ls.map MD)),n)] Q:=by unfold dM CB;rw[pA];exact .inr (.inl #[_,ls,rfl,JA _,x,q])
def PN(ks:List Pt):LS:=(ks.filter (oH ks)).map λp=>p.1
def BQ:PSp where
 run:=λh Q _=>∃(ks:List Pt) (vs:List D),h=[.d (.dict (MC ks vs))]/\(vs.9=ks.9/\UA∈ks/\ks.9<=1000/\(ks.filter (oH ks)).9<64)/\∀cut:LS,cut.Perm (PN ks)->ak cut=kf->Q (.lst ((cut.map j0).map T.d)) []
theorem Ed:GD Ψ VF BQ RJ KH:=by rintro _ Q _ ⟨ks,vs,rfl,⟨hv,hb,k,v⟩,q⟩;refine vA [bD (.dict (MC ks vs))] ?_;delta VF;simp![↓Cj (KJ hv hb),cM hv];rw[<- oA];refine nA (λp=>T.d (pr p)) (λ(p:Pt)=>T.d (.str p.1)) (oH ks) ks [] _ (λx w R h=>?_) (by show 0+ks.9<=_;omega) ?_;have h:R (if(decide (x.2="to")&&!decide (fR x.1∈ks))=kf then jr (T.d (.str x.1)) else kv):=h;simp![↓ji,↓NS,↓Ip,Ng,↓Ko hv hb];by_cases c:x.2="to";rw[dT c]at h ⊢;refine#[(),?_];by_cases d:fR x.1∈ks;rw[dT d]at h ⊢;exact h;rw[dF d]at h ⊢;exact h;rw[dF c]at h ⊢;exact h;rw[Qi,oA (λp:Pt=>j0 p.1),show((ks.filter (oH ks)).map λp=>j0 p.1)=(PN ks).map j0 by unfold PN;rw[Qb];rfl];refine Us (by unfold PN;rw[QD];exact v) λy u z=>?_;simp![↓kA];exact q y u z
theorem Y4(f:Flow es st g r):(((lk r UA).map (·.1)).filter λy=>decide (0<rm r y UA)).9<=st.length:=by
 have u:∀y∈((lk r UA).map (·.1)).filter (λy=>decide (0<rm r y UA)),y=tO y.1/\MV r y.1:=λy x=>by have h:=ot (Qc.mp x).2;let#[n,rfl]:=n8 f.toBase ((f.adj _ _).mpr (f.toBase.adjw h));exact#[rfl,h]
 have nd:(((lk r UA).map (·.1)).filter λy=>decide (0<rm r y UA)).Nodup:=(f.ndi UA).sublist qH;have:=JR (ks:=(((lk r UA).map (·.1)).filter λy=>decide (0<rm r y UA)).map (·.1)) (ns:=st) (by
  refine Wk _ (λa b h=>h) (wo (λ{a b} w hb v z=>?_) nd);exact v (by rw[(u a w).1,(u b hb).1,z])) λs hs=>by
  let#[y,x,e]:=QZ.mp hs;rw[<- e];exact(sK f.toBase (u y x).2).1
 rw[QD]at this;exact this
theorem NP{α v:Type}{body:T->(Option T->Prop)->Prop}(P:α->v->Prop)(g:α->T)(f:v->T):∀(l:List α) (h:LT) (Q:LT->Prop),(∀x∈l,∀R:Option T->Prop,(∀y,P x y->R (jr (f y)))->body (g x) R)->h.9+l.9<=kt->(∀u,xb P l u->Q (h++u.map f))->vD body (l.map g) h Q
 |[],h,Q,_,hl,q=>by have:=q [] .nil;rw[wT,Qy]at this;exact#[by rw[wc]at hl;omega,this]|x::r,h,Q,hb,hl,q=>by
  rw[QO]at hl;refine hb x QF _ λy k=>#[(),?_]
  refine NP P g f r _ Q (λz w=>hb z (QE _ w)) (by rw[QI,qL];omega) λu b=>?_;have:=q (y::u) (.cons k b);rw[QS]at this;rw[Q1];exact this
theorem yj{r:PT}:BL Ψ E r Z i (Gf ks vs) kf ρ=tB Ψ E r Z (ρ.set i (bD (.dict (MC ks vs)))):=by unfold BL;rw[so];exact i3 #[λh=>h.2,λh=>#[rfl,h]]
def Uu(c:LS):T:=.lst ((c.map j0).map T.d)
theorem xo(cs:List (LS)):ersT (cs.map Uu)=cs.map MD:=by rw[bS,Qb];congr 1;funext c;show PyData.list (ersT ((c.map j0).map T.d))=_;rw[fB];rfl
theorem jAA{r:PT}:BL Ψ E r Z i (.lst (cs.map Uu)) kf ρ=tB Ψ E r Z (ρ.set i (bD (.list (cs.map MD)))):=by
 have e:(T.lst (cs.map Uu)).er=.list (cs.map MD):=by show PyData.list (ersT (cs.map Uu))=_;rw[xo]
 unfold BL;rw[e];exact i3 #[λh=>h.2,λh=>#[rfl,h]]
theorem jt{a b:LT}:SD [.lst a,.lst b]=.tup [.lst a,.lst b]:=rfl
theorem PK:∀{cs:List (LS)},AJ cs↔cs.Pairwise λc d=>∀x∈c,x∉d
 |[]=>#[λ_=>.nil,λ_=>trivial]|c::cs=>by rw[List.pairwise_cons,<- PK];exact WZ
theorem bY{ds:List (LS)}(h:ds.Perm cs)(a:AJ cs):AJ ds:=PK.mpr ((h.pairwise_iff (λ{a b} z x u y=>z x y u)).mpr (PK.mp a))
structure Good(es:NC)(st:LS)(g:Str)(cs:List (LS))(cut:LS):Prop where
 chn:∀c∈cs,Chn es st g c g/\c.Nodup/\∀x∈c,x≠g
 apart:AJ cs
 len:cs.9=cut.9
 few:cut.9<=11
 nd:cut.Nodup
 srt:ak cut=kf
 ng:g∉cut
 led:¬ ∃a,(a,g)∈es/\Led es st g cut a
 okn:∀s∈cut,ql s=kf
end
section
variable{es:NC}{st:LS}{g:Str}{r:Rm}
theorem GM(f:Flow es st g r):∀{fs:LS}{cs:List (LS)},fs.Nodup->(∀s∈fs,MV r s)->xb (λs c=>Run r g s c g) fs cs->AJ cs/\(∀c∈cs,∃s∈fs,Run r g s c g)
 |_,_,_,_,.nil=>#[trivial,λ_ h=>(nomatch h)]
 |s::fs,c::cs,nd,hf,.cons h t=>by
  let#[b,a]:=Qk.mp nd;let#[j,k]:=GM f a (λs hs=>hf s (QE _ hs)) t;refine#[#[λd w x i e=>?_,j],λd w=>?_];let#[u,y,v]:=k d w;have:=Run.apart f (hf s QF) (hf u (QE _ y)) h v x i e;exact b (this▸y);rcases QL.mp w with z|z
  ·rw[z];exact#[s,QF,h]
  let#[u,y,v]:=k d z;exact#[u,QE _ y,v]
def cw(r:Rm):List Pt:=((lk r UA).map λe=>e.1).filter λy=>decide (0<rm r y UA)
def oX(r:Rm):LS:=(cw r).map λp=>p.1
theorem Y9(f:Flow es st g r):∀y∈cw r,y=tO y.1/\MV r y.1:=λy x=>by have h:=ot (Qc.mp x).2;let#[n,rfl]:=n8 f.toBase ((f.adj _ _).mpr (f.toBase.adjw h));exact#[rfl,h]
theorem ou(f:Flow es st g r):(oX r).Nodup:=by have nd:(cw r).Nodup:=(f.ndi UA).sublist qH;refine Wk _ (λa b h=>h) (wo (λ{a b} y hb x z=>?_) nd);exact x (by rw[(Y9 f a y).1,(Y9 f b hb).1,z])
theorem nX(f:Flow es st g r):∀s∈oX r,MV r s:=λs hs=>by let#[y,h,e]:=QZ.mp hs;rw[<- e];exact(Y9 f y h).2
theorem tK(f:Flow es st g r):out es st g r UA=(oX r).9/\(oX r).9<=st.length:=by have x:=mf f;have h:=Y4 f;unfold oX;rw[QD];exact#[x,h]
theorem gN{α x:Type}{P:α->x->Prop}{l:List α}{m:List x}(h:xb P l m):l.9=m.length:=Q6 h
theorem zf(f:Flow es st g r)(B:AK es st)(E:st.9<=11){ks:List Pt}{vs:List D}(Z:CF r ks vs)(hk:∀p,p∈ks↔Rch r p)(o:tO g∉ks){cs ds:List (LS)}(X:xb (λs c=>Run r g s c g) (oX r) cs)(j:ds.Perm cs){cut:LS}(w:cut.Perm (PN ks))(sc:ak cut=kf):Good es st g ds cut:=by
 let#[I,G]:=GM f (ou f) (nX f) X;let#[O,N]:=tK f;have M:=MU f Z.nd hk o;have L:(PN ks).9=(ks.filter (oH ks)).length:=by unfold PN;rw[QD]
 have J:=gN X;have u:∀s,s∈PN ks↔tO s∈ks/\fR s∉ks:=λs=>by unfold PN;rw[QZ];constructor;rintro⟨y,A,e⟩;let#[v,x]:=Qc.mp A;let#[n,q,k]:=ID.mp x;subst q;have e:n=s:=e;subst e;exact#[v,k];rintro⟨v,x⟩;exact#[tO s,Qc.mpr #[v,ID.mpr #[s,rfl,x]],rfl]
 have l:(PN ks).Nodup:=by unfold PN;refine Wk _ (λa b h=>h) (wo (λ{a b} C hb K z=>?_) (Z.nd.sublist (qH (p:=oH ks))));let#[n,F,_]:=ID.mp (Qc.mp C).2;let#[m,q,_]:=ID.mp (Qc.mp hb).2;subst F q;have z:n=m:=z;exact K (by rw[z])
 have W:=w.length_eq;refine#[λc hc=>?_,bY j I,by rw[j.length_eq,W];omega,(),w.nodup_iff.mpr l,sc,λz=>o ((u g).mp (w.mem_iff.mp z)).1,?_,λs hs=>?_];let#[s,hs,i]:=G c (j.mem_iff.mp hc);have Y:=nX f s hs;exact#[i.chn f Y,(i.nd f Y).1,i.ng];exact Kf f hk o λn v x=>w.mem_iff.mpr ((u n).mpr #[v,x]);have v:=((u s).mp (w.mem_iff.mp hs)).1;have x:=vB.mp (OI f.toBase.dom f.toBase.bg ((hk _).mp v));rw[f.keys]at x;have k:=(z9 B x).1;simp only[pr,tO,QAf,qz,Qa]at k;exact k.1
end
def YS(es:NC)(st:LS)(g:Str)(r:Rm)(kd:List (D×D))(o5 o6:Option Sl):xA:=[bD (.list (es.map pr)),bD (.tuple (st.map j0)),bD (.str g),oW (cB r),bD (.dict kd),o5,o6]
section
variable{Ψ:PEv}{Z:PEnds}{es:NC}{st:LS}{g:Str}{r:Rm}
section
variable{q:PT}{h:List (D×D)}{o6:Option Sl}
theorem Bz(u:Ψ.sp "rooms_of"=XI)(z:Ψ.sp "points_reached"=TF)(y:es.9<=126)(x:st.9<=11)(k:∀ks vs,CF (yA es st g) ks vs->(∀p,p∈ks↔Rch (yA es st g) p)->pF Ψ q Z (YS es st g (yA es st g) (MC ks vs) kv kv)) :
  pF Ψ (.seq (.own 3 (.call "rooms_of" %[.var 0,.var 1,.var 2|1])) (.seq (.set 4 (.call "points_reached" %[.var 3|1])) q)) Z [bD (.list (es.map pr)),bD (.tuple (st.map j0)),bD (.str g),kv,kv,kv,kv]:=by
 have ok:=MT (g:=g) y x;delta YS at k;simp![↓jA (md:=[]) u rfl rfl,↓jA (md:=[.bor]) z rfl rfl];refine#[_,_,_,rfl,#[y,x],?_];simp![↓XS,↓jA (md:=[.bor]) z rfl rfl];refine#[_,_,rfl,#[(.inl rfl),ok.dom,ok.bg,ok.sz.1],λks vs hc hk=>?_];simp![↓yj];exact k ks vs hc hk
theorem Uz(u:Ψ.sp "points_reached"=TF)(a:Ψ.sp "lay_chain"=XQ){ks:List Pt}{vs:List D}(hs:(yA es st g).9<=1000)(v:AK es st)(f:Flow es st g r)(b:CF r ks vs)(w:tO g∈ks)
  (k:∀r' x y,Flow es st g r'->out es st g r' UA=out es st g r UA+1->CF r' x y->(∀p,p∈x↔Rch r' p)->Z.nx (YS es st g r' (MC x y) kv kv)) :
  pF Ψ KC Z (YS es st g r (MC ks vs) kv kv):=by
 delta YS at k ⊢;delta KC;simp![v7,↓dH (md:=[]) a rfl rfl,↓jA (md:=[.bor]) u rfl rfl];refine#[(),#[_,_,_,_,_,_,rfl,#[hs,v,f,b,w],λr' z e=>#[_,rfl,?_]]];simp![↓XS,↓jA (md:=[.bor]) u rfl rfl];refine#[_,_,rfl,#[(.inl rfl),z.toBase.dom,z.toBase.bg,(by rw[z.toBase.len];exact hs)],λx y hc hk=>?_];simp![↓yj];exact k r' x y z e hc hk
theorem Xz(w:Ψ.va "BEGIN"=jr (pr UA)){o5:Option Sl}(hs:(yA es st g).9<=1000)(f:Flow es st g r)(k:pF Ψ q Z (YS es st g r h (bD (.list ((oX r).map j0))) o6)) :
  pF Ψ (.seq (.set 5 (.comp [] ["point"] (.nm 0) .val %[.idx (.var 3) (.glo "BEGIN")|1] (.cmp .Gt (.idx (.idx (.var 4) (.var 0)) (.glo "BEGIN")) (.int 0)) (.idx (.var 0) (.int 0)))) q) Z (YS es st g r h o5 o6):=by
 have o:=f.toBase.inn UA;delta YS at k ⊢;simp![↓tI,↓NH w];refine jF f.toBase.bg ?_;simp![↓Ea,↓D5];have m:((lk r UA).map λe=>pr e.1).map T.d=((lk r UA).map λe=>e.1).map λp=>T.d (pr p):=by rw[Qb,Qb];rfl
 rw[m];refine nA (λp=>T.d (pr p)) (λ(p:Pt)=>T.d (.str p.1)) (λy=>decide (0<rm r y UA)) ((lk r UA).map λe=>e.1) [] _ (λx b R z=>?_) (by show 0+((lk r UA).map λe=>e.1).9<=_;rw[QD];omega) ?_;let#[e,i,j]:=QZ.mp b;have n:aI r UA x:=oB.mpr #[e.2,by rw[<- j];exact i];have u:aI r x UA:=(f.adj _ _).mpr (UB ((f.adj _ _).mp n));have a:Key r x:=by rw[vB,f.keys];exact mB ((f.adj _ _).mp u)
 let#[v,hv]:=u;have ev:rm r x UA=v:=by unfold rm;rw[hv];rfl
 rw[ev]at z;simp![↓tI,↓NH w];refine jF a ?_;simp![↓o0,↓NH w];refine sQ hv ?_;simp![↓NS];by_cases d:0<v;rw[dT d]at z ⊢;exact z;rw[dF d]at z ⊢;exact z;rw[Qi,oA (λp:Pt=>j0 p.1)];have l:((((lk r UA).map λe=>e.1).filter λy=>decide (0<rm r y UA)).map λp=>j0 p.1)=(oX r).map j0:=by unfold oX cw;rw[Qb];rfl
 rw[l];simp![↓kA];exact k
theorem Vz(w:Ψ.sp "chain_from"=UI)(hs:(yA es st g).9<=1000)(a:st.9<=11)(f:Flow es st g r)(k:∀cs,xb (λs c=>Run r g s c g) (oX r) cs->pF Ψ q Z (YS es st g r h (bD (.list ((oX r).map j0))) (bD (.list (cs.map MD))))) :
  pF Ψ (.seq (.set 6 (.comp [] ["first"] (.nm 0) .val %[.var 5|1] .nop (.call "chain_from" %[.var 4,.var 0,.var 3|1]))) q) Z (YS es st g r h (bD (.list ((oX r).map j0))) o6):=by
 have hl:=(tK f).2;delta YS at k ⊢;simp![↓kA];rw[<- oA j0 (oX r)];refine NP (λs c=>Run r g s c g) (λs=>T.d (.str s)) Uu (oX r) [] _ (λx z R v=>?_) (by show 0+(oX r).9<=_;omega) λcs u=>?_;simp![↓XS,↓jA (md:=[.bor]) w rfl rfl];refine#[_,_,_,_,_,rfl,#[hs,f,(nX f x z)],λc y=>?_];simp![↓kA];exact v c y;rw[Qi];simp![↓jAA];exact k cs u
end
end
section
variable{es u:NC}{F sr z:LS}{x:Str}{n:Int}
noncomputable def CI:PSp where
 run:=λy Q _=>∃(es:NC) (st:LS) (g:Str),y=[.d (.list (es.map pr)),.d (.tuple (st.map j0)),.d (.str g)]/\(es.9<=126/\st.9<=11/\AK es st)/\∀h cut,Good es st g h cut->Q (.tup [.lst ((h.map MD).map T.d),.lst ((cut.map j0).map T.d)]) []
theorem E7{Ψ:PEv}(R:Ψ.sp "rooms_of"=XI)(C:Ψ.sp "points_reached"=TF)(P:Ψ.sp "lay_chain"=XQ)(O:Ψ.sp "chain_from"=UI)(B:Ψ.sp "full_names"=BQ)(N:Ψ.va "BEGIN"=jr (pr UA))(ds Q E)(h:CI.run ds Q E):jAg Ψ VG CI BG HF ds Q:=by
 let#[es,st,g,rfl,#[Y,i,A],q]:=h;have W:kt=16777216:=qB;have hs:(yA es st g).9<=1000:=(MT (g:=g) Y i).sz.1;refine vA [bD (.list (es.map pr)),bD (.tuple (st.map j0)),bD (.str g),kv,kv,kv,kv] ?_;refine Bz R C Y i λl w S L=>?_;have b0:=tK (Jh (es:=es) (st:=st) (g:=g));delta YS;simp![↓kA];refine eI (λm X=>∃r v b,(m:Int)+out es st g r UA=12/\Flow es st g r/\CF r v b/\(∀p,p∈v↔Rch r p)/\X=YS es st g r (MC v b) kv kv) (12 - out es st g (yA es st g) UA).toNat #[yA es st g,l,w,(),Jh,S,L,rfl] ?_;rintro m X ⟨r,v,b,em,f,y,hk,rfl⟩;have bd:=tK f;by_cases a:tO g∈v;have k:=λ(Z:PEnds) W=>Uz (Ψ:=Ψ) (Z:=Z) C P hs A f y a W;unfold YS at k;delta YS;simp![v7,↓Mh y.len y.hb];refine#[(),?_];rw[dT a];refine k _ λG o j s e H M=>#[m - 1,?_,G,o,j,?_,s,H,M,rfl]
 have:=tK s;omega;have:=tK s;omega;have K:pF Ψ %[.set 5 (.comp [] ["point"] (.nm 0) .val %[.idx (.var 3) (.glo "BEGIN")|1] (.cmp .Gt (.idx (.idx (.var 4) (.var 0)) (.glo "BEGIN")) (.int 0)) (.idx (.var 0) (.int 0))),.set 6 (.comp [] ["first"] (.nm 0) .val %[.var 5|1] .nop (.call "chain_from" %[.var 4,.var 0,.var 3|1])),.ret (.tup %[.bi .sorted %[.var 6|1],.call "full_names" %[.var 4|1]|1])|2] (eZ Q) (YS es st g r (MC v b) kv kv):=by refine Xz N hs f (Vz O hs i f λcs k=>?_);have lc:=gN k;have l3:=MU f y.nd hk a;delta YS;simp![↓jA (md:=[]) B rfl rfl];refine Bs () λds I=>?_;simp![↓jA (md:=[]) B rfl rfl];refine#[_,_,rfl,#[y.len,y.hb,(QU (y.le f.toBase.dom f.toBase.bg) (by rw[f.toBase.len];exact hs)),()],λcut J sc=>?_];simp![jt];exact#[(),q ds cut (zf f A i y hk a k I J sc)]
 unfold YS at K;delta YS;simp![v7,↓Mh y.len y.hb];refine#[(),?_];rw[dF a];exact K
def eX(es:NC)(F:LS):NC:=es.filter λe=>decide (e.1∈F)
theorem jS{e:Str×Str}:e∈eX es F↔e∈es/\e.1∈F:=by unfold eX;rw[Qc,o2]
def TL(es:NC)(sr:LS)(x:Str)(F:LS)(n:Int):Prop:=∃h:List (LS),AJ h/\(∀c∈h,Chn (eX es F) sr x c x)/\n<=(h.9:Int)
theorem Chn.sub{g:Str}(w:∀e∈es,e∈u)(v:∀s∈sr,s∈z){c:LS}{n:Str}(h:Chn es sr g c n):Chn u z g c n:=by
 induction h with|st a b=>exact .st (v _ a) b|go _ b c y=>exact .go y b (w _ c)
theorem TL.sub{w:LS}{v:Int}(j:∀e∈es,e∈u)(i:∀s∈sr,s∈z)(g:∀y∈F,y∈w)(k:v<=n)(h:TL es sr x F n):TL u z x w v:=by let#[p,a,c,l]:=h;refine#[p,a,λd f=>Chn.sub (λe b=>?_) i (c d f),Ws k l];let#[o,m]:=jS.mp b;exact jS.mpr #[j e o,g _ m]
theorem K8{cs:List (LS)}{cut:LS}(h:Good (eX es F) sr x cs cut):TL es sr x F n↔n<=(cs.9:Int):=by constructor;rintro⟨y,a,c,l⟩;have:=U4 a c h.led;rw[<- h.len]at this;exact Ws l (Int.ofNat_le.mpr this);exact λl=>#[cs,h.apart,λc hc=>(h.chn c hc).1,l]
inductive Held(es:NC)(sr:LS)(nd:List (Str×Int)):Str->Prop
 |see {x:Str}{n:Int}:(x,n)∈nd->x∈sr->Held es sr nd x
 |tell {x:Str}{n:Int}(F:LS):(x,n)∈nd->(∀y∈F,Held es sr nd y)->TL es sr x F n->Held es sr nd x
end
section
variable{es v:NC}{sr y:LS}{nd u:List (Str×Int)}
theorem r9{S:LS}(f:∀x∈S,Held es sr nd x)(e:∀x n,(x,n)∈nd->x∈sr->x∈S)(k:∀x n,(x,n)∈nd->x∉S->¬ TL es sr x S n)(x:Str):x∈S↔Held es sr nd x:=by
 refine#[f x,λh=>?_];induction h with|see a b=>exact e _ _ a b|@tell x n F a _ m w=>by_cases z:x∈S;exact z;exact i2 (m.sub (λ_ h=>h) (λ_ h=>h) w (QCr _)) (k x n a z)
theorem Ee{x:Str}(h:Held es sr nd x):∃n,(x,n)∈nd:=by
 cases h with|see a _=>exact#[_,a]|tell _ a=>exact#[_,a]
end
noncomputable def VI:PSp where
 md:=[.fro,.fro,.shal]
 run:=λz Q _=>∃(x:NC) (h F:LS) (g:Str),z=[.d (.tuple (x.map pr)),.d (.tuple (h.map j0)),.lst ((F.map j0).map T.d),.d (.str g)]/\(x.9<=126/\h.9<=11/\AK x h)/\∀y cut,Good (eX x F) h g y cut->Q (.tup [.lst ((y.map MD).map T.d),.lst ((cut.map j0).map T.d)]) []
theorem Gd{Ψ:PEv}(w:Ψ.sp "apart_chains"=CI):GD Ψ YD VI XG FF:=by
 rintro _ Q _ ⟨h,u,F,g,rfl,⟨b,a,v⟩,q⟩;have k:(eX h F).9<=126:=QU (qG _ _) b;have z:AK (eX h F) u:=#[v.1,λe f=>v.2 e (jS.mp f).1]
 refine vA [bD (.tuple (h.map pr)),bD (.tuple (u.map j0)),jr (.bor (.lst ((F.map j0).map T.d))),bD (.str g)] ?_;delta YD;simp![↓jA (md:=[]) w rfl rfl];rw[<- oA pr h];refine nA (λp=>T.d (pr p)) (λ(p:Str×Str)=>T.d (pr p)) (λp=>decide (p.1∈F)) h [] _ (λx l R y=>?_) (by show 0+h.9<=_;omega) ?_;simp![↓NS,lM,sJ,rB,true_or];by_cases d:x.1∈F;rw[dT d]at y ⊢;exact y;rw[dF d]at y ⊢;exact y;rw[Qi,oA pr];simp![↓jA (md:=[]) w rfl rfl];refine#[_,_,_,rfl,#[k,a,z],λj cut i=>?_];simp![↓kA];exact q j cut i
section
variable{Ψ:PEv}{E:XE}{ρ:xA}{K:TK}{a b c h:PX}{ds:List D}{n m:Bool}{L:Bool->Prop}
def Pq(x:T)(n:Bool)(Ψ:PEv)(b:PX)(E:XE)(ρ:xA)(K:TK):Prop:=sq (α:=Option Int) (gA x n) ρ (λρ R=>(pe Ψ b E).e ρ λu _ y=>uG u.er λo=>R o y) λu y=>HI (gA x n).vw kv u λz k=>K z k y
def ZP(x:T)(Q:Option Int->Prop):Prop:=uG x.er Q
theorem Cc{i:Int}{Q:Option Int->Prop}:ZP (.d (.int i)) Q=Q (jr i):=rfl
theorem Ij{x:T}{R:Option Int->xA->Prop}:sq (α:=Option Int) x ρ (λρ (R:Option Int->xA->Prop)=>R kv ρ) R=R kv ρ:=by unfold sq;split<;>rfl
theorem Jp{j:Nat}:xB Ψ (.slc a .nop (.var j)) E ρ K=xB Ψ a E ρ λx n v=>Pq x n Ψ (.var j) E v K:=by show(pe Ψ a E).e ρ (λx n v=>sq (α:=Option Int) (gA x n) v (λρ (R:Option Int->xA->Prop)=>R kv ρ) λl w=>sq (α:=Option Int) (gA x n) w (λρ R=>(pe Ψ (.var j) E).e ρ λu _ y=>uG u.er λo=>R o y) λu y=>HI (gA x n).vw l u λz k=>K z k y)=_;simp only[Ij];rfl
theorem jAD{x:D}:Pq (.d x) n Ψ b E ρ K=xB Ψ b E ρ λu _ y=>ZP u λo=>EF (.d x) n kv o λz k=>K z k y:=by cases n<;>rfl
theorem tf(a b:List D):(T.tup [.lst (a.map T.d),.lst (b.map T.d)]).er=.tuple [.list a,.list b]:=by show PyData.tuple [.list (ersT (a.map T.d)),.list (ersT (b.map T.d))]=_;rw[fB,fB]
theorem Yw{a b:List D}{m:Bool}{t:T}{R:T->Prop}:XA (.tup [.lst (a.map T.d),.lst (b.map T.d)]) kf t m R=XA (.d (.tuple [.list a,.list b])) kb t m R:=by
 have e:gA (.tup [.lst (a.map T.d),.lst (b.map T.d)]) kf=.d (.tuple [.list a,.list b]):=by show T.d (T.tup [.lst (a.map T.d),.lst (b.map T.d)]).er=_;rw[tf]
 unfold XA;rw[e];rfl
end
section
variable{Ψ:PEv}{E:XE}{ρ:xA}{a c h:PX}{W:LT->Prop}{R:Option T->Prop}{C:LT->Prop}{xs:List (T×Bool)}{ds:List D}{n m:Bool}
section
variable{md:List Md}{ts:LT}{b:Bool}{t u:Str}
theorem pC{v:PX}{M:List (T×Bool)->xA->Prop}:zM Ψ (.acons a v) E (.fro::md) ρ M=xB Ψ a E ρ λx n z=>Jb x n Ψ v E md z λxs y=>M ((x,n)::xs) y:=rfl
theorem Ef{d:D}:YB (.fro::md) ((.d d,n)::xs) C=YB md xs λts=>C (.d d::ts):=by
 have e:VA (.fro::md) ((.d d,n)::xs) []=(VA md xs []).map (.d d::·):=by cases n<;>rfl
 unfold YB;rw[e,xF]
theorem gq:rK .val [(.lst ts,kb)] W=W ts:=by unfold rK CB;exact nJ ts
theorem Tu{m:List Bool}{x y:D}{v:fm}:rG Ψ E (b::m) [t,u] (.tp [0,1]) (.cmp v a c) h ρ (.d (.tuple [x,y])) R=cN Ψ (.cmp v a c) E (bD x::bD y::fC (b::m) (lockA ρ)) λk z=>if k=kf then xB Ψ h E z λy n _=>bC y n (R (jr y)) else R none:=OA
theorem Gz{m:List Bool}{x y:T}:rG Ψ E (b::m) [t,u] (.tp [0,1]) .nop h ρ (.tup [x,y]) R=xB Ψ h E (jr (.bor x)::jr (.bor y)::fC (b::m) (lockA ρ)) λy n _=>bC y n (R (jr y)):=OA
theorem jBV:NL ((.lst [],kf)::xs) C=NL xs λts=>C (.lst []::ts):=Ez (ds:=[])
theorem As{d:D}:SD [.d d,.lst ts]=.tup [.d d,.lst ts]:=rfl
theorem Hu{i j:Int}{L:Bool->Prop}:SB .GtE (.d (.int i)) (.d (.int j)) L=L (decide (j<=i)):=rfl
end
end
noncomputable abbrev Rw:=Str×List (LS)
noncomputable def uK(r:Rw):T:=.tup [.d (.str r.1),.lst ((r.2.map MD).map T.d)]
def FS(p:Str×Int):D:=.tuple [.str p.1,.int p.2]
def J4(es:NC)(sr:LS)(nd:List (Str×Int))(h:List Rw)(F:LS)(b:Bool)(o6 o7 o8:Option Sl):xA:=[bD (.tuple (es.map pr)),bD (.tuple (sr.map j0)),bD (.list (nd.map FS)),oW (.lst (h.map uK)),oW (.lst ((F.map j0).map T.d)),bD (.bool b),o6,o7,o8]
section
variable{Ψ:PEv}{Z:PEnds}{es:NC}{sr:LS}{nd:List (Str×Int)}{q:PT}
section
variable{o5 o6 o7 o8:Option Sl}{h:List Rw}
noncomputable def oT(sr:LS)(nd:List (Str×Int)):List Rw:=(nd.filter λp=>decide (p.1∈sr)).map λp=>(p.1,[])
theorem zz(hl:nd.9<=100){o4:Option Sl}(k:pF Ψ q Z [bD (.tuple (es.map pr)),bD (.tuple (sr.map j0)),bD (.list (nd.map FS)),oW (.lst ((oT sr nd).map uK)),o4,o5,o6,o7,o8]) :
  pF Ψ (.seq (.own 3 (.comp [kb,kb,kb,kb,kb,kb,kf,kf] ["name","number"] (.tp [0,1]) .val %[.var 2|1] (.cmp .In (.var 0) (.var 3)) (.tup %[.var 0,.lst .anil|1]))) q) Z [bD (.tuple (es.map pr)),bD (.tuple (sr.map j0)),bD (.list (nd.map FS)),kv,o4,o5,o6,o7,o8]:=by
 simp![↓kA];rw[<- oA FS nd];refine nA (λp=>T.d (FS p)) (λ(p:Str×Int)=>uK (p.1,[])) (λp=>decide (p.1∈sr)) nd [] _ (λx z R y=>?_) (by show 0+nd.9<=_;omega) ?_;let#[x,n]:=x;delta FS;simp![↓Tu,lM,sJ,rB,true_or];by_cases d:x∈sr;rw[dT d]at y ⊢;simp![↓jBV,↓As];exact#[(),(),y];rw[dF d]at y ⊢;exact y;rw[Qi];have e:(nd.filter λp=>decide (p.1∈sr)).map (λp=>uK (p.1,[]))=(oT sr nd).map uK:=by unfold oT;rw[Qb];rfl
 rw[e];exact k
theorem yz(hl:h.9<=100)(k:pF Ψ q Z [bD (.tuple (es.map pr)),bD (.tuple (sr.map j0)),bD (.list (nd.map FS)),oW (.lst (h.map uK)),oW (.lst (((h.map λr=>r.1).map j0).map T.d)),o5,o6,o7,o8]) :
  pF Ψ (.seq (.own 4 (.comp [kb,kb,kb,kb,kb,kb,kf,kb,kf] ["name","chains"] (.tp [0,1]) .val %[.var 3|1] .nop (.var 0))) q) Z [bD (.tuple (es.map pr)),bD (.tuple (sr.map j0)),bD (.list (nd.map FS)),oW (.lst (h.map uK)),kv,o5,o6,o7,o8]:=by
 simp![↓gq];refine jB uK (λr=>T.d (.str r.1)) h [] _ (λx z R y=>?_) (by show 0+h.9<=_;omega) ?_;delta uK;simp![↓Gz];exact y;rw[Qi,oA (λr:Rw=>j0 r.1)];have e:(h.map λr=>j0 r.1)=(h.map λr=>r.1).map j0:=by rw[Qb];rfl
 rw[e];exact k
theorem jz(f:Ψ.sp "told_through"=VI){F:LS}{b:Bool}{x:Str}{n:Int}(a:es.9<=126)(k:sr.9<=11)(e:AK es sr)(j:h.9<=100)(i:F.9<=100)
  (w:x∈F->∀o8,Z.nx (J4 es sr nd h F b (bD (.str x)) (bD (.int n)) o8))
  (v:x∉F->¬ TL es sr x F n->∀o8,Z.nx (J4 es sr nd h F b (bD (.str x)) (bD (.int n)) o8))
  (u:x∉F->TL es sr x F n->∀cs o8,Z.nx (J4 es sr nd (h++[(x,cs)]) (F++[x]) kf (bD (.str x)) (bD (.int n)) o8)) :
  pF Ψ ZC Z (J4 es sr nd h F b (bD (.str x)) (bD (.int n)) o8):=by
 delta J4 at w v u ⊢;delta ZC;simp![lM,sJ,rB,true_or];by_cases d:x∈F;rw[dT d];exact w d _;rw[dF d];simp![↓pC,↓Ef,↓jA (md:=[.fro,.fro,.shal]) f rfl rfl];refine#[_,_,_,_,rfl,#[a,k,e],λcs cut g=>?_];have y:=K8 (n:=n) g;simp![↓Yw,↓Oo,↓Hu,QD];by_cases c:n<=(cs.9:Int);rw[dT c];simp![↓Jp,↓jAD,↓Cc,↓As];rw[RZ];refine#[(),(),by rw[QD,QD];omega,?_];have:=u d (y.mpr c) (pH cs kv (jr n)) (bD (.list (cs.map MD)));rw[QM,QM,QM]at this;exact this;rw[dF c];exact v d (λz=>c (y.mp z)) _
end
end
structure GI(es:NC)(sr:LS)(nd:List (Str×Int))(rs:List Rw)(F:LS):Prop where
 e:F=rs.map λr=>r.1
 ndp:F.Nodup
 held:∀x∈F,Held es sr nd x
 see:∀x n,(x,n)∈nd->x∈sr->x∈F
 non:∀r∈rs,r.1∈sr->r.2=[]
section
variable{es:NC}{sr:LS}{nd:List (Str×Int)}{u:List Rw}{F:LS}
theorem GI.len(g:GI es sr nd u F):F.9<=nd.length:=by
 have:=JR (ns:=nd.map λp=>p.1) g.ndp λs hs=>by let#[n,h]:=Ee (g.held s hs);exact QZ.mpr #[_,h,rfl]
 rw[QD]at this;exact this
theorem GI.rlen(g:GI es sr nd u F):u.9=F.length:=by rw[g.e,QD]
theorem Ey(h:(nd.map λp=>p.1).Nodup):GI es sr nd (oT sr nd) ((oT sr nd).map λr=>r.1):=by
 have e:((oT sr nd).map λr=>r.1)=(nd.filter λp=>decide (p.1∈sr)).map λp=>p.1:=by unfold oT;rw[Qb];rfl
 refine#[rfl,?_,λx y=>?_,λx n y hs=>?_,λr z _=>?_];rw[e];exact h.sublist (qH.map _);rw[e]at y;let#[p,v,rfl]:=QZ.mp y;let#[k,w]:=Qc.mp v;exact .see (n:=p.2) k (ot w);rw[e];exact QZ.mpr #[(x,n),Qc.mpr #[y,dT hs],rfl];unfold oT at z;let#[p,_,rfl]:=QZ.mp z;rfl
theorem GI.add(g:GI es sr nd u F){x:Str}{n:Int}(v:(x,n)∈nd)(w:x∉F)(m:TL es sr x F n)(cs:List (LS)):GI es sr nd (u++[(x,cs)]) (F++[x]):=by
 refine#[by rw[QM,<- g.e];rfl,qy.mpr #[g.ndp,Qk.mpr #[λz=>(nomatch z),Q7],λa i b hb e=>?_],λy h=>?_,λy k h hs=>Qm _ (g.see y k h hs),λr f hs=>?_];rw[QJ.mp hb]at e;exact w (e▸i);rcases Qh.mp h with z|z
 ·exact g.held y z
 rw[QJ.mp z];exact .tell F v g.held m;rcases Qh.mp f with z|z
 ·exact g.non r z hs
 rw[QJ.mp z]at hs;exact i2 (g.see x n v hs) w
end
def DI:PSp where
 run:=λu Q _=>∃(y:NC) (h:LS) (nd:List (Str×Int)),u=[.d (.tuple (y.map pr)),.d (.tuple (h.map j0)),.d (.list (nd.map FS))]/\(y.9<=126/\h.9<=11/\AK y h/\nd.9<=90/\(nd.map λp=>p.1).Nodup)/\∀z F,GI y h nd z F->(∀x,x∈F↔Held y h nd x)->Q (.lst (z.map uK)) []
theorem U1{es:NC}{sr:LS}{nd:List (Str×Int)}{K:T->LT->Prop}{E:XE}(l:es.9<=126/\sr.9<=11/\AK es sr/\nd.9<=90/\(nd.map λp=>p.1).Nodup)(q:∀h F,GI es sr nd h F->(∀x,x∈F↔Held es sr nd x)->K (.lst (h.map uK)) []):CL DI [.d (.tuple (es.map pr)),.d (.tuple (sr.map j0)),.d (.list (nd.map FS))] K E:=#[es,sr,nd,rfl,l,q]
section
variable{Ψ:PEv}{Z:PEnds}{es:NC}{sr:LS}{nd:List (Str×Int)}{u:List Rw}{F:LS}
theorem Iy(L:Ψ.sp "told_through"=VI)(G:es.9<=126)(E:sr.9<=11)(J:AK es sr)(O:nd.9<=90){b:Bool}{o6 o7 o8:Option Sl}(g:GI es sr nd u F)
  (k:∀v w a o6 o7 o8,GI es sr nd v w->F.9<=w.9->(a=kf->F.9<w.9)->(a=kb->∀x n,(x,n)∈nd->x∉w->¬ TL es sr x w n)->Z.nx (J4 es sr nd v w a o6 o7 o8)) :
  pF Ψ YC Z (J4 es sr nd u F b o6 o7 o8):=by
 delta J4;delta YC;simp![↓kA];rw[<- oA FS nd];refine BA (λ(p:Str×Int)=>T.d (FS p)) (λl r=>∃v w a o6 o7 o8,GI es sr nd v w/\(∀p∈l,p∈nd)/\F.9<=w.9/\(a=kf->F.9<w.9)/\(a=kb->∀x n,(x,n)∈nd->(x,n)∈l∨x∈w∨¬ TL es sr x w n)/\r=J4 es sr nd v w a o6 o7 o8) ?_ ?_ _ _ #[u,F,kb,_,_,_,g,λ_ z=>z,QT _,λz=>(nomatch z),λ_ x n h=>.inl h,rfl];rintro r ⟨v,w,a,B,A,K,f,_,q,o,j,rfl⟩;exact k v w a _ _ _ f q o λhb x n Y i=>((j hb x n Y).resolve_left λz=>(nomatch z)).resolve_left i;rintro⟨x,n⟩ l r N W ⟨v,w,a,B,A,K,f,m,q,o,j,rfl⟩;have Y:=m _ QF;have s:∀p∈l,p∈nd:=λp I=>m p (QE _ I);have Q:=f.len;have P:=f.rlen;refine uF.mk rfl ?_;refine jz (x:=x) (n:=n) L G E J () () (λi o8=>W _ #[v,w,a,_,_,_,f,s,q,o,λhb y k X=>?_,rfl]) (λi nm o8=>W _ #[v,w,a,_,_,_,f,s,q,o,λhb y k X=>?_,rfl]) λi C M o8=>W _ #[_,_,kf,_,_,_,f.add Y i C M,s,?_,λ_=>?_,λz=>(nomatch z),rfl];rcases j hb y k X with z|z
 ·rcases QL.mp z with e|z
  ·cases e
   exact .inr (.inl i)
  exact .inl z
 exact .inr z;rcases j hb y k X with z|z
 ·rcases QL.mp z with e|z
  ·cases e
   exact .inr (.inr nm)
  exact .inl z
 exact .inr z;rw[QI,qL];omega;rw[QI,qL];omega
end
theorem j8{Ψ:PEv}(p:Ψ.sp "told_through"=VI):GD Ψ KG DI UG GF:=by
 rintro _ Q _ ⟨es,sr,nd,rfl,⟨i,f,l,e,o⟩,q⟩;refine vA [bD (.tuple (es.map pr)),bD (.tuple (sr.map j0)),bD (.list (nd.map FS)),kv,kv,kv,kv,kv,kv] ?_;have g0:=Ey (es:=es) (sr:=sr) o;have K:=g0.len;have W:=g0.rlen;refine zz () (yz () ?_);simp![↓kA];refine eI (λm u=>∃h F b o6 o7 o8,m=2 * (nd.9 - F.9)+(if b=kf then 1 else 0)/\GI es sr nd h F/\(b=kb->∀x n,(x,n)∈nd->x∉F->¬ TL es sr x F n)/\u=J4 es sr nd h F b o6 o7 o8) _ #[_,_,kf,kv,kv,kv,rfl,g0,λz=>(nomatch z),rfl] ?_;rintro m u ⟨h,F,b,o6,o7,o8,k,g,r,rfl⟩;cases b with
 |true =>
  have v:=λ(Z:PEnds) j=>Iy (Ψ:=Ψ) (Z:=Z) (b:=kf) (o6:=o6) (o7:=o7) (o8:=o8) p i f l e g j;unfold J4 at v;delta J4;simp![↓kA];refine v _ λy Y a o6 o7 o8 w A X s=>#[_,?_,y,Y,a,o6,o7,o8,rfl,w,s,rfl]
  have:=w.len;cases a with|true=>have:=X rfl;rw[k,i0 rfl];omega|false=>rw[k,i0 rfl,ii QG];omega
 |false=>delta J4;simp![↓kA];exact q h F g λx=>r9 g.held g.see (r rfl) x
noncomputable def zJ(p:Str×Int×Int×Int):D:=.tuple [.str p.1,.int p.2.1,.int p.2.2.1,.int p.2.2.2]
inductive Evt where
 |see (t:Int) (p m w:Str)|tell (t:Int) (a b m w:Str) (by_:LS)
noncomputable def IB:Evt->D
 | .see t p m w=>.tuple [.str "see",.int t,.str p,.str m,.str w]|.tell t a b m w q=>.tuple [.str "tell",.int t,.str a,.str b,.str m,.str w,.tuple (q.map j0)]
structure Wd where
 ps:List (Str×Int×Int×Int)
 ms:LS
 ag:NC
 es:List Evt
def wD(w:Wd):D:=.tuple [.list (w.ps.map zJ),.list (w.ms.map j0),.list (w.ag.map pr),.list (w.es.map IB)]
section
variable{w:Wd}{p:Str×Int×Int×Int}{n m:Bool}{R:T->Prop}
theorem KA{ds:List D}{i:Nat}{d:D}(h:ds[i]?=jr d):XA (.d (.tuple ds)) n (.d (.int (i:Int))) m R=R (.d d):=by rw[Z5,show PC ds (i:Int)=jr d from kE h,OA]
theorem U0:XA (.d (wD w)) n (.d (.int 0)) m R=R (.d (.list (w.ps.map zJ))):=KA (i:=0) rfl
theorem Fb:XA (.d (wD w)) n (.d (.int 1)) m R=R (.d (.list (w.ms.map j0))):=KA (i:=1) rfl
theorem Jw:XA (.d (wD w)) n (.d (.int 2)) m R=R (.d (.list (w.ag.map pr))):=KA (i:=2) rfl
theorem MS:XA (.d (wD w)) n (.d (.int 3)) m R=R (.d (.list (w.es.map IB))):=KA (i:=3) rfl
theorem B0:XA (.d (zJ p)) n (.d (.int 0)) m R=R (.d (.str p.1)):=KA (i:=0) rfl
theorem Fw:XA (.d (zJ p)) n (.d (.int 1)) m R=R (.d (.int p.2.1)):=KA (i:=1) rfl
theorem Dw:XA (.d (zJ p)) n (.d (.int 2)) m R=R (.d (.int p.2.2.1)):=KA (i:=2) rfl
theorem Cw:XA (.d (zJ p)) n (.d (.int 3)) m R=R (.d (.int p.2.2.2)):=KA (i:=3) rfl
end
def KO(w:Wd):List (Str×Int):=w.ps.map λp=>(p.1,p.2.2.2)
def cW:PSp where
 run:=λh Q _=>∃w:Wd,h=[.d (wD w)]/\w.ps.9<=90/\Q (.lst (((KO w).map FS).map T.d)) []
theorem El{Ψ:PEv}:GD Ψ fI cW mO xL:=by
 rintro _ Q _ ⟨w,rfl,l,q⟩;refine vA [bD (wD w)] ?_;delta fI;simp![↓U0];rw[<- oA zJ];refine jB (λp=>T.d (zJ p)) (λp=>T.d (FS (p.1,p.2.2.2))) w.ps [] _ (λx y R h=>?_) (by show 0+w.ps.9<=_;omega) ?_;simp![↓B0,↓Cw];exact#[(),h];rw[Qi,oA λp:Str×Int×Int×Int=>FS (p.1,p.2.2.2)];have e:(w.ps.map λp=>FS (p.1,p.2.2.2))=(KO w).map FS:=by unfold KO;rw[Qb];rfl
 rw[e];exact q
noncomputable def YE(es:NC)(sr:LS):D:=.tuple [.tuple (sr.map j0),.tuple (es.map pr)]
section
variable{es:NC}{sr:LS}{n m:Bool}{R:T->Prop}
theorem Ow:XA (.d (YE es sr)) n (.d (.int 0)) m R=R (.d (.tuple (sr.map j0))):=KA (i:=0) rfl
theorem Nw:XA (.d (YE es sr)) n (.d (.int 1)) m R=R (.d (.tuple (es.map pr))):=KA (i:=1) rfl
end
def EL:PSp where
 run:=λz Q _=>∃(w:Wd) (y:NC) (h:LS),z=[.d (wD w),.d (YE y h)]/\(y.9<=126/\h.9<=11/\AK y h/\w.ps.9<=90/\(w.ps.map λp=>p.1).Nodup)/\∀l:LS,(∀x,x∈l↔Held y h (KO w) x)->l.9<=90->Q (.lst ((l.map j0).map T.d)) []
theorem fq{ts:LT}{W:LT->Prop}:rK .val [(.lst ts,kf)] W=W ((ersT ts).map T.d):=nJ _
theorem On(r:Rw):(uK r).er=.tuple [.str r.1,.list (ersT ((r.2.map MD).map T.d))]:=rfl
theorem Sd{Ψ:PEv}(l:Ψ.sp "ground_alone"=DI)(j:Ψ.sp "needs_of"=cW):GD Ψ ZF EL OJ YH:=by
 rintro _ Q _ ⟨w,m,z,rfl,⟨a,k,b,y,nd⟩,q⟩;have v:(KO w).9<=90:=by unfold KO;rw[QD];exact y
 have u:((KO w).map λp=>p.1).Nodup:=by unfold KO;rw[Qb];exact nd
 refine vA [bD (wD w),bD (YE m z)] ?_;delta ZF;simp![↓Ow,↓Nw,↓jA (md:=[]) l rfl rfl,↓jA (md:=[]) j rfl rfl];refine#[_,rfl,y,?_];simp![↓kA];refine U1 #[a,k,b,v,u] λh F g i=>?_;rw[fq];have fl:=g.len;have rl:h.9=F.length:=by rw[g.e,QD]
 rw[bS,Qb,Qb];refine#[rfl,?_];refine jB (λr=>T.d (uK r).er) (λr=>T.d (.str r.1)) h [] _ (λx n R f=>?_) (by show 0+h.9<=_;omega) ?_;rw[On];simp![↓kA];exact f;rw[Qi,oA (λr:Rw=>j0 r.1)];have e:(h.map λr=>j0 r.1)=F.map j0:=by rw[g.e,Qb];rfl
 rw[e];exact q F i ()
noncomputable def sA(evs:List Evt)(n:Nat):Evt:=(evs[n]?).getD (.see 0 "" "" "")
def FD(e:Evt):Prop:=∃t a b m w q,e=.tell t a b m w q
def zt:Evt->Str
 | .see _ _ m _=>m|.tell _ _ _ m _ _=>m
noncomputable def FJ:Evt->Str×Str
 | .see _ p m _=>(p,m)|.tell _ a b _ _ _=>(a,b)
def nD(n:Nat):D:=.int (n:Int)
theorem tQ{evs:List Evt}{i:Nat}{n m:Bool}{R:T->Prop}(h:i<evs.9):XA (.d (.list (evs.map IB))) n (.d (nD i)) m R=R (.d (IB (sA evs i))):=by delta nD;rw[Gb,show PC (evs.map IB) (i:Int)=jr (IB (sA evs i)) from kE (by rw[QX,Qf h];unfold sA;rw[Qf h];rfl),OA]
section
variable{e:Evt}{n m:Bool}{R:T->Prop}
theorem vg(h:FD e):XA (.d (IB e)) n (.d (.int 2)) m R=R (.d (.str (FJ e).1)):=by let#[t,a,b,x,w,q,rfl]:=h;exact KA (i:=2) rfl
theorem kg(h:FD e):XA (.d (IB e)) n (.d (.int 3)) m R=R (.d (.str (FJ e).2)):=by let#[t,a,b,x,w,q,rfl]:=h;exact KA (i:=3) rfl
theorem Tp(h:FD e):XA (.d (IB e)) n (.d (.int 4)) m R=R (.d (.str (zt e))):=by let#[t,a,b,x,w,q,rfl]:=h;exact KA (i:=4) rfl
end
section
variable{Ψ:PEv}{ks:List Pt}{L:Bool->Prop}
theorem xh{ds:List D}{Q:T->Bool->Prop}:dM .tuple [(.lst (ds.map T.d),kf)] Q=Q (.d (.tuple ds)) false:=by unfold dM CB;show vY .tuple [.ls ((ersT (ds.map T.d)).map T.d)] Q=_;rw[fB,Th];exact i3 #[λ#[_,e,q]=>by rw[JA]at e;cases e;exact q,λq=>#[_,JA _,q]]
def cI(evs:List Evt)(h:LN)(m:Str):NC:=(h.filter λn=>decide (zt (sA evs n)=m)).map λn=>FJ (sA evs n)
def DQ:PSp where
 run:=λy Q _=>∃(h:List Evt) (x:LN) (m:Str),y=[.d (.list (h.map IB)),.d (.list (x.map nD)),.d (.str m)]/\x.9<=100/\(∀n∈x,n<h.9/\FD (sA h n))/\Q (.d (.tuple ((cI h x m).map pr))) []
theorem cm:GD Ψ pI DQ sO fL:=by
 rintro _ Q _ ⟨h,y,m,rfl,l,a,q⟩;refine vA [bD (.list (h.map IB)),bD (.list (y.map nD)),bD (.str m),kv] ?_;delta pI;simp![↓kA];rw[<- oA nD];refine nA (λn=>T.d (nD n)) (λn=>T.d (IB (sA h n))) (λn=>decide (zt (sA h n)=m)) y [] _ (λx v R u=>?_) (by show 0+y.9<=_;omega) ?_;simp![↓tQ (a x v).1,↓Tp (a x v).2];split at u;rename_i c;rw[i0 c];exact u;rename_i c;rw[ii c];exact u;rw[Qi,oA λn=>IB (sA h n)];simp![↓kA];rw[<- oA λn=>IB (sA h n)];refine jB (λn=>T.d (IB (sA h n))) (λn=>T.d (pr (FJ (sA h n)))) _ [] _ (λx v R u=>?_) (by show 0+(List.filter _ y).9<=_;have:=qG (λn=>decide (zt (sA h n)=m)) y;omega) ?_;have z:=(Qc.mp v).1;simp![↓vg (a x z).2,↓kg (a x z).2];exact#[(),u];rw[Qi,oA λn=>pr (FJ (sA h n)),xh];have e:((y.filter λn=>decide (zt (sA h n)=m)).map λn=>pr (FJ (sA h n)))=(cI h y m).map pr:=by unfold cI;rw[Qb];rfl
 rw[e];simp![↓kA];exact q
noncomputable def zL(w:Wd)(x:Str):LJ:=(w.ps.filter λp=>decide (p.1=x)).map λp=>p.2.1
def KQ:PSp where
 run:=λh Q _=>∃(w:Wd) (x:Str) (r:Int),h=[.d (wD w),.d (.str x)]/\w.ps.9<=90/\(zL w x)[0]?=jr r/\Q (.d (.int r)) []
theorem Ld:GD Ψ ZK KQ bQ SM:=by
 rintro _ Q _ ⟨w,x,r,rfl,l,a,q⟩;refine vA [bD (wD w),bD (.str x)] ?_;delta ZK;simp![↓U0];rw[<- oA zJ];refine nA (λp=>T.d (zJ p)) (λp=>T.d (.int p.2.1)) (λp=>decide (p.1=x)) w.ps [] _ (λp z R h=>?_) (by show 0+w.ps.9<=_;omega) ?_;simp![↓B0,↓Fw];split at h;rename_i c;rw[i0 c];exact h;rename_i c;rw[ii c];exact h;rw[Qi,oA λp:Str×Int×Int×Int=>j1 p.2.1];have e:((w.ps.filter λp=>decide (p.1=x)).map λp=>j1 p.2.1)=(zL w x).map j1:=by unfold zL;rw[Qb];rfl
 rw[e];have y:PC ((zL w x).map j1) 0=jr (.int r):=kE (j:=0) (by rw[QX,a];rfl);simp![y];exact q
noncomputable def mG(w:Wd)(x:Str):LJ:=(w.ps.filter λp=>decide (p.1=x)).map λp=>p.2.2.1
def UM:PSp where
 run:=λh Q _=>∃(w:Wd) (x:Str) (r:Int),h=[.d (wD w),.d (.str x)]/\w.ps.9<=90/\(mG w x)[0]?=jr r/\Q (.d (.int r)) []
theorem S7:GD Ψ oI UM rO dL:=by
 rintro _ Q _ ⟨w,x,r,rfl,l,a,q⟩;refine vA [bD (wD w),bD (.str x)] ?_;delta oI;simp![↓U0];rw[<- oA zJ];refine nA (λp=>T.d (zJ p)) (λp=>T.d (.int p.2.2.1)) (λp=>decide (p.1=x)) w.ps [] _ (λp z R h=>?_) (by show 0+w.ps.9<=_;omega) ?_;simp![↓B0,↓Dw];split at h;rename_i c;rw[i0 c];exact h;rename_i c;rw[ii c];exact h;rw[Qi,oA λp:Str×Int×Int×Int=>j1 p.2.2.1];have e:((w.ps.filter λp=>decide (p.1=x)).map λp=>j1 p.2.2.1)=(mG w x).map j1:=by unfold mG;rw[Qb];rfl
 rw[e];have y:PC ((mG w x).map j1) 0=jr (.int r):=kE (j:=0) (by rw[QX,a];rfl);simp![y];exact q
noncomputable def ML(ks:List Pt):T:=.dct kf (ks.map pr) (ks.map λ_=>T.d (.bool kf))
noncomputable def aV(ks:List Pt)(p:Pt):List Pt:=if p∈ks then ks else ks++[p]
theorem tV(ks:List Pt)(p:Pt):(aV ks p).9<=ks.9+1:=by unfold aV;split;omega;simp
theorem rP{α h:Type}(c:h):∀(l:List α) (n:Nat),(l.map λ_=>c).set n c=l.map λ_=>c
 |[],_=>rfl|_::_,0=>rfl|x::l,n+1=>by show c::(l.map λ_=>c).set n c=_;rw[rP c l n];rfl
theorem Zg{p:Pt}{Q:T->Prop}(hl:ks.9<kt)(q:Q (ML (aV ks p))):Vg (ML ks) (.d (pr p)) (.d (.bool kf)) Q:=by
 refine#[EB p,by rw[QD];exact hl,?_];show Q (cK kf (ks.map pr) (ks.map λ_=>T.d (.bool kf)) (pr p) (.d (.bool kf)));unfold aV at q;unfold cK;by_cases c:p∈ks;rw[i0 c]at q;cases e:cA (ks.map pr) (pr p) with|none=>exact i2 (vR.mpr c) (zB.mp e)|some n=>show Q (.dct kf (ks.map pr) ((ks.map λ_=>T.d (.bool kf)).set n (.d (.bool kf))));rw[rP];exact q
 rw[ii c]at q;rw[zB.mpr λz=>c (vR.mp z)];unfold ML at q;rw[QM,QM]at q;exact q
theorem Fu{q:Pt}:SB .In (.d (pr q)) (ML ks) L=L (decide (q∈ks)):=by unfold ML;rw[ga,tJ];exact i3 #[λh=>h.2,λh=>#[EB q,h]]
theorem Zo{q:Pt}:SB .NotIn (.d (pr q)) (ML ks) L=L (!decide (q∈ks)):=by unfold ML;rw[zO,tJ];exact i3 #[λh=>h.2,λh=>#[EB q,h]]
def IF(evs:List Evt)(ks:List Pt)(n:Nat):List Pt:=match sA evs n with
 | .see _ p m _=>aV ks (p,m)|_=>ks
def HB(evs:List Evt)(l:LN):List Pt:=l.foldl (IF evs) []
noncomputable def GV:Evt->Str
 | .see _ _ _ _=>"see"|.tell _ _ _ _ _ _=>"tell"
end
section
variable{e:Evt}{n m:Bool}{R:T->Prop}{t:Int}{p h w:Str}
theorem EJ:XA (.d (IB e)) n (.d (.int 0)) m R=R (.d (.str (GV e))):=by cases e;exact KA (i:=0) rfl;exact KA (i:=0) rfl
theorem cg:XA (.d (IB (.see t p h w))) n (.d (.int 2)) m R=R (.d (.str p)):=KA (i:=2) rfl
theorem K5:XA (.d (IB (.see t p h w))) n (.d (.int 3)) m R=R (.d (.str h)):=KA (i:=3) rfl
end
section
variable{Ψ:PEv}{ks z:List Pt}{a b:Str}{L:Bool->Prop}{ns:LJ}
theorem AC{c a b:Prop}[Decidable c](h:¬ c)(q:b):if c then a else b:=by rw[ii h];exact q
def Xx(evs:List Evt)(l:LN)(ks:List Pt)(o3:Option Sl):xA:=[bD (.list (evs.map IB)),jr (.bor (.lst (l.map λn=>T.d (nD n)))),oW (ML ks),o3]
def AL:PSp where
 md:=[.fro,.shal]
 run:=λx Q _=>∃(h:List Evt) (l:LN),x=[.d (.list (h.map IB)),.lst ((l.map nD).map T.d)]/\l.9<=100/\(∀n∈l,n<h.9)/\Q (ML (HB h l)) []
theorem Hd:GD Ψ sF AL MJ iH:=by
 rintro _ Q _ ⟨h,l,rfl,hl,j,q⟩;refine vA [bD (.list (h.map IB)),jr (.bor (.lst ((l.map nD).map T.d))),kv,kv] ?_;delta sF;simp![↓kA];rw[<- oA nD];refine BA (λn=>T.d (nD n)) (λr y=>∃ks u,r.foldl (IF h) ks=HB h l/\ks.9+r.9<=100/\(∀n∈r,n<h.9)/\y=Xx h l ks u) ?_ ?_ l _ #[[],kv,rfl,by simpa using hl,j,rfl];rintro y ⟨ks,u,e,_,_,rfl⟩;have e:ks=HB h l:=e;subst e;delta Xx;simp![↓kA];exact q;rintro n r y N i ⟨ks,u,e,hk,k,rfl⟩;have g:ks.9+(r.9+1)<=100:=hk;have f:=k n QF;delta Xx;delta tG;simp![↓tQ f,↓EJ];have e:r.foldl (IF h) (IF h ks n)=HB h l:=e;unfold IF at e;cases ev:sA h n with|see t p m w=>rw[ev]at e;simp![GV,↓cg,↓K5];rw[tQ f,ev];simp![↓K5];exact#[(),Zg (p:=(p,m)) () (i _ #[aV ks (p,m),_,e,by have:=tV ks (p,m);omega,λx v=>k x (QE _ v),rfl])]|tell t a b m w o=>rw[ev]at e;refine AC (show decide ((QV "tell")=(QV "see"))≠kf by decide) ?_;exact i _ #[ks,_,e,(),λx v=>k x (QE _ v),rfl]
theorem yY:SB .In (.d (.tuple [.str a,.str b])) (ML ks) L=L (decide ((a,b)∈ks)):=Fu (q:=(a,b))
theorem AZ:SB .NotIn (.d (.tuple [.str a,.str b])) (ML ks) L=L (!decide ((a,b)∈ks)):=Zo (q:=(a,b))
noncomputable def SH(w:Wd)(ks:List Pt)(m:Str):LS:=(w.ps.filter λp=>decide ((p.1,m)∈ks)).map λp=>p.1
def ZQ:PSp where
 md:=[.fro,.bor]
 run:=λh Q _=>∃(w:Wd) (ks:List Pt) (m:Str),h=[.d (wD w),ML ks,.d (.str m)]/\w.ps.9<=90/\Q (.d (.tuple ((SH w ks m).map j0))) []
theorem Pl:GD Ψ dI ZQ gO kL:=by
 rintro _ Q _ ⟨w,ks,m,rfl,l,q⟩;refine vA [bD (wD w),jr (.bor (ML ks)),bD (.str m)] ?_;delta dI;simp![↓U0];rw[<- oA zJ];refine nA (λp=>T.d (zJ p)) (λp=>T.d (.str p.1)) (λp=>decide ((p.1,m)∈ks)) w.ps [] _ (λp x R h=>?_) (by show 0+w.ps.9<=_;omega) ?_;simp![↓B0,↓yY];refine#[(),?_];split at h;rename_i c;rw[i0 c];exact h;rename_i c;rw[ii c];exact h;rw[Qi,oA λp:Str×Int×Int×Int=>j0 p.1,xh];have e:((w.ps.filter λp=>decide ((p.1,m)∈ks)).map λp=>j0 p.1)=(SH w ks m).map j0:=by unfold SH;rw[Qb];rfl
 rw[e];simp![↓kA];exact q
theorem Iu{E:XE}{ρ:xA}{a c h:PX}{t u:Str}{x y:D}{w:fm}{R:Option T->Prop}:rG Ψ E [] [t,u] (.tp [0,1]) (.cmp w a c) h ρ (.d (.tuple [x,y])) R=cN Ψ (.cmp w a c) E (bD x::bD y::lockA ρ) λk v=>if k=kf then xB Ψ h E v λy n _=>bC y n (R (jr y)) else R none:=OA
theorem oZ:∀{l:List D},(∀x∈l,x.canLay0=kf/\x.depth<=1)->qz l=kf/\wm l<=1
 |[],_=>by simp[qz,wm]|x::l,h=>by let#[w,e]:=h x QF;let#[u,k]:=oZ (l:=l) λy v=>h y (QE _ v);simp only[qz,wm,w,u,Bool.and_self,true_and];omega
theorem ym{l:List D}(h:∀x∈l,x.canLay0=kf/\x.depth<=1):JE (.list l):=by let#[y,u]:=oZ h;refine#[?_,?_];simp only[QAf];exact y;simp only[QBP];omega
noncomputable def FL(w:Wd)(m:Str):LS:=(w.ag.filter λp=>decide (p.1=m)).map λp=>p.2
noncomputable def DL(w:Wd)(m:Str):LS:=(w.ag.filter λp=>decide (p.2=m)).map λp=>p.1
def OkS(a:Str):Prop:=ql a=kf
def vp(h:T)(f:Pt->Bool):Prop:=∀a b (L:Bool->Prop),OkS a->OkS b->L (f (a,b))->SB .In (.d (.tuple [.str a,.str b])) h L
theorem Ht(ks:List Pt):vp (ML ks) λq=>decide (q∈ks):=λa b L _ _ h=>by rw[yY];exact h
theorem Tl(h:∀p∈z,OkS p.1/\OkS p.2):JE (.list (z.map pr)):=ym λx u=>by let#[p,y,rfl]:=QZ.mp u;have q:=yD (h p y).1 (h p y).2;exact#[q.1,by simp[pr,QBP,wm]]
theorem g9(h:∀p∈z,OkS p.1/\OkS p.2):vp (.d (.list (z.map pr))) λq=>decide (q∈z):=λa b L u hb q=>by
 refine#[.inr #[yD u hb,Tl h],?_];have e:((z.map pr).any λy=>Ql y (.tuple [.str a,.str b]))=decide ((a,b)∈z):=by rw[QBU,Qz,wx,o2];constructor;rintro⟨p,x,e⟩;have e:Ql (pr p) (pr (a,b))=true:=e;rw[cS,o2]at e;exact e▸x;intro x;refine#[(a,b),x,?_];show Ql (pr (a,b)) (pr (a,b))=kf;rw[cS];exact dT rfl
 show L ((z.map pr).any λy=>Ql y (.tuple [.str a,.str b]));rw[e];exact q
def LQ:PSp where
 md:=[.fro,.bor]
 run:=λy Q _=>∃(w:Wd) (h:T) (f:Pt->Bool) (x m:Str),y=[.d (wD w),h,.d (.str x),.d (.str m)]/\(vp h f/\OkS x/\∀p∈w.ag,OkS p.1/\OkS p.2)/\w.ag.9<=100/\Q (.d (.bool ((FL w m++DL w m).any λr=>f (x,r)))) []
theorem Jm:GD Ψ iE LQ HH xG:=by
 rintro _ Q _ ⟨w,v,f,x,m,rfl,⟨i,k,u⟩,l,q⟩;have Y:=qG (λp:Str×Str=>decide (p.1=m)) w.ag;have X:=qG (λp:Str×Str=>decide (p.2=m)) w.ag;have s:(FL w m).9<=100:=by unfold FL;rw[QD];omega
 have o:(DL w m).9<=100:=by unfold DL;rw[QD];omega
 refine vA [bD (wD w),jr (.bor v),bD (.str x),bD (.str m),kv] ?_;delta iE;simp![↓Jw];rw[<- oA pr w.ag];refine nA (λp=>T.d (pr p)) (λ(p:Str×Str)=>T.d (.str p.2)) (λp=>decide (p.1=m)) w.ag [] _ (λp e R y=>?_) (by show 0+w.ag.9<=_;omega) ?_;delta pr;simp![↓Iu];split at y;rename_i c;rw[i0 c];exact y;rename_i c;rw[ii c];exact y;rw[Qi,oA λp:Str×Str=>j0 p.2];have n:((w.ag.filter λp=>decide (p.1=m)).map λp=>j0 p.2)=(FL w m).map j0:=by unfold FL;rw[Qb];rfl
 rw[n];refine nA (λp=>T.d (pr p)) (λ(p:Str×Str)=>T.d (.str p.1)) (λp=>decide (p.2=m)) w.ag [] _ (λp e R y=>?_) (by show 0+w.ag.9<=_;omega) ?_;delta pr;simp![↓Iu];split at y;rename_i c;rw[i0 c];exact y;rename_i c;rw[ii c];exact y;rw[Qi,oA λp:Str×Str=>j0 p.1];have j:((w.ag.filter λp=>decide (p.2=m)).map λp=>j0 p.1)=(DL w m).map j0:=by unfold DL;rw[Qb];rfl
 rw[j,<- QM,<- QM];refine#[by rw[QD,QD,QD,QD];omega,?_];simp![↓kA];rw[<- oA j0];refine jB (λr=>T.d (.str r)) (λr=>T.d (.bool (f (x,r)))) (FL w m++DL w m) [] _ (λr e R y=>?_) (by show 0+(FL w m++DL w m).9<=_;rw[QI];omega) ?_;simp![↓kA];refine#[(),i _ _ _ k ?_ y];rcases Qh.mp e with h|h;let#[p,g,rfl]:=QZ.mp h;exact(u p (Qc.mp g).1).2;let#[p,g,rfl]:=QZ.mp h;exact(u p (Qc.mp g).1).1;rw[Qi,oA λr=>PyData.bool (f (x,r)),Os];refine#[(FL w m++DL w m).map λr=>f (x,r),by rw[Qb];rfl,?_];rw[QBU];simp![↓kA];exact q
theorem Cs{n:Bool}{Q:T->Bool->Prop}(x:ns.9<64)(q:∀h:LJ,h.Perm ns->h.Pairwise (·<=·)->Q (.lst ((h.map j1).map T.d)) kf):dM .sorted [(.lst ((ns.map j1).map T.d),n)] Q:=by unfold dM CB;rw[TC];exact .inr (.inr (.inl #[_,ns,rfl,JA _,x,q]))
theorem Je{l:LN}(h:ns.Perm (l.map λ(n:Nat)=>(n:Int)))(u:ns.Pairwise (·<=·)):∃y:LN,ns=y.map (λ(n:Nat)=>(n:Int))/\y.Perm l/\y.Pairwise (·<=·):=by
 have e:ns=(ns.map QCs).map λ(n:Nat)=>(n:Int):=by rw[Qb];refine(QCq ns).symm.trans (wP λx v=>?_);let#[n,_,rfl]:=QZ.mp (h.mem_iff.mp v);rfl
 refine#[ns.map QCs,e,?_,?_];have:=h.map QCs;rw[Qb]at this;refine this.trans (QCC.of_eq ?_);exact(wP λn _=>rfl).trans (QCq l);rw[e]at u;exact(QAr.mp u).imp λh=>()
def gH(evs:List Evt)(h:LN)(ks:List Pt):LN:=h.filter λn=>!decide (((FJ (sA evs n)).1,(FJ (sA evs n)).2)∈ks)
def HG:PSp where
 md:=[.fro,.shal,.bor]
 run:=λu Q _=>∃(h:List Evt) (x:LN) (ks:List Pt),u=[.d (.list (h.map IB)),.lst ((x.map nD).map T.d),ML ks]/\x.9<64/\(∀n∈x,n<h.9/\FD (sA h n))/\∀y:LN,y.Perm (gH h x ks)->y.Pairwise (·<=·)->Q (.lst ((y.map nD).map T.d)) []
theorem Od:GD Ψ eF HG NJ JH:=by
 rintro _ Q _ ⟨h,x,ks,rfl,l,a,q⟩;refine vA [bD (.list (h.map IB)),jr (.bor (.lst ((x.map nD).map T.d))),jr (.bor (ML ks))] ?_;delta eF;simp![↓kA];rw[<- oA nD];refine nA (λn=>T.d (nD n)) (λn=>T.d (nD n)) (λn=>!decide (((FJ (sA h n)).1,(FJ (sA h n)).2)∈ks)) x [] _ (λn u R v=>?_) (by show 0+x.9<=_;omega) ?_;simp![↓tQ (a n u).1,↓vg (a n u).2,↓kg (a n u).2,↓AZ];refine#[(),?_];split at v;rename_i c;rw[i0 c];exact v;rename_i c;rw[ii c];exact v;rw[Qi,oA nD];have e:(gH h x ks).map nD=((gH h x ks).map λ(n:Nat)=>(n:Int)).map j1:=by rw[Qb];rfl
 have fl:=qG (λn=>!decide (((FJ (sA h n)).1,(FJ (sA h n)).2)∈ks)) x;show dM .sorted [(.lst (((gH h x ks).map nD).map T.d),kf)] _;rw[e];refine Cs (by rw[QD];unfold gH;omega) λf k w=>?_;let#[y,rfl,i,g]:=Je k w;have j:(y.map λ(n:Nat)=>(n:Int)).map j1=y.map nD:=by rw[Qb];rfl
 rw[j];simp![↓kA];exact q y i g
def X5(w:Wd)(h:List Pt)(b m:Str):Bool:=!decide ((b,m)∈h)&&(FL w m++DL w m).any λr=>decide ((b,r)∈h)
def rM(w:Wd)(h ks:List Pt)(n:Nat):List Pt:=match sA w.es n with
 | .tell _ a b m _ _=>if X5 w h b m=kf then aV ks (a,b) else ks|_=>ks
def JO(w:Wd)(l:LN):List Pt:=l.foldl (rM w (HB w.es l)) []
def zj(w:Wd)(x:Str):Prop:=∃p∈w.ps,p.1=x
def jb(w:Wd):Evt->Prop
 | .see _ p m h=>zj w p/\m∈w.ms/\OkS h|.tell _ a b m h q=>zj w a/\zj w b/\m∈w.ms/\a≠b/\OkS h/\∀x∈q,zj w x
structure WOk(w:Wd):Prop where
 ag:∀p∈w.ag,OkS p.1/\OkS p.2
 al:w.ag.9<=100
 pl:w.ps.9<=11
 pn:(w.ps.map λp=>p.1).Nodup
 po:∀p∈w.ps,OkS p.1
 ml:w.ms.9<=10
 mo:∀m∈w.ms,OkS m
 mn:w.ms.Nodup
 el:w.es.9<=60
 eo:∀e∈w.es,jb w e
theorem WOk.ev{w:Wd}(h:WOk w){n:Nat}(x:n<w.es.9):jb w (sA w.es n):=by unfold sA;rw[Qf x];exact h.eo _ (WL x)
theorem WOk.nm{w:Wd}(h:WOk w){x:Str}(y:zj w x):OkS x:=by let#[p,u,rfl]:=y;exact h.po p u
end
section
variable{Ψ:PEv}{E:XE}{ρ:xA}{M:List (T×Bool)->xA->Prop}{a z:PX}{md:List Md}{d:D}{n m:Bool}{xs:List (T×Bool)}{C:LT->Prop}{R:T->Prop}{t:Int}{x b h y:Str}{q:LS}
theorem Uv{ks:List Pt}:Jb (ML ks) kb Ψ z E md ρ M=zM Ψ z E md (lockA ρ) λxs _=>M xs ρ:=rfl
theorem Y5:XA (.d (IB (.tell t x b h y q))) n (.d (.int 2)) m R=R (.d (.str x)):=KA (i:=2) rfl
theorem pY:XA (.d (IB (.tell t x b h y q))) n (.d (.int 3)) m R=R (.d (.str b)):=KA (i:=3) rfl
theorem oY:XA (.d (IB (.tell t x b h y q))) n (.d (.int 4)) m R=R (.d (.str h)):=KA (i:=4) rfl
end
section
variable{Ψ:PEv}{x:Str}{es:List Pt}{sr:LS}{u:Kn}
def Aw(w:Wd)(l:LN)(ks:List Pt)(o4 o5:Option Sl):xA:=[bD (wD w),jr (.bor (.lst (l.map λn=>T.d (nD n)))),oW (ML (HB w.es l)),oW (ML ks),o4,o5]
def RF:PSp where
 md:=[.fro,.shal]
 run:=λh Q _=>∃(w:Wd) (l:LN),h=[.d (wD w),.lst ((l.map nD).map T.d)]/\WOk w/\l.9<=100/\(∀n∈l,n<w.es.9)/\Q (ML (JO w l)) []
theorem G7(K:Ψ.sp "seen_among"=AL)(W:Ψ.sp "has_against"=LQ):GD Ψ nE RF BH jG:=by
 rintro _ Q _ ⟨w,l,rfl,k,hl,X,q⟩;refine vA [bD (wD w),jr (.bor (.lst ((l.map nD).map T.d))),kv,kv,kv,kv] ?_;delta nE;simp![↓MS,↓jA (md:=[.fro,.shal]) K rfl rfl,↓pC,↓Ef];refine#[_,_,rfl,hl,X,?_];simp![↓kA];rw[<- oA nD];refine BA (λn=>T.d (nD n)) (λr i=>∃h o j,r.foldl (rM w (HB w.es l)) h=JO w l/\h.9+r.9<=100/\(∀n∈r,n<w.es.9)/\i=Aw w l h o j) ?_ ?_ l _ #[[],kv,kv,rfl,by simpa using hl,X,rfl];rintro i ⟨h,o,j,e,_,_,rfl⟩;have e:h=JO w l:=e;subst e;delta Aw;simp![↓kA];exact q;rintro n r i N f ⟨h,o,j,e,hk,z,rfl⟩;have Y:h.9+(r.9+1)<=100:=hk;have s:=z n QF;have v:=k.ev s;have e:r.foldl (rM w (HB w.es l)) (rM w (HB w.es l) h n)=JO w l:=e;unfold rM at e;delta Aw;delta LF;simp![↓MS,↓tQ s,↓EJ];cases ev:sA w.es n with|see t p m Z=>rw[ev]at e;refine AC (show decide ((QV "see")=(QV "tell"))≠kf by decide) ?_;exact f _ #[h,_,_,e,(),λx y=>z x (QE _ y),rfl]|tell t a b m Z A=>rw[ev]at e v;let#[B,hb,hm,_]:=v;simp![GV,↓Y5,↓pY,↓oY,↓AZ,↓jA (md:=[.fro,.bor]) W rfl rfl,↓pC,↓Ef,↓Uv];refine#[(),?_];unfold X5 at e;by_cases c:(b,m)∈HB w.es l;simp![dT c];simp only[dT c,W7,QAa,Qv,if_false]at e;exact f _ #[h,_,_,e,(),λx y=>z x (QE _ y),rfl];simp![dF c];refine#[_,_,_,_,_,rfl,#[Ht _,k.nm hb,k.ag],k.al,?_];simp![↓kA];by_cases g:((FL w m++DL w m).any λr=>decide ((b,r)∈HB w.es l))=kf;simp![g];simp only[dF c,g,WF,WS,if_true]at e;exact#[(),Zg (p:=(a,b)) () (f _ #[aV h (a,b),_,_,e,by have:=tV h (a,b);omega,λx y=>z x (QE _ y),rfl])];rw[ii g];simp only[dF c,WF,WS]at e;rw[ii g]at e;exact f _ #[h,_,_,e,(),λx y=>z x (QE _ y),rfl]
theorem oe{hs:List Pt}(h:∀p∈hs,OkS p.1/\OkS p.2){a b:Str}{L:Bool->Prop}(y:OkS a)(hb:OkS b)(q:L (!decide ((a,b)∈hs))):SB .NotIn (.d (.tuple [.str a,.str b])) (.d (.list (hs.map pr))) L:=g9 h a b (λc=>L (!c)) y hb q
def iT(w:Wd)(x:Str):Int:=((zL w x)[0]?).getD 0
def HN(w:Wd)(x:Str):Int:=((mG w x)[0]?).getD 0
theorem Kc{w:Wd}(h:zj w x):(zL w x)[0]?=jr (iT w x):=by
 let#[p,y,rfl]:=h;have hm:p.2.1∈zL w p.1:=QZ.mpr #[p,Qc.mpr #[y,dT rfl],rfl];unfold iT;cases e:zL w p.1 with|nil=>rw[e]at hm;cases hm|cons x r=>rfl
theorem V9{w:Wd}(h:zj w x):(mG w x)[0]?=jr (HN w x):=by
 let#[p,y,rfl]:=h;have hm:p.2.2.1∈mG w p.1:=QZ.mpr #[p,Qc.mpr #[y,dT rfl],rfl];unfold HN;cases e:mG w p.1 with|nil=>rw[e]at hm;cases hm|cons x r=>rfl
def jx(w:Wd)(wr hs:List Pt):Evt->Bool
 | .see _ _ _ _=>kf|.tell _ a b m _ _=>decide ((a,m)∈hs)&&!decide ((a,b)∈wr)&&decide (HN w b<=iT w a)&&!((FL w m++DL w m).any λr=>decide ((b,r)∈hs))
def zg(hs:List Pt):Prop:=∀p∈hs,OkS p.1/\OkS p.2
def VY:PSp where
 md:=[.fro,.fro,.bor,.fro]
 run:=λy Q _=>∃(w:Wd) (e:Evt) (h hs:List Pt),y=[.d (wD w),.d (IB e),ML h,.d (.list (hs.map pr))]/\WOk w/\jb w e/\zg hs/\Q (.d (.bool (jx w h hs e))) []
theorem Js(s:Ψ.sp "rank_of"=KQ)(o:Ψ.sp "floor_of"=UM)(n:Ψ.sp "has_against"=LQ):GD Ψ YF VY pO cL:=by
 rintro _ Q _ ⟨w,e,k,hs,rfl,h,l,g,q⟩;refine vA [bD (wD w),bD (IB e),jr (.bor (ML k)),bD (.list (hs.map pr)),kv,kv,kv] ?_;cases e with|see t p m j=>delta YF;simp![↓EJ,GV];exact q|tell t a b m j X=>let#[i,hb,hm,_]:=l;delta YF;simp![↓EJ,GV];refine AC (show decide ((QV "tell")=(QV "see"))≠kf by decide) ?_;simp![↓Y5,↓pY,↓oY,↓bv];refine#[(),oe g (h.nm i) (h.mo _ hm) ?_];have q:Q (.d (.bool (decide ((a,m)∈hs)&&!decide ((a,b)∈k)&&decide (HN w b<=iT w a)&&!((FL w m++DL w m).any λr=>decide ((b,r)∈hs))))) []:=q;by_cases v:(a,m)∈hs;simp![dT v,↓yY];rw[dT v]at q;refine#[(),?_];by_cases z:(a,b)∈k;simp![dT z];rw[dT z]at q;exact q;simp![dF z,↓jA (md:=[]) s rfl rfl,↓jA (md:=[]) o rfl rfl];rw[dF z]at q;have f:w.ps.9<=90:=QU h.pl (by decide);refine#[_,_,_,rfl,f,(Kc i),?_];simp![↓kA];refine#[_,_,_,rfl,f,(V9 hb),?_];simp![↓Hu];by_cases y:HN w b<=iT w a;simp![dT y,↓jA (md:=[.fro,.bor]) n rfl rfl,↓pC,↓Ef];rw[dT y]at q;refine#[_,_,_,_,_,rfl,#[g9 g,h.nm hb,h.ag],h.al,?_];simp![↓kA];exact q;simp![dF y];rw[dF y]at q;exact q;simp![dF v];rw[dF v]at q;exact q
noncomputable abbrev Kn:=List ((List Pt×LS)×LS)
def R3(u:Kn):List D:=u.map λx=>YE x.1.1 x.1.2
def yn(u:Kn):LT:=u.map λx=>T.d (.list (x.2.map j0))
def u5(u:Kn):T:=.dct kf (R3 u) (yn u)
def eO(w:Wd)(u:Kn):Prop:=∀x∈u,∀y,y∈x.2↔Held x.1.1 x.1.2 (KO w) y
theorem eg:∀l:LS,tDs (l.map NK.s)=l.map j0
 |[]=>rfl|x::l=>by show j0 x::tDs (l.map NK.s)=_;rw[eg l];rfl
theorem ig:∀l:List Pt,tDs (l.map λp=>NK.t [.s p.1,.s p.2])=l.map pr
 |[]=>rfl|x::l=>by show pr x::tDs (l.map λp=>NK.t [.s p.1,.s p.2])=_;rw[ig l];rfl
theorem Ks:∀l:LS,nkds (l.map NK.s)=0
 |[]=>rfl|x::l=>by show max 0 (nkds (l.map NK.s))=0;rw[Ks l];rfl
theorem Vs:∀l:List Pt,nkds (l.map λp=>NK.t [.s p.1,.s p.2])<=1
 |[]=>Qt _|x::l=>by show max 1 (nkds (l.map λp=>NK.t [.s p.1,.s p.2]))<=1;have:=Vs l;omega
theorem MR(es:List Pt)(sr:LS):aD kf (YE es sr):=by refine#[[.t (sr.map NK.s),.t (es.map λp=>NK.t [.s p.1,.s p.2])],?_,?_];show _=PyData.tuple [.tuple (tDs (sr.map NK.s)),.tuple (tDs (es.map λp=>NK.t [.s p.1,.s p.2]))];rw[eg,ig];rfl;show max (nkds (sr.map NK.s)+1) (max (nkds (es.map λp=>NK.t [.s p.1,.s p.2])+1) 0)+1<=6;rw[Ks];have:=Vs es;omega
theorem Nb{v:List Pt}{z:LS}(h:YE es sr=YE v z):es=v/\sr=z:=by injection h with h;injection h with h1 h2;injection h2 with h2 _;injection h1 with h1;injection h2 with h2;refine#[(Wc λx y e=>?_).mp h2,(Wc λx y e=>?_).mp h1];injection e with e;injection e with e1 e2;injection e2 with e2 _;injection e1 with e1;injection e2 with e2;exact QCi e1 e2;injection e
theorem jn{v:LS}{Q:T->Prop}(hl:u.9<kt)(h:cA (R3 u) (YE es sr)=kv)(q:Q (u5 (u++[((es,sr),v)]))):Vg (u5 u) (.d (YE es sr)) (.lst ((v.map j0).map T.d)) Q:=by refine#[MR es sr,by unfold R3;rw[QD];exact hl,?_];show Q (cK kf (R3 u) (yn u) (YE es sr) (.d (.list (ersT ((v.map j0).map T.d)))));unfold cK;rw[h,fB];unfold u5 R3 yn at q;rw[QM,QM]at q;exact q
theorem lh{k:Nat}(h:cA (R3 u) (YE es sr)=jr k):∃v,((es,sr),v)∈u/\(yn u)[k]?=jr (T.d (.list (v.map j0))):=by
 have e:=HC h;unfold R3 at e;unfold yn;rw[QX]at e ⊢;cases z:u[k]? with|none=>rw[z]at e;cases e|some x=>rw[z]at e;let#[w,y]:=Nb (Qn e);let#[#[a,b],v]:=x;cases w;cases y;exact#[v,qW z,rfl]
end
section
variable{Ψ:PEv}{E:XE}{ρ:xA}{K:TK}{M:List (T×Bool)->xA->Prop}{a b c i g:PX}{md:List Md}{m:Bool}{f:Kn}{es:List Pt}{sr:LS}{L:Bool->Prop}{R:T->Prop}
section
variable{u:List (Str×LS)}{w:Str}
theorem Lf:SB .NotIn (.d (.tuple [.tuple (sr.map j0),.tuple (es.map pr)])) (u5 f) L=L (!(cA (R3 f) (YE es sr)).isSome):=by unfold u5;rw[zO];exact i3 #[λh=>h.2,λh=>#[MR es sr,h]]
theorem Mw{v:LS}{k:Nat}(h:cA (R3 f) (YE es sr)=jr k)(hv:(yn f)[k]?=jr (T.d (.list (v.map j0))))(q:R (.d (.list (v.map j0)))):XA (u5 f) kb (.d (.tuple [.tuple (sr.map j0),.tuple (es.map pr)])) m R:=.inr #[kf,_,_,k,_,rfl,MR es sr,h,hv,q]
theorem jBS:gb (u5 f) kb Ψ b E ρ K=xB Ψ b E (lockA ρ) λy m _=>K y m ρ:=rfl
noncomputable def u4(u:List (Str×LS)):T:=.dct kb (u.map λx=>.str x.1) (u.map λx=>T.d (.list (x.2.map j0)))
theorem yu{v:LS}{Q:T->Prop}(hl:u.9<kt)(h:w∉u.map λx=>x.1)(q:Q (u4 (u++[(w,v)]))):Vg (u4 u) (.d (.str w)) (.d (.list (v.map j0))) Q:=by refine#[#[w,rfl],by rw[QD];exact hl,?_];show Q (cK kb (u.map λx=>.str x.1) (u.map λx=>T.d (.list (x.2.map j0))) (.str w) (.d (.list (v.map j0))));unfold cK;rw[zB.mpr λz=>h (by let#[x,y,e]:=QZ.mp z;injection e with e;exact QZ.mpr #[x,y,e])];unfold u4 at q;rw[QM,QM]at q;exact q
theorem zu(h:w∈u.map λx=>x.1)(q:∀v,(w,v)∈u->R (.d (.list (v.map j0)))):XA (u4 u) kb (.d (.str w)) m R:=by
 cases e:cA (u.map λx=>j0 x.1) (.str w) with
 |none=>let#[x,l,j]:=QZ.mp h;exact i2 (QZ.mpr #[x,l,o9 j0 j]) (zB.mp e)|some k =>
  have j:=HC e;rw[QX]at j;cases z:u[k]? with|none=>rw[z]at j;cases j|some x=>rw[z]at j;have j:j0 x.1=.str w:=Qn j;injection j with j;let#[y,v]:=x;cases j;exact .inr #[kb,_,_,k,T.d (.list (v.map j0)),rfl,#[_,rfl],e,by rw[QX,z];rfl,q v (qW z)]
theorem jBT:gb (u4 u) kb Ψ b E ρ K=xB Ψ b E (lockA ρ) λy m _=>K y m ρ:=rfl
theorem Fz{v:Bool}{mk:List Bool}{t:Str}{x:T}{z:fm}{R:Option T->Prop}:rG Ψ E (v::mk) [t] (.nm 0) (.cmp z a c) g ρ x R=cN Ψ (.cmp z a c) E (jr (.bor x)::fC (v::mk) (lockA ρ)) λk h=>if k=kf then xB Ψ g E h λy n _=>bC y n (R (jr y)) else R none:=rfl
end
end
theorem uM{c a b:Prop}[Decidable c](h:c)(q:a):if c then a else b:=by rw[i0 h];exact q
def JV(w:Wd)(l h:LN)(m x:Str):Prop:=Held (cI w.es h m) (SH w (HB w.es l) m) (KO w) x
open Classical in
def Gp(w:Wd)(l h:LN)(x m:Str):Bool:=decide (JV w l h m x)
open Classical in
section
variable{Ψ:PEv}{Z:PEnds}{w:Wd}{l u:LN}{f:Kn}{g:List (Str×LS)}{m:Str}{o8 i o7:Option Sl}
theorem Ie(w:Wd)(l u:LN)(x m:Str):Gp w l u x m=kf↔JV w l u m x:=by unfold Gp;exact o2
noncomputable def ph(w:Wd)(l u:LN)(x:Str):List Pt:=(w.ms.filter (Gp w l u x)).map λm=>(x,m)
def DN(w:Wd)(l u:LN):List Pt:=w.ps.flatMap λp=>ph w l u p.1
def mY(w:Wd)(u:LN):Prop:=u.9<=100/\∀n∈u,n<w.es.9/\FD (sA w.es n)
def jAU(Q:T->LT->Prop):PEnds:={ nx:=λh=>iW (LA [3] h) (Q (.d .none)),rt:=λt h=>iW (LA [3] h) (Q t) }
def t4(w:Wd)(l u:LN)(f:Kn)(g:List (Str×LS))(o6 o7 o8 i:Option Sl):xA:=[bD (wD w),jr (.bor (.lst ((l.map nD).map T.d))),bD (.list (u.map nD)),oW (u5 f),oW (ML (HB w.es l)),oW (u4 g),o6,o7,o8,i]
def Ob(w:Wd)(l u:LN)(m:Str):T:=.d (YE (cI w.es u m) (SH w (HB w.es l) m))
theorem oh{k:Nat}{v:LS}(hl:g.9<kt)(hm:m∉g.map λx=>x.1)(h:cA (R3 f) (YE (cI w.es u m) (SH w (HB w.es l) m))=jr k)(hv:(yn f)[k]?=jr (T.d (.list (v.map j0))))(q:Z.nx (t4 w l u f (g++[(m,v)]) (bD (.str m)) (jr (.bor (Ob w l u m))) o8 i)):pF Ψ IC Z (t4 w l u f g (bD (.str m)) (jr (.bor (Ob w l u m))) o8 i):=by delta t4 Ob YE;delta IC;simp![↓jBS];refine Mw h hv ?_;simp![↓kA];exact yu hl hm q
theorem Ej(w:Wd)(ks:List Pt)(m:Str):(SH w ks m).9<=w.ps.length:=by unfold SH;rw[QD];exact qG _ _
theorem An(evs:List Evt)(u:LN)(m:Str):(cI evs u m).9<=u.length:=by unfold cI;rw[QD];exact qG _ _
theorem Bj(h:WOk w)(hv:mY w u)(m:Str):AK (cI w.es u m) (SH w (HB w.es l) m):=by constructor;intro s hs;let#[p,z,rfl]:=QZ.mp hs;exact h.po p (Qc.mp z).1;intro e v;let#[n,y,rfl]:=QZ.mp v;have y:=(Qc.mp y).1;let#[a,t,x,b,j,k,q,e]:=hv.2 n y;have:=h.ev a;rw[e]at this ⊢;exact#[h.nm this.1,h.nm this.2.1]
theorem Ry(E:Ψ.sp "seers_of"=ZQ)(C:Ψ.sp "edges_of"=DQ)(p:Ψ.sp "holders_in"=EL)(b:WOk w)(hv:mY w u)(hk:eO w f)(B:f.9<=20000)(hl:g.9<1000)(hm:m∉g.map λx=>x.1)(q:∀h v,eO w h->h.9<=f.9+1->(∀y,y∈v↔JV w l u m y)->Z.nx (t4 w l u h (g++[(m,v)]) (bD (.str m)) (jr (.bor (Ob w l u m))) o8 i)):pF Ψ UD Z (t4 w l u f g (bD (.str m)) o7 o8 i):=by
 have J:=b.pl;have I:=Ej w (HB w.es l) m;have G:=An w.es u m;have F:=hv.1;delta t4;delta UD;simp![↓MS,↓jA (md:=[.fro,.bor]) E rfl rfl,↓jA (md:=[]) C rfl rfl,↓jA (md:=[]) p rfl rfl,↓pC,↓Ef,↓Uv];refine#[_,_,_,rfl,(),?_];simp![↓kA];refine#[_,_,_,rfl,hv.1,hv.2,?_];simp![↓Lf];refine#[(),?_];cases e:cA (R3 f) (YE (cI w.es u m) (SH w (HB w.es l) m)) with
 |some k=>let#[v,s,r]:=lh e;refine AC (λz=>by cases z) ?_;exact oh () hm e r (q f v hk () (hk _ s))|none =>
  refine uM rfl ?_;simp![↓jA (md:=[]) p rfl rfl];refine#[_,_,_,rfl,#[(),(),Bj b hv m,(),b.pn],λv j A=>?_];simp![↓kA];refine jn () e ?_;have K:cA (R3 (f++[((cI w.es u m,SH w (HB w.es l) m),v)])) (YE (cI w.es u m) (SH w (HB w.es l) m))≠none:=λz=>zB.mp z (QZ.mpr #[_,QY _ (QJ.mpr rfl),rfl]);have o:eO w (f++[((cI w.es u m,SH w (HB w.es l) m),v)]):=λx a=>by rcases Qh.mp a with a|a;exact hk x a;rw[QJ.mp a];exact j
  cases n:cA (R3 (f++[((cI w.es u m,SH w (HB w.es l) m),v)])) (YE (cI w.es u m) (SH w (HB w.es l) m)) with|none=>exact i2 n K|some k=>let#[X,W,Y]:=lh n;exact oh () hm n Y (q _ X o (by rw[QI];exact QT _) (o _ W))
theorem N4{b:PT}{p:PSp}{N x:LS}{ds:LT}{Q:T->LT->Prop}(ρ:xA)(h:pF Ψ b (jAU Q) ρ)(hl:ds.9=x.length:=by rfl)(hc:XB 0 p.md x.9=[3]:=by rfl)(hs:lB N p.md ds=ρ:=by rfl):ds.9=x.9/\pF Ψ b (zD p x.9 Q) (lB N p.md ds):=by
 have e:zD p x.9 Q=jAU Q:=by unfold zD;rw[hc];rfl
 rw[e,hs];exact#[hl,h]
def ND:PSp where
 md:=[.fro,.shal,.fro,.chg]
 run:=λx Q _=>∃(w:Wd) (l u:LN) (f:Kn),x=[.d (wD w),.lst ((l.map nD).map T.d),.d (.list (u.map nD)),u5 f]/\(WOk w/\l.9<=100/\∀n∈l,n<w.es.9)/\mY w u/\(eO w f/\f.9<=10000)/\∀h,eO w h->h.9<=f.9+10->Q (.lst (((DN w l u).map pr).map T.d)) [u5 h]
theorem KZ(h:WOk w)(l u:LN)(x:Str):(ph w l u x).9<=10:=by unfold ph;rw[QD];exact QU (qG _ _) h.ml
theorem Py{h:List Pt}{o6:Option Sl}{p:Str×Int×Int×Int}(k:WOk w)(j:g.map (λx=>x.1)=w.ms)(b:∀x∈g,∀y,y∈x.2↔JV w l u x.1 y)(hl:h.9<=1000)(q:Z.nx (t4 w l u f g o6 o7 (oW (.lst (((h++ph w l u p.1).map pr).map T.d))) (bD (zJ p)))):pF Ψ VD Z (t4 w l u f g o6 o7 (oW (.lst ((h.map pr).map T.d))) (bD (zJ p))):=by
 have n:=k.ml;have a:=KZ k l u p.1;delta t4;delta VD;simp![↓Fb];rw[<- oA j0];refine nA (λm=>T.d (.str m)) (λm=>T.d (pr (p.1,m))) (Gp w l u p.1) w.ms [] _ (λm hm R z=>?_) (by show 0+w.ms.9<=_;omega) ?_;simp![↓Fz,↓B0,↓jBT];refine zu (j▸hm) λv hv=>?_;have e:decide (p.1∈v)=Gp w l u p.1 m:=by rw[Qz,o2];exact(b _ hv p.1).trans (Ie w l u p.1 m).symm
 simp![lM,sJ,rB,true_or,e];split at z;rename_i c;rw[i0 c];exact#[(),z];rename_i c;rw[ii c];exact z;rw[Qi,oA λm=>pr (p.1,m)];have e:((w.ms.filter (Gp w l u p.1)).map λm=>pr (p.1,m))=(ph w l u p.1).map pr:=by unfold ph;rw[Qb];rfl
 rw[e,<- QM,<- QM];exact#[by rw[QD,QD,QD,QD];omega,q]
theorem Td(h0:Ψ.sp "seen_among"=AL)(J:Ψ.sp "seers_of"=ZQ)(I:Ψ.sp "edges_of"=DQ)(G:Ψ.sp "holders_in"=EL):GD Ψ KF ND PJ ZH:=by
 rintro _ Q _ ⟨w,l,u,f,rfl,⟨n,hl,E⟩,hv,⟨hk,F⟩,q⟩;have P:=n.ml;have O:=n.pl;refine N4 [bD (wD w),jr (.bor (.lst ((l.map nD).map T.d))),bD (.list (u.map nD)),oW (u5 f),kv,kv,kv,kv,kv,kv] ?_;delta KF;simp![↓MS,↓Fb,↓jA (md:=[.fro,.shal]) h0 rfl rfl,↓pC,↓Ef];refine#[_,_,rfl,hl,E,?_];simp![↓Fb];rw[<- oA j0];refine BA (λm=>T.d (.str m)) (λr b=>∃h g a o7,g.map (λx=>x.1)++r=w.ms/\(eO w h/\h.9+r.9<=f.9+w.ms.9)/\(∀x∈g,∀y,y∈x.2↔JV w l u x.1 y)/\b=t4 w l u h g a o7 kv kv) ?_ ?_ w.ms _ #[f,[],kv,kv,rfl,#[hk,QT _],(λx j=>by cases j),rfl];rintro b ⟨h,g,a,o7,e,⟨Y,o⟩,K,rfl⟩;have e:g.map (λx=>x.1)=w.ms:=by rw[<- e,Qy]
 have o:h.9<=f.9+w.ms.length:=o;delta t4;simp![↓U0];rw[<- oA zJ];refine#[(),?_];refine BA (λp=>T.d (zJ p)) (λr b=>∃k a o7 i,k++r.flatMap (λp=>ph w l u p.1)=DN w l u/\k.9+10 * r.9<=200/\b=t4 w l u h g a o7 (oW (.lst ((k.map pr).map T.d))) i) ?_ ?_ w.ps _ #[[],_,_,kv,rfl,by show 0+10 * w.ps.9<=200;omega,rfl];rintro b ⟨k,a,o7,i,s,_,rfl⟩;have s:k=DN w l u:=by rw[<- s];exact(Qy k).symm
 subst s;delta t4;simp![↓kA];exact q h Y ();rintro p r b N W ⟨k,a,o7,i,s,A,rfl⟩;have A:k.9+10 * (r.9+1)<=200:=A;have B:=KZ n l u p.1;refine Py n e K () (W _ #[k++ph w l u p.1,a,o7,_,?_,by rw[QI];omega,rfl]);rw[Q1];exact s;rintro m r b N W ⟨h,g,a,o7,e,⟨Y,o⟩,K,rfl⟩;have o:h.9+(r.9+1)<=f.9+w.ms.length:=o;have C:g.9+(r.9+1)=w.ms.length:=by rw[<- e,QI,QD];rfl
 have nd:=n.mn;rw[<- e]at nd;refine Ry J I G n hv Y () () (λz=>(qy.mp nd).2.2 m z m QF rfl) λX v M R L=>W _ #[X,g++[(m,v)],_,_,?_,#[M,()],?_,rfl];rw[QM,Q1];exact e;intro x j;rcases Qh.mp j with j|j;exact K x j;rw[QJ.mp j];exact L
end
end L2.L3.K41
namespace L2.L3
open PySem PySem.Spec PyProof.Rows PySem.W PySem.SeqAt
noncomputable def G3(ks:List (Int×Int))(i j:Nat):Bool:=decide ((ks.getD i (0,0)).1<(ks.getD j (0,0)).1∨(ks.getD i (0,0)).1=(ks.getD j (0,0)).1/\(ks.getD i (0,0)).2<(ks.getD j (0,0)).2)
theorem Ce(ks:List (Int×Int)):Ord (G3 ks):=by refine#[λa b h=>?_,λa b c y x=>?_];unfold G3 at h ⊢;have:=ot h;exact dF ();unfold lJ G3 at *;have y:=oa y;have x:=oa x;exact dF ()
def DD(h:vu)(v:kn)(p:Int×Int):Prop:=∃a o n t u,v=.ref a/\h.get? a=jr o/\o.cls=.type "tuple"/\o.data=.seq (Q3 [Value.int p.1 t,Value.int p.2 u]) n
theorem DD.keep{h h':vu}{v:kn}{x:Int×Int}{c:k0}{u:Obj}(e:h.get? c=jr u)(hc:u.cls≠.type "tuple")(k:∀b o,b≠c->h.get? b=jr o->h'.get? b=jr o)(t:DD h v x):DD h' v x:=by let#[a,o,n,t,r,f,y,w,d]:=t;exact#[a,o,n,t,r,f,k _ _ (λz=>by rw[z,e]at y;cases y;exact hc w) y,w,d]
section
variable{prog:vx}{w:x0}{A:y1}{E:uC}{s:ku}
section
variable{vs:LW}{r f:k0}{a b c:Int}{t u v:Tok}{n:Nat}{kz:List (Int×Int)}
theorem Gm{v u:kn}{x y:Int×Int}{Q:Bool->ku->Prop}(hv:DD s.1 v x)(z:DD s.1 u y)(q:Q (decide (x.1<y.1∨x.1=y.1/\x.2<y.2)) s):ko (k4 prog w) A (keyLt' (ax kf) v u) Q E s:=by let#[a,o,n,t,r,rfl,g,_,j]:=hv;let#[b,p,X,l,m,rfl,k,_,i]:=z;refine kat_lt g j k i (kat_cons (QBA ?_));by_cases e:x.1=y.1;rw[e,beq_self_eq_true];refine kat_yes (kat_cons (QBA ?_));by_cases h:x.2=y.2;rw[h,beq_self_eq_true];refine kat_yes (kat_nil ?_);rw[show decide (x.1<y.1∨x.1=y.1/\x.2<y.2)=kb from dF ()]at q;exact q;rw[beq_false_of_ne h];refine kat_no (kat_one _ _ (QBt ?_));rw[show decide (x.1<y.1∨x.1=y.1/\x.2<y.2)=decide (x.2<y.2) from decide_eq_decide.mpr ()]at q;exact q;rw[beq_false_of_ne e];refine kat_no (oneLt_int ?_);rw[show decide (x.1<y.1∨x.1=y.1/\x.2<y.2)=decide (x.1<y.1) from decide_eq_decide.mpr ()]at q;exact q
theorem j9{ns:List (Int×Int)}{Q:th->ku->Prop}(l:xb (DD s.1) vs ns)(K:2<=vs.9)(q:Q (ax kf) s):ko (k4 prog w) A (Ar vs.toArray) Q E s:=by
 have key:∀{vs:LW}{ns:List (Int×Int)},xb (DD s.1) vs ns->∃fs,KatTups s.1 vs fs/\fs.9=vs.9/\∀f∈fs,∃x t,f=.int x t:=by
  intro vs ns h;induction h with
  |nil=>exact#[[],.nil,rfl,λ_ z=>(nomatch z)]
  |@cons v x Z Y h _ e=>let#[fs,j,i,g]:=e;let#[a,o,n,t,r,rfl,p,hc,X]:=h;refine#[.int x.1 t::fs,.cons (f:=.int x.1 t) p hc X (by simp) j,by rw[QO,QO,i],λf m=>?_];rcases QL.mp m with rfl|z;exact#[_,_,rfl];exact g f z
 let#[fs,k,W,y]:=key l;exact kat_kind (T:=.type "int") k () (λv hv=>by let#[x,t,rfl]:=y v hv;exact .of_pure rfl) (by decide) q
theorem jI{α x:Type}{R:α->x->Prop}{d:α}{e:x}:∀{l:List α}{m:List x},xb R l m->∀i,i<l.9->R (l.getD i d) (m.getD i e)
 |_,_,.nil,i,h=>i2 h (QCp _)|_,_,.cons r _,0,_=>r|_,_,.cons _ t,i+1,h=>jI t i (wQ h)
theorem lL{α x:Type}{R:α->x->Prop}:∀{l z:List α}{m y:List x},xb R l m->xb R z y->xb R (l++z) (m++y)
 |_,_,_,_,.nil,h=>h|_,_,_,_,.cons r t,h=>.cons r (lL t h)
theorem NO{Q:LW->ku->Prop}(Y:A.handled=kv)(q:rk s.1 r a b c t u v)(x:QBv a b c=kf)
  (X:WU a b c=n) (z:n<=2 ^ 24)
  (h:∀h' g y,(∀b o,s.1.get? b=jr o->h'.get? b=jr o)->s.1.1.size<h'.1.size->ItemsOf (λi v=>∃t,v=.int (a+i * c) t) y n->Q y.toList { s with heap:=h',toks:=g }) :
  ko (k4 prog w) A (collect (.ref r)) Q E s:=by
 unfold collect;refine QC (wpAny_runValue (QAE F.entry_proto_collect ?_));rw[WE F.plain_proto_collect _];show ko _ A.in1 (newList [] >>= λl=>again (.builtin "list.__iadd__" #[[l,.ref r],[]])) _ _ s;refine QC (Q2 ?_);refine QK #[QA2 QCS _,QAE F.entry_list_iadd ?_];rw[WE QCS _];have Z:(s.1.push { cls:=.type "list",data:=.seq ([]:LW).toArray }).get? s.1.1.size=jr { cls:=.type "list",data:=.seq #[] }:=QR _ rfl;show ko _ A.in1 (WA (.ref s.1.1.size) (.ref r) (.ref s.1.1.size)) _ _ _;refine wpAny_extend_range (R:=λr j=>match r with | .ok (.ret v)=>ko (k4 prog w) A (match v with | .ref a=>(do let o <- load a;match o.data with | .seq m _=>sn m.toList|_=>unsupported "internal:collect")|_=>unsupported "internal:collect") Q E j | .ok _=>False | .error e=>E e j) (s:={ s with heap:=s.1.push { cls:=.type "list",data:=.seq ([]:LW).toArray } }) Y (QH _ q) x X z _ _ _ Z λh' g y W p k it=>?_;show ko _ A (load s.1.1.size >>= _) _ _ _;refine QC (wpAny_load k ?_);exact QK (h h' g y (λb o e=>p b o (Qo (QW e)) (QH _ e)) (QW k) it)
theorem Hm{a:k0}{P:PySem.Fin->ku->Prop}(ho:s.1.get? a=jr (tj "list" vs.toArray n))(h64:vs.9<64)(hl:kz.9=vs.9)
  (hf:∀(h:vu) (g:Nat),(∀b o,b≠a->s.1.get? b=jr o->h.get? b=jr o)->∀(i:Nat) (x:kn) (p:Int×Int),vs[i]?=jr x->kz[i]?=jr p->∀C:kn->ku->Prop,
   (∀W m k,(∀b o,h.get? b=jr o->W.get? b=jr o)->DD W k p->C k { s with heap:=W,toks:=m })->ko (k4 prog w) A (d3 (.ref f) [x]) C (λ_ _=>False) { s with heap:=h,toks:=g })
  (k:∀(p:Array Nat) (h':vu) (g c:Nat),Pm vs.9 p->Up (G3 kz) p vs.9->(∀b o,b≠a->s.1.get? b=jr o->h'.get? b=jr o)->h'.get? a=jr (tj "list" (p.toList.map λi=>vs.getD i j2).toArray c)->P (.done (.ret .none)) { s with heap:=h',toks:=g }) :
  ko (k4 prog w) A (ksk_tree a (.ref f) kb) P E s:=by
 have ha:a<s.1.1.size:=QW ho;have s1:=qD s.1 a (Q8 λ_=>(#[]:Array kn));obtain⟨G,ho1⟩:∃G,(s.1.update a (Q8 λ_=>(#[]:Array kn))).get? a=jr (tj "list" #[] G):=#[_,QAG ho λ_=>#[]]
 generalize hH:((s.1.update a (Q8 λ_=>(#[]:Array kn))).push (tj "tuple" vs.toArray 0))=hT;have S:hT.1.size=s.1.1.size+1:=by rw[<- hH,size_push',QCf]
 have kS0:(hT.push (tj "list" #[] 0)).get? hT.1.size=jr (tj "list" #[] 0):=QR _ rfl;have a0:(hT.push (tj "list" #[] 0)).get? a=jr (tj "list" #[] G):=QH _ (by rw[<- hH];exact QH _ ho1);have kp0:∀b o,b≠a->s.1.get? b=jr o->(hT.push (tj "list" #[] 0)).get? b=jr o:=λb o hb e=>QH _ (by rw[<- hH];exact QH _ ((s1.2 b hb).trans e));have naK:a≠hT.1.size:=by rw[S];exact Qo (Wi ha)
 unfold ksk_tree;refine QC (QCX ho rfl (QC (WY ho rfl ?_ (by rw[QN];omega) (Qt _))));refine QC (QBs ho1 rfl (QC (QBm ?_ (by show vs.9<=_;omega))));refine QC (QA3 (qh ?_) (Qt _));rw[hH];generalize hK:hT.1.size=kS at *;have fin:∀(y:LW) (e:Nat) (h:vu) (g:Nat) (st:SortSt) (p:Array Nat),y.9=vs.9->h.get? kS=jr (tj "list" (Q3 y) e)->h.get? a=jr (tj "list" #[] G)->(∀b o,b≠a->s.1.get? b=jr o->h.get? b=jr o)->Pm vs.9 p->Up (G3 kz) p vs.9 ->
   (arrOf st).map (·.2)=Q3 (p.toList.map λi=>vs.getD i j2)->ir st=kv->ko (k4 prog w) A (ksk_tail a kb G (.ref kS) st) P E { s with heap:=h,toks:=g }:=by
  intro y e h g st p Z hk l I pm H hout N;have t1:=qD h kS (Q8 λ_=>(#[]:Array kn));have R:=(t1.2 a naK).trans l;have t2:=qD (h.update kS (Q8 λ_=>(#[]:Array kn))) a (Q8 λ_=>Q3 (p.toList.map λi=>vs.getD i j2));have hps:(p.toList.map λi=>vs.getD i j2).9=vs.length:=by rw[QD,(Q4.mp pm).length_eq];simp
  unfold ksk_tail;dsimp only;rw[hout];refine QC (WY hk rfl ?_ (by rw[QN,qB];omega) (Qt _));refine QC (QCm (QC (QBs R rfl (QC (WY R rfl ?_ (Qt _) (by simp only[Qv,if_false];rw[QN,qB];omega))))));rw[N];simp only[bne_self_eq_false,Qv,if_false];refine QK (k p _ g _ pm H (λb o hb e=>?_) (QAG R λ_=>Q3 (p.toList.map λi=>vs.getD i j2)));have O:b≠kS:=λz=>by have:=QW e;rw[z,S]at this;exact i2 this (Nat.not_lt.mpr (qd _))
  exact(t2.2 b hb).trans ((t1.2 b O).trans (I b o hb e))
 have L:∀(y:LW) (e:Nat) (h:vu) (g:Nat),xb (DD h) y kz->h.get? kS=jr (tj "list" (Q3 y) e)->h.get? a=jr (tj "list" #[] G)->(∀b o,b≠a->s.1.get? b=jr o->h.get? b=jr o) ->
   ko (k4 prog w) A (ksk_end a kb vs.toArray G (.ref kS) (Q3 y)) P E { s with heap:=h,toks:=g }:=by
  intro y e h g Y hk l I;have Z:y.9=vs.length:=(Q6 Y).trans hl;unfold ksk_end;dsimp only;simp only[Qv,if_false];by_cases h2:vs.9<2;have F:vs.toArray.size<2:=by rw[QN];exact h2
  rw[i0 F,i0 F];refine QC (QK ?_);rw[QCo];refine QC (QK ?_);refine fin y e h g _ (Q3 (Qj vs.9)) Z hk l I (QAF _) (λi j hi hj=>?_) ?_ rfl;have e:i=j:=()
  subst e;unfold lJ G3;exact dF ();show((Q3 y).zip vs.toArray).map (·.2)=_;rw[RG];apply WJ.mp;simp[WK,Z];have F:¬ vs.toArray.size<2:=by rw[QN];exact h2
  rw[ii F,ii F];refine QC (j9 (s:={ s with heap:=h,toks:=g }) Y () ?_);have tree:(kas_sort vs.9).kasWp (kas_ask prog w A (ax kf) y) (λp K=>K={ s with heap:=h,toks:=g }/\Pm vs.9 p/\Up (G3 kz) p vs.9) { s with heap:=h,toks:=g } :=
   MH.wp (lt:=G3 kz) (λi j hi hj _ C hC=>Gm (s:={ s with heap:=h,toks:=g }) (jI Y i ()) (jI Y j ()) hC) (λp Y=>#[rfl,Y]) (bZ (Ce kz) ())
  refine QC (wC (kat_run (Q:=λB K=>∃p:Array Nat,arrOf B=p.map (kas_item ((Q3 y).zip vs.toArray))/\ir B=kv/\K={ s with heap:=h,toks:=g }/\Pm vs.9 p/\Up (G3 kz) p vs.9) Z () h64 (λp B K _ a2 a3 a4=>#[p,a2,a3,a4]) tree) ?_ λ_ _ x=>x);rintro⟨⟨⟩,B⟩ K ⟨p,har,N,rfl,pm,H⟩;exact fin y e h g B p Z hk l I pm H (kat_snds Z har) N
 unfold ksk_rest;refine QC (QCM ?_);rw[List.forIn_toArray];refine QC (ksk_fold (λj K=>∃(y:LW) (e:Nat) (h:vu) (g:Nat),K={ s with heap:=h,toks:=g }/\xb (DD h) y (kz.take j)/\h.get? kS=jr (tj "list" (Q3 y) e)/\h.get? a=jr (tj "list" #[] G)/\(∀b o,b≠a->s.1.get? b=jr o->h.get? b=jr o)/\j<=vs.9) vs 0 _ #[[],0,_,s.toks,rfl,.nil,kS0,a0,kp0,Qt _] (λj x K hx hI=>?_) λK hI=>?_);let#[y,e,h,g,rfl,Y,hk,l,I,jl]:=hI;rw[WP]at Y jl ⊢;have jv:j<vs.length:=(Qg.mp hx).1;have hkl:y.9=j:=by rw[Q6 Y,qI];omega
 have hzj:kz[j]?=jr (kz[j]'()):=Qf _;refine QC (W9 (wC (hf h g I j x _ hx hzj (λJ K=>∃W m,K={ s with heap:=W,toks:=m }/\(∀b o,h.get? b=jr o->W.get? b=jr o)/\DD W J (kz[j]'())) λW m J X ka=>#[W,m,rfl,X,ka]) (λJ K hc=>?_) λ_ _ z=>z.elim));let#[W,m,rfl,X,ka]:=hc;have ea:(Q3 y).push J=Q3 (y++[J]):=by simp
 have s5:=qD W kS (Q8 (·.push J));have M:=X _ _ hk;dsimp only;refine QC (WY M rfl ?_ (by rw[QN,qB];omega) (QU (w4 (Array.size_push ..)) (by rw[QN,qB];omega)));refine QK #[rfl,y++[J],_,_,m,rfl,?_,by rw[<- ea];exact QAG M (·.push J),(s5.2 a naK).trans (X _ _ l),λb o hb q=>?_,jv];have H:∀{v:kn}{x:Int×Int},DD W v x->DD (W.update kS (Q8 (·.push J))) v x:=λt=>t.keep M (by show Value.type "list"≠Value.type "tuple";decide) λb o hb q=>(s5.2 b hb).trans q;rw[List.take_succ,hzj];exact lL (L2.Paired.mapP Y λ_ _ #[a1,o1,n1,t1,r1,G,g1,c1,d1]=>H #[a1,o1,n1,t1,r1,G,X _ _ g1,c1,d1]) (.cons (H ka) .nil);have O:b≠kS:=λz=>by have:=QW q;rw[z,S]at this;exact i2 this (Nat.not_lt.mpr (qd _))
 exact(s5.2 b O).trans (X _ _ (I b o hb q));let#[y,e,h,g,rfl,Y,hk,l,I,_]:=hI;rw[WP,<- hl,List.take_length]at Y;exact QC (QCX hk rfl (L y e h g Y hk l I))
theorem cc{Q:uC}(S:A.handled=kv)(N:rk s.1 r a b c t u v)(y:QBv a b c=kf)
  (R:WU a b c=n) (h64:n<64) (hl:kz.9=n)
  (H:∀(Y:vu) (z:Nat),(∀b o,s.1.get? b=jr o->Y.get? b=jr o)->∀(i:Nat) (Z:Tok) (p:Int×Int),kz[i]?=jr p->∀C:kn->ku->Prop,
   (∀I W k,(∀b o,Y.get? b=jr o->I.get? b=jr o)->DD I k p->C k { s with heap:=I,toks:=W })->ko (k4 prog w) A.in1.in1 (d3 (.ref f) [Value.int (a+i * c) Z]) C (λ_ _=>False) { s with heap:=Y,toks:=z })
  (k:∀(p:Array Nat) (vs:LW) (D:k0) (h':vu) (z e:Nat),Pm n p->Up (G3 kz) p n->(∀b o,s.1.get? b=jr o->h'.get? b=jr o)->s.1.1.size<=D->vs.9=n->(∀(i:Nat) x,vs[i]?=jr x->∃t,x=Value.int (a+i * c) t) ->
   h'.get? D=jr (tj "list" (p.toList.map λi=>vs.getD i j2).toArray e)->Q (.ref D) { s with heap:=h',toks:=z }) :
  ko (k4 prog w) A (d3 (.builtin "sorted") [.ref r] [(QV "key",.ref f)]) Q E s:=by
 refine call_function_entry_kw kind_sorted plain_sorted entry_sorted (ksk_s1 _ _) ?_;unfold Builtin.«sorted»;refine QC (m:=checkCount "sorted" 1 1 _) (QK ?_);refine QC (NO S N y R () λg K h l G it=>?_);have M:h.toList.9=n:=by rw[Qp];exact it.1
 refine QC (QA3 ?_ (by rw[qB];omega));have X:(g.push (tj "list" h.toList.toArray 0)).get? g.1.size=jr (tj "list" h.toList.toArray 0):=QR _ rfl;have j:∀b o,s.1.get? b=jr o->(g.push (tj "list" h.toList.toArray 0)).get? b=jr o:=λb o q=>QH _ (l b o q);refine QC (qh (wpAny_call_entry_kw ai #[_,X,rfl] ah ?body (ksk_l1 _ _)))
 case body =>
  show ko (k4 prog w) A.in1.in1 (Builtin.«list.sort» #[[.ref g.1.size],[(QV "key",.ref f)]]) _ _ _;rw[ksk_t1];have nD:∀b o,s.1.get? b=jr o->b≠g.1.size:=λb o q=>Qo (QW (l b o q));refine Hm (s:={ s with heap:=g.push (tj "list" h.toList.toArray 0),toks:=K }) (kz:=kz) X () () (λY z B i x p F O C hC=>?_) λp h' z c L J B P=>#[_,rfl,QK #[_,rfl,?_]]
  let#[Z,rfl]:=it.2 i x (by rw[<- F,wz]);exact H Y z (λb o q=>B b o (nD b o q) (j b o q)) i Z p O C hC;rw[M]at L J;exact k p h.toList _ h' z c L J (λb o q=>B b o (nD b o q) (j b o q)) (QAT G) M (λi x F=>it.2 i x (by rw[<- F,wz])) P
end
end
section
variable{U Z p2 W V Y X K:Pos}
noncomputable abbrev T8(U Z p2 W V Y X:Pos):Expr:=.Tuple [.Subscript (.Subscript (.Name "events" U) (.Name "number" Z) p2) (.Constant (.int 1) 0 W) V,.Name "number" Y] 0 X
noncomputable abbrev Le(K:Pos):Arguments:={ posonlyargs:=[],args:=[{ arg:="number",annotation:=kv,pos:=K }],vararg:=kv,kwonlyargs:=[],kw_defaults:=[],kwarg:=kv,defaults:=[] }
noncomputable abbrev uX:Scope:={ kind:=.function,names:=[(QV "number",.local),(QV "events",.free)],isGenerator:=kb,isCoroutine:=kb,more:=[] }
variable{prog:vx}{w:x0}{A:y1}{E:uC}{s:ku}
section
variable{h h':vu}{y n:k0}{i:Nat}{g:Int}{l:Tok}
def uP(h:vu)(y:k0)(i:Nat)(g:Int):Prop:=∃(x z:Array kn) (t:k0) (u:Tok),(h.IsList y x∨a8 h y x)/\x[i]?=jr (.ref t)/\i<2 ^ 62/\x.size<2 ^ 62/\a8 h t z/\z[1]?=jr (.int g u)/\z.size<2 ^ 62
theorem uP.keepB{P:k0}{m:Array kn}(p:h.get? P=jr (tabObj m))(k:∀b o,b≠P->h.get? b=jr o->h'.get? b=jr o)(x:uP h y i g):uP h' y i g:=by
 let#[f,j,t,u,a,b,c,q,#[o,d],e]:=x;have v:∀{b:k0}{o:Obj}{T:String},h.get? b=jr o->o.cls=.type T->b≠P:=λe c z=>by rw[z,p]at e;cases e;cases c
 refine#[f,j,t,u,?_,b,c,q,#[o,k _ _ (v d.1 d.2.1) d.1,d.2],e];rcases a with⟨o,a⟩| ⟨o,a⟩
 exact .inl #[o,k _ _ (v a.1 a.2.1) a.1,a.2];exact .inr #[o,k _ _ (v a.1 a.2.1) a.1,a.2]
theorem uP.keep(z:∀b o,h.get? b=jr o->h'.get? b=jr o)(x:uP h y i g):uP h' y i g:=by
 let#[v,k,t,u,a,b,c,f,#[o,d],e]:=x;refine#[v,k,t,u,?_,b,c,f,#[o,z _ _ d.1,d.2],e];rcases a with⟨o,a⟩| ⟨o,a⟩
 exact .inl #[o,z _ _ a.1,a.2];exact .inr #[o,z _ _ a.1,a.2]
theorem R8{env:Env}{L:k0}{m:Str->Option kn}{Q:uC}(hk:env.scope=uX)(G:env.cells.lookup (QV "events")=jr n)(hc:s.1.IsCell n (jr (.ref y)))
  (P:env.locals=L) (O:s.1.Ns L m) (hm:m "number"=jr (.int i l)) (F:uP s.1 y i g)
  (q:∀I u,Q (.ref s.1.1.size) { s with heap:=s.1.push { cls:=.type "tuple",data:=.seq (Q3 [Value.int g u,Value.int i l]) },toks:=I }) :
  ko (k4 prog w) A (g6 (T8 U Z p2 W V Y X) env) Q E s:=by
 have M:env.kindOf "number"=jr .local:=by show env.scope.names.lookup _=_;rw[hk];rfl
 have N:env.kindOf "events"=jr .free:=by show env.scope.names.lookup _=_;rw[hk];rfl
 have k:env.scope.kind=.function:=by rw[hk]
 let#[C,B,t,u,a,b,c,H,d,e,S]:=F;subst P;have v:∀{p:Pos}{Q:uC}(z:ku),z.1=s.1->Q (.int i l) z->ko (k4 prog w) A (g6 (.Name "number" p) env) Q E z:=λz hs q=>QBX (QBb k M (by rw[hs];exact O) hm q) (by decide);refine QBp ?_;show ko _ _ (lv ((kb,g6 (.Subscript (.Subscript (.Name "events" U) (.Name "number" Z) p2) (.Constant (.int 1) 0 W) V) env)::fv X (x2 [.Name "number" Y] env))) _ _ s;refine wR (QCJ (QCJ (QBX (QBo k N G hc (v _ rfl ?_) (by decide)) (by decide))));have o:(0:Int)<=(i:Int):=QCD i;have f:(i:Int)<2 ^ 63:=by omega (config:={})
 have J:∀{Q:uC},Q (.ref t) s->ko (k4 prog w) A (t3 (.Name "events" U) (.Name "number" Z) (.ref y) (.int i l)) Q E s:=λ{Q} q=>by rcases a with a|a;exact item_listR a o f (by simpa using b) q;have hs:i<C.size:=(QAS.mp b).1;exact qr (x:=.ref t) a.typeIs QAU.lookup (QB7 (j:=i) (Q:=λr z=>r=.ref t/\Q r z) a (by omega (config:={})) f (by rw[QA0 o (by omega (config:={}))];simp) b #[rfl,q])
 refine J (QB4 ?_);have R:1<B.size:=(QAS.mp e).1;refine qr (x:=.int g u) (s:={ s with toks:=s.toks+1 }) (show a8 s.1 t B from d).typeIs QAU.lookup (QB7 (j:=1) (show a8 s.1 t B from d) (by decide) (by decide) (by rw[QA0 (by decide) (by omega (config:={}))];rfl) e #[rfl,?_]);show ko _ _ (lv ((kb,g6 (.Name "number" Y) env)::fv X (x2 [] env))) _ _ _;exact wR (v _ rfl (WB #[by rw[qB];show 2<=_;decide,q _ _]))
theorem S8{f L:k0}{z:Str}{N I:kn}{C:uC}(j:A.depth<dt)(P:s.1.get? f=jr (kla_obj "<lambda>" z (Le K) (T8 U Z p2 W V Y X) uX [(QV "events",n)] N L I))
  (F:s.1.CodeRec (.ref L) z) (r:s.1.NoLimit) (hc:s.1.IsCell n (jr (.ref y))) (B:uP s.1 y i g)
  (k:∀G p v,(∀b o,s.1.get? b=jr o->G.get? b=jr o)->DD G v (g,(i:Int))->C v { s with heap:=G,toks:=p }) :
  ko (k4 prog w) A (d3 (.ref f) [.int i l]) C E s:=by
 refine wpAny_call (kla_callFunE j P rfl rfl rfl rfl F ?_);show ko _ _ (sn [(QV "number",Value.int i l)]) _ _ _;refine QK (QBc (show ∀x∈uX.names,x.2≠NameKind.cell by decide) (by intro x O;rcases QJ.mp O with rfl;rfl) (λJ q m=>#[r.fresh _ m,kla_codeExpr ?_]) rfl);have a:∀b o,s.1.get? b=jr o->J.get? b=jr o:=λb o e=>m.extBut b o (Qo (QW e)) (QH _ e);refine R8 (s:={ s with heap:=J,toks:=s.toks+1 }) rfl rfl (hc.keeps a) rfl q rfl (B.keep a) λM u=>?_;exact k _ M _ (λb o e=>QH _ (a b o e)) #[_,_,_,_,_,rfl,QR _ rfl,rfl,rfl]
end
end
theorem cY{pos:Pos}{a b:Int}{c y:kn}(l:LW)(h:me l)(g:f5 pos (l++[hQ a,hQ b,c])=jr y):f5 pos l=jr y∨y=c:=by
 fun_induction me l with
 |case1=>right;have g:f5 pos [hQ a,hQ b,c]=jr y:=g;unfold hQ f5 at g;split at g;exact(Qn g).symm;cases g|case2 i t f u x v w=>simp only[QA7,f5]at g ⊢;split at g;rename_i z;rw[i0 z];exact .inl g;rename_i z;rw[ii z];exact w h g|case3 l e k=>exact h.elim
section
variable{X:Cx}{h:TB}{σ:St}{H:Hp}{s:ku}
theorem _root_.L2.Inv.tabbed{P x:k0}{q:Str}{y:Array kn}{K W:Int}{h':vu}{t':Nat}(I:Inv X h σ H s)(m:H P=jr (.tbl q))(N:s.1.get? P=jr (tabObj y))(A:me y.toList)(p:∀pos l,f5 pos y.toList=jr l->∃c,l=.ref c/\H c=jr (.own P)/\s.1.CodeRec l q)
  (a:QAD P s.1 h') (i:s.1.1.size<=x) (B:h'.CodeRec (.ref x) q) (f:h'.get? P=jr (tabObj (y++(Q3 [hQ K,hQ W,.ref x])))):H x=kv/\Inv X h σ (FA H x (.own P)) { s with heap:=h',toks:=t' }:=by
 have C:H x=none:=I.hok.fresh i;have w:∀b o,H b=jr o->b≠x:=λb o e z=>by rw[z,C]at e;cases e
 have Z:∀b,H b=kv->b≠P:=λb e z=>by rw[z,m]at e;cases e
 refine#[C,I.un #[λb o e n _ _=>a b o (Z b n) e,λb o e n _ _=>#[o.slots,a b o (Z b n) e],λb o e n _=>?_,λb o e _=>?_,λb F e=>?_,λb o u e=>?_,λb q e=>?_] λb u e=>?_];rw[uA (Qo (Qs (QW e) i))];exact n;by_cases hb:b=P
 ·exact#[_,hb▸f]
 exact#[o,a b o hb e];rw[uA (w b _ e)];exact e;rw[uA (w b _ e)];exact e;rw[uA (w b _ e)];exact e;by_cases hb:b=x
 ·subst hb
  rw[YA]at e;cases e;let#[c,o,Y,t,M,L,_]:=B;cases M;exact#[o,L]
 rw[uA hb]at e;by_cases j:b=P;subst j;rw[m]at e;cases e;refine#[_,f,?_,λpos l g=>?_];simpa using TriplesOk_snoc K W _ y.toList A;rcases cY y.toList A (by simpa using g) with g|rfl
 ·let#[c,rfl,o,O,ob,Y,G,E,J,r]:=p pos l g
  cases E;refine#[c,rfl,by rw[uA (w c _ o)];exact o,c,ob,Y,G,rfl,a _ _ (λz=>?_) J,r];rw[z,m]at o;cases o
 exact#[x,rfl,YA,B];refine(I.hok b u e).stay (λd v k g=>a d v (λz=>?_) g) (λd g=>by rw[uA (w d _ g)];exact g) λd F g=>by rw[uA (w d _ g)];exact g
 rcases k with k|k;exact j (k.symm.trans z);rw[z,m]at k;cases k
end
def jAO(K:QA)(H:Hp)(xs:LV)(kz:List (Int×Int)):Prop:=kz.9=xs.9/\∀(j:Nat) p,kz[j]?=jr p->p.2=j/\∃t h,xs[j]?=jr (.ref t)/\CD K H t h/\h[1]?=jr (.int p.1)
def jAK(K:QA)(P:k0)(i:Nat):TE:=λz H Q=>∃ev h y,z[i]?=jr (jr (.ref ev))/\(rC K H ev h∨CD K H ev h)/\jAO K H h y/\h.9<64 /\
 ∀(p:Array Nat) x l,Pm h.9 p->Up (G3 y) p h.9->(x=H∨∃c,H c=kv/\x=FA H c (.own P))->x l=kv->Q (.ref l) (FA x l (.lst (p.toList.map λ(i:Nat)=>V.int i)))
section
variable{X:Cx}{J G p2 F E B W U Z S M Y g d a O L:Pos}
section
variable{x:TB}{σ:St}{H:Hp}{s:ku}{y:k0}{kz:List (Int×Int)}{i:Nat}{q:Str}
theorem tu{xs:LV}(I:Inv X x σ H s)(k:rC X.K H y xs∨CD X.K H y xs)(C:jAO X.K H xs kz):∀(j:Nat) p,kz[j]?=jr p->uP s.1 y j p.1:=λj p N=>by let#[_,t,ys,f,Q,P]:=C.2 j p N;have hz:=qB;let#[h,n,w,R]:=I.tuple Q;let#[u2,o,A]:=n.get P;let#[m,rfl]:=A;have l2:=n.9;have jl:j<xs.length:=(Qg.mp f).1;rcases k with k|k;let#[v,r,b,z]:=I.list k;let#[u,e,q]:=r.get f;cases q;have l:=r.9;exact#[v.toArray,h.toArray,t,m,.inl b.isList,by simpa using e,(),by rw[QN];omega,w,by simpa using o,by rw[QN];omega];let#[v,r,b,z]:=I.tuple k;let#[u,e,q]:=r.get f;cases q;have l:=r.9;exact#[v.toArray,h.toArray,t,m,.inr b,by simpa using e,(),by rw[QN];omega,w,by simpa using o,by rw[QN];omega]
theorem Cf(I:Inv X x σ H s)(v:X.N[i]?=jr (QV "events"))(hs:X.env.scope.names.lookup (QV "events")=jr .cell)(hv:σ[i]?=jr (jr (.ref y))):∃h,X.env.cells.lookup (QV "events")=jr h/\s.1.IsCell h (jr (.ref y)):=by
 let#[m,_,hl]:=I.loc;let#[u,r,l]:=hl i "events" _ v hv (.inr (.inl hs));cases r;rcases l with⟨k,_⟩| ⟨_,c,e,z⟩
 have k:X.env.scope.names.lookup (QV "events")=jr .local:=k;rw[hs]at k;cases k;exact#[c,e,z]
theorem yL{n:Nat}{vs:LW}(hv:∀i,i<n->∃t,vs.getD i j2=.int (i:Int) t):∀l:LN,(∀i∈l,i<n)->lA (l.map λ(i:Nat)=>V.int i) (l.map λi=>vs.getD i j2)
 |[],_=>.nil|i::l,h=>.cons (hv i (h i QF)) (yL hv l λj z=>h j (QE _ z))
theorem VU{R f ce c':k0}{b ctv:kn}{t u v:Tok}{Q:VK}{n:Nat}(I:Inv X x σ H s)(hh:X.A.handled=kv)(z:X.A.in1.in1.depth<dt)
  (ho:s.1.get? f=jr (kla_obj "<lambda>" q (Le U) (T8 J G p2 F E B W) uX [(QV "events",ce)] b c' ctv)) (m:s.1.CodeRec (.ref c') q) (hc:s.1.IsCell ce (jr (.ref y))) (hev:∀(j:Nat) p,kz[j]?=jr p->p.2=j/\uP s.1 y j p.1)
  (hl:kz.9=n) (h64:n<64) (hr:rk s.1 R 0 n 1 t u v) (k:∀(p:Array Nat) l,Pm n p->Up (G3 kz) p n->H l=kv->Q (.ref l) (FA H l (.lst (p.toList.map λ(i:Nat)=>V.int i)))) :
  ko (k4 X.prog X.w) X.A (d3 (.builtin "sorted") [.ref R] [(QV "key",.ref f)]) (EP X x σ Q) X.xe s:=by
 refine cc (n:=n) hh hr (small_one (by decide) (by decide) () ()) (by rw[pd];split<;>omega) h64 hl (λh3 P h j tx p hj C hC=>?_) λp K D h' P e b up h r vl hvs ho'=>?_;let#[e2,ev']:=hev j p hj;have e3:(0:Int)+(j:Int) * 1=(j:Int):=()
 rw[e3];refine S8 (s:={ s with heap:=h3,toks:=P }) z (h _ _ ho) (m.keeps h) (I.nolimit.keeps h) (hc.keeps h) (ev'.keep h) λh4 N v kp4 ka=>hC h4 N v kp4 ?_;rw[<- e2]at ka;exact ka;have pl:∀i∈p.toList,i<n:=λi hi=>by simpa using(Q4.mp b).mem_iff.mp hi
 have ps:p.toList.9=n:=by rw[(Q4.mp b).length_eq];simp
 refine#[.ref D,FA H D (.lst (p.toList.map λ(i:Nat)=>V.int i)),I.laid (t':=P) h r #[by rw[QD,ps,qB];omega,_,e,yL (λi hi=>?_) p.toList pl,ho'],rfl,k p D b up (I.hok.fresh r)];have o:i<K.length:=()
 let#[t,e]:=hvs i (K[i]) (Qf o);refine#[t,?_];have:K.getD i j2=K[i]:=by simp[o]
 rw[this,e,show(0:Int)+(i:Int) * 1=(i:Int) by omega]
theorem Tc{c P:k0}(hN:X.N[i]?=jr (QV "events"))(hs:X.env.scope.names.lookup (QV "events")=jr .cell)(n:X.env.code=.ref c)(hC:CodeHd X.base c P)(hT:uQ X.mg X.base P q)(hq:q=X.env.qual++"<lambda>")(hb:X.base.BuiltinsAt X.mg P)(hgP:k5≠P)
  (g1:Gl X "sorted") (m1:X.mg "sorted"=kv) (g2:Gl X "range") (m2:X.mg "range"=kv) (g3:Gl X "len") (m3:X.mg "len"=kv) (hh:X.A.handled=kv) (f:X.A.in1.in1.depth<dt) :
  PE X (.Call (.Name "sorted" S) [.Call (.Name "range" M) [.Call (.Name "len" Y) [.Name "events" g] [] d] [] a] [#[jr "key",.Lambda (Le U) (T8 J G p2 F E B W) uX Z,O]] L) (jAK X.K P i):=by
 rintro x s σ H Q I ⟨y,xs,kz,hv,hsq,m,h64,k⟩;refine wE (gE I g1 m1 boot_sorted ?_);refine callWith_kw ?_;show ko _ _ (lv ((kb,g6 (.Call (.Name "range" M) [.Call (.Name "len" Y) [.Name "events" g] [] d] [] a) X.env)::fv L (x2 [] X.env))) _ _ s;have paL:PA X [.Call (.Name "len" Y) [.Name "events" g] [] d] _:=vJ (bN VJ g3 m3 boot_len (vJ (d7 hN (.inr (.inl hs))) uR)) uR;refine wR (Call_ (gE I g2 m2 boot_range (callWith_type1 (GB (paL a x s σ H (λvs H1=>vs=[.int xs.9]/\H1=H) I ?_) λus h #[vs,H1,I1,r1,q1]=>?_) rfl rfl)));exact#[_,hv,y,xs,rfl,hsq,rfl,rfl];let#[rfl,rfl]:=q1;cases r1 with
 |cons r rr =>
 cases rr;let#[t,rfl]:=r;refine call_range_1 (WB (kws_cons (kla_eval rfl ?_)));have w:Inv X x σ H1 { h with heap:=h.1.push { cls:=.type "range",data:=.fields (Q3 [.int 0 h.toks,.int xs.9 t,.int 1 (h.toks+1)]) },toks:=h.toks+1+1 }:=I1.kept λb o e=>QH _ e;have hr2:rk (h.1.push { cls:=.type "range",data:=.fields (Q3 [.int 0 h.toks,.int xs.9 t,.int 1 (h.toks+1)]) }) h.1.1.size 0 xs.9 1 h.toks t (h.toks+1):=QR _ rfl;have hP:=w.tb P q hT;let#[ps,hp,ht,hps]:=w.hok P _ hP;let#[ce,hce,hcl]:=Cf w hN hs hv;have R:li uX X.env=sn [(QV "events",ce)]:=by unfold li cellOf;simp[hce]
 let#[bm,ob,b1,b2,b3,b4,b5,b6]:=hb;have hb2:=And.intro b1 (And.intro b2 (And.intro b3 (And.intro b4 (And.intro (w.bk _ _ b5) b6))));have evs:=tu w hsq m;subst hq;cases e:f5 Z ps.toList with|none=>refine kla_makeFunction (mg:=X.mg) R I.ok.glob (w.mod.glob.keeps w.bk) n (hC.keeps w.bk) hp ht e hgP #[bm,ob,hb2] λc' ctv h' tk hx hge hlt v htb=>evalAll_nil ?_;let#[hn,I3]:=w.tabbed (t':=tk) hP hp ht hps hx hge v htb;have C:∀{oN:Obj}(b:k0) (o:Obj),h'.get? b=jr o->(h'.push oN).get? b=jr o:=λb o e=>QH _ e;let#[oc,c1,c2]:=hcl;show ko _ _ (d3 (.builtin "sorted") [.ref h.1.1.size] [(QV "key",.ref h'.1.size)]) _ _ _;refine VU (I3.kept C) hh f (QR _ rfl) (v.push _) #[oc,C _ _ (hx _ _ (λz=>?_) c1),c2] (λj p hj=>#[(m.2 j p hj).1,((evs j p hj).keepB hp hx).keep C]) m.1 h64 (C _ _ (hx _ _ (λz=>?_) hr2)) λp l pm u hl=>k p _ l pm u (.inr #[c',hn,rfl]) hl;rw[z,hp]at c1;cases c1;cases c2;have z2:=hp.symm.trans (z▸hr2);cases z2|some cv=>let#[c',rfl,_,v]:=hps _ _ e;refine kla_makeFunctionHit (mg:=X.mg) R I.ok.glob (w.mod.glob.keeps w.bk) n (hC.keeps w.bk) hp ht e #[bm,ob,hb2] λctv h' tk kp hge=>evalAll_nil ?_;have C:∀{oN:Obj}(b:k0) (o:Obj),(h.1.push { cls:=.type "range",data:=.fields (Q3 [.int 0 h.toks,.int xs.9 t,.int 1 (h.toks+1)]) }).get? b=jr o->(h'.push oN).get? b=jr o:=λb o e=>QH _ (kp b o e);show ko _ _ (d3 (.builtin "sorted") [.ref h.1.1.size] [(QV "key",.ref h'.1.size)]) _ _ _;exact VU (w.kept C) hh f (QR _ rfl) (v.keeps C) (hcl.keeps C) (λj p hj=>#[(m.2 j p hj).1,(evs j p hj).keep C]) m.1 h64 (C _ _ hr2) λp l pm u hl=>k p _ l pm u (.inl rfl) hl
end
end
noncomputable def eK:D->Option Int
 | .tuple h=>(match h[1]? with|some (j1 t)=>jr t|_=>kv)
 |_=>kv
def oG(evs:List D):List (Int×Int):=(Qj evs.9).map λ(i:Nat)=>(((evs[i]?).bind eK).getD 0,(i:Int))
theorem Z4{evs:List D}{j:Nat}{p:Int×Int}(h:(oG evs)[j]?=jr p):j<evs.9/\p=(((evs[j]?).bind eK).getD 0,(j:Int)):=by unfold oG at h;rw[QX]at h;by_cases c:j<evs.9;rw[wO c]at h;exact#[c,(Qn h).symm];rw[Q0 (by simpa using c)]at h;cases h
def Bv(evs:List D)(ns:LN):Prop:=ns.Perm (Qj evs.9)/\ns.Pairwise λa b=>G3 (oG evs) b a=kb
def Hr:PSp where
 run:=λy Q _=>∃h:List D,y=[.d (.list h)]/\h.9<64/\(∀e∈h,∃t,eK e=jr t)/\∀x,Bv h x->Q (.lst (x.map λ(i:Nat)=>.d (.int i))) []
theorem Z6{K:QA}{H x:Hp}{a:k0}{xs:LV}(e:Same H x)(h:CD K H a xs):CD K x a xs:=by rcases h with(h|⟨o,h⟩)|h;exact .inl (.inl (e _ _ h));exact .inl (.inr #[o,e _ _ h]);exact .inr h
theorem N5{lt:Nat->Nat->Bool}{p:Array Nat}(h:Up lt p p.size):p.toList.Pairwise λa b=>lt b a=false:=by
 rw[QAk];intro i j x u y;have e:∀i (x:i<p.toList.9),gD p i=p.toList[i]:=λi x=>by
  have z:i<p.size:=by simpa using x
  unfold gD;simp[QBZ,z]
 have:=h i j (QAT y) (by simpa using u);unfold lJ at this;rw[e i x,e j u]at this;exact this
section
variable{P:vx}{w:x0}{K:QA}{mg:Str->Option kn}{base:vu}{Ψ:PEv}{D C p2 B W U n m g a0 a1 R O N L J I y:Pos}
noncomputable abbrev Sy:Scope:={ kind:=.function,names:=[(QV "events",.cell),(QV "sorted",.globalImplicit),(QV "range",.globalImplicit),(QV "len",.globalImplicit)],isGenerator:=kb,isCoroutine:=kb,more:=[] }
noncomputable abbrev jAS(D C p2 B W U n m g a0 a1 R O N L J I y:Pos):List Stmt:=[.Return (jr (.Call (.Name "sorted" a0) [.Call (.Name "range" a1) [.Call (.Name "len" R) [.Name "events" O] [] N] [] L] [#[jr "key",.Lambda (Le m) (T8 D C p2 B W U n) uX g,J]] I)) y]
theorem VZ{H F:Hp}{vs:LV}{Q:VK}{E:XK}{T:k0}(h:lift K Hr vs H Q E):vs.9=1/\jAK K T 0 (mD [QV "events"] vs) H λv H'=>Q v H':=by
 let#[F,ts,M,Y,h1,h2,h3,h4,x,rfl,h64,he,q]:=h;cases h2 with
 |chg hm=>cases hm|@rd _ v vs' _ _ Z _ hr _ r =>
 cases r;refine#[rfl,?_];cases hr with
 |d rp hz =>
 cases rp with
 |@lst a xs _ hq rs =>
 have A:xs.9=x.length:=rs.9;have kl:(oG x).9=xs.length:=by unfold oG;rw[QD,Qw,A]
 refine#[a,xs,oG x,rfl,.inl (h1.seq hq),#[kl,λj p hj=>?_],by rw[A];exact h64,λp H1 l pm up hH hl=>?_];let#[jl,rfl]:=Z4 hj;have G:x[j]?=jr (x[j]'jl):=Qf jl;let#[t,k]:=he _ (WL jl);let#[v,v1,v2]:=rs.get G;refine#[rfl,?_];rw[G];show ∃t ys,_/\_/\ys[1]?=jr (V.int ((eK x[j]).getD 0));rw[k];generalize x[j]=e at *;cases v2 with
 |@tup b ys ds sq rs2 =>
  have k:(match ds[1]? with|some (j1 t)=>jr t|_=>kv)=jr t:=k;cases hd:ds[1]? with
  |none=>rw[hd]at k;cases k|some d =>
   rw[hd]at k;let#[u,u1,u2]:=rs2.get hd;cases u2 with|int i=>cases k;exact#[b,ys,v1,Z6 h1 sq,u1]|_=>cases k
 |_=>cases k
 have pn:p.size=x.length:=by have:=pm.size_eq;simpa[A]using this
 have f:H l=none:=by
  rcases hH with rfl|⟨c,hc,rfl⟩
  exact hl;by_cases z:l=c
  ·rw[z];exact hc
  rw[uA z]at hl;exact hl
 have hs:Same H H1:=by
  rcases hH with rfl|⟨c,hc,rfl⟩
  exact λ_ _ e=>e;exact λb o e=>by rw[uA (iA e hc)];exact e
 have s:Same H (FA H1 l (.lst (p.toList.map λ(i:Nat)=>V.int i))):=λb o e=>by rw[uA (iA e f)];exact hs b o e
 have fl:F l=none:=by
  cases z:F l with|none=>rfl|some o=>rw[h1 l o z]at f;cases f
 have X:∀S:LN,Trs K F (FA H1 l (.lst (p.toList.map λ(i:Nat)=>V.int i))) kf (S.map λ(i:Nat)=>V.int i) (S.map λ(i:Nat)=>.d (.int i)) λ_=>False:=λS=>by
  induction S with|nil=>exact .nil λ_ z=>z|cons i r ih=>exact .cons (.d (.int _) λ_ (z:False)=>z) ih (λ_ z=>z.elim) λb=>#[Qd,λz=>z.elim id id]
 refine q p.toList #[?_,?_] (.ref l) F (FA H1 l (.lst (p.toList.map λ(i:Nat)=>V.int i))) (λb=>b=l) (λ_=>False) #[λ_ _ e=>e,λb o e=>s b o (h1 b o e),λb u e _=>s b u e,λb e=>?_,λb e z=>i2 e z] (.lst YA fl (X _) (λz=>z) λb=>#[.inl,λz=>z.elim id Qd]) (.nil λ_ z=>z) (λ_ _ z=>z) λb z=>.inr (z.elim (λz=>z▸f) Qd);rw[A]at pm;exact Q4.mp pm;rw[A,<- pn]at up;exact N5 up;cases z:H b with|none=>rfl|some o=>rw[s b o z]at e;cases e
theorem yf{f c T:k0}{M kV v l ct:kn}{Z r:Option k0}{b:Array (Option kn)}{z:p5}{k:Nat}(X:K.In base)(G:base.Ns k5 mg)(hm:mg "going_order"=jr (.ref f))
  (lk:K.lookup f=jr #[M,Z,.func (fnOf "going_order" "going_order" z (jAS D C p2 B W U n m g a0 a1 R O N L J I y) Sy .none kV v l r (.ref c) ct),b])
  (j:codeIn K (.ref c) "going_order"=kf) (e:keepIn K (.ref f)=kf) (p:CodeHd base c T) (hb:base.BuiltinsAt mg T) (i:k5≠T) (m1:mg "sorted"=kv) (m2:mg "range"=kv) (m3:mg "len"=kv)
  (u:∀us:LW,us.9=1->c0 (fnOf "going_order" "going_order" z (jAS D C p2 B W U n m g a0 a1 R O N L J I y) Sy .none kV v l r (.ref c) ct) #[us,[]]=sn ([QV "events"].zip us)) (hR:Ψ.sp "going_order"=Hr):sC P w K mg base Ψ (k+1) "going_order":=by
 have S:FnScope [QV "events"] [QV "events"] Sy:=#[rfl,rfl,rfl,by decide,rfl,by intro x hx;rcases QJ.mp hx with rfl;exact .inr rfl,by decide]
 refine#[f,_,[QV "events"],?_,hm,e,.all u];rw[hR];refine eh lk j S (λY H Q E h=>(VZ (T:=T) (F:=H) h).1) λA a s H Y Q E o h=>#[_,SY (j7 (Tc (q:=(QV "going_order")++(QV ".<locals>.<lambda>")) rfl rfl rfl p ?_ ?_ hb i rfl m1 rfl m2 rfl m3 o.hd ?_)),(VZ (F:=H) h).2]
 exact#[f,_,_,c,hm,X _ _ lk,rfl,rfl,p,rfl];show QV "going_order"++QV ".<locals>.<lambda>"=(QV "going_order"++QV ".<locals>.")++QV "<lambda>";decide;exact WT (QU (QBB _ (3 * k)) (QBB _ 5)) o.dp
end
end L2.L3
namespace L2.L3.K41
open PySem PySem.Spec PyProof.Rows L2 L2.L3
def FO(a b:Nat):Bool:=decide (a<=b)
def srt(l:LN):LN:=l.mergeSort FO
theorem Jt(a b c:Nat)(x:FO a b=kf)(y:FO b c=kf):FO a c=true:=dT (QU (ot x) (ot y))
theorem Yt(a b:Nat):(FO a b||FO b a)=true:=by rcases Nat.le_total a b with z|z;rw[show FO a b=kf from dT z];rfl;rw[show FO b a=kf from dT z,QCT]
theorem Tj(l:LN):(srt l).Pairwise λa b=>a<=b:=(List.pairwise_mergeSort Jt Yt l).imp λz=>ot z
theorem Aj{z l:LN}(h:z.Perm l)(u:z.Pairwise (·<=·)):z=srt l:=QAv (λa b _ _ x y=>Nat.le_antisymm x y) u (Tj l) (h.trans (QBw l FO).symm)
theorem uT(l:LN):(srt l).Perm l:=QBw l FO
noncomputable abbrev Stp:=Nat×Bool×LN×List Pt
structure Gs where
 past:LN
 taken:LN
 held:List Pt
 steps:List Stp
def Kp(w:Wd)(g:Gs)(n:Nat):Bool:=jx w (JO w g.past) g.held (sA w.es n)
def jW(w:Wd)(g:Gs)(n:Nat):LN:=if(Kp w g n&&decide (GV (sA w.es n)="tell"))=kf then g.taken++[n] else g.taken
def gt(w:Wd)(g:Gs)(n:Nat):LN:=srt (gH w.es (jW w g n) (JO w (g.past++[n])))
def bw(w:Wd)(g:Gs)(n:Nat):List Pt:=DN w (g.past++[n]) (gt w g n)
def iD(w:Wd)(g:Gs)(n:Nat):Gs:=#[g.past++[n],jW w g n,bw w g n,g.steps++[(n,Kp w g n,gt w g n,bw w g n)]]
def nC(w:Wd)(ns:LN):Gs:=ns.foldl (iD w) #[[],[],[],[]]
noncomputable def mP(s:Stp):D:=.tuple [nD s.1,.bool s.2.1,.list (s.2.2.1.map nD),.list (s.2.2.2.map pr)]
def Vb(l:LN):T:=.lst ((l.map nD).map T.d)
def df(w:Wd)(past taken:LN)(wr held:List Pt)(x:Kn)(st:List Stp)(o8 h o10:Option Sl):xA:=[bD (wD w),bD (.list (w.es.map IB)),oW (Vb past),oW (Vb taken),oW (ML wr),bD (.list (held.map pr)),oW (u5 x),oW (.lst ((st.map mP).map T.d)),o8,h,o10]
theorem m8(l:LN)(n:Nat):Vb (l++[n])=.lst ((l.map nD).map T.d++[T.d (nD n)]):=by unfold Vb;rw[QM,QM];rfl
theorem Sj(l:List Stp)(n:Stp):((l++[n]).map mP).map T.d=(l.map mP).map T.d++[T.d (mP n)]:=by rw[QM,QM];rfl
theorem V6{evs:List Evt}{h:LN}{ks:List Pt}{K:T->LT->Prop}{E:XE}(l:h.9<64)(a:∀n∈h,n<evs.9/\FD (sA evs n))(q:K (.lst (((srt (gH evs h ks)).map nD).map T.d)) []):CL HG [.d (.list (evs.map IB)),.lst ((h.map nD).map T.d),ML ks] K E:=#[evs,h,ks,rfl,l,a,λz y x=>by rw[Aj y x];exact q]
section
variable{Ψ:PEv}{E:XE}{K:TK}{y x:D}{u:List D}{k:T}{g f e c b w v:Option Sl}
theorem bf(h:Ψ.sp "held_among"=ND)(q:CL ND [.d y,.lst (u.map T.d),.d x,k] (λr j=>∃n,j=[n]/\K r kf [bD y,g,oW (.lst (u.map T.d)),f,e,c,oW n,b,w,v,bD x]) E):xB Ψ (.call "held_among" %[.var 0,.var 2,.var 10,.var 6|1]) E [bD y,g,oW (.lst (u.map T.d)),f,e,c,oW k,b,w,v,bD x] K:=by show ∃j,LA (bA (Ψ.sp "held_among").md %[.var 0,.var 2,.var 10,.var 6|1]) [bD y,g,oW (.lst (u.map T.d)),f,e,c,oW k,b,w,v,bD x]=jr j/\(bA (Ψ.sp "held_among").md %[.var 0,.var 2,.var 10,.var 6|1]).Nodup/\(pe Ψ %[.var 0,.var 2,.var 10,.var 6|1] E).a (Ψ.sp "held_among").md (clear (bA (Ψ.sp "held_among").md %[.var 0,.var 2,.var 10,.var 6|1]) [bD y,g,oW (.lst (u.map T.d)),f,e,c,oW k,b,w,v,bD x]) λp l=>∃o,VA (Ψ.sp "held_among").md p j=jr o/\(Ψ.sp "held_among").run o (λr m=>∃i,yC (bA (Ψ.sp "held_among").md %[.var 0,.var 2,.var 10,.var 6|1]) m l=jr i/\K r kf i) E;rw[h];refine#[[k],rfl,Qk.mpr #[WM,Q7],?_];refine#[rfl,?_];refine#[[.d y,.lst (u.map T.d),.d x,k],?_,?_];show(match DF (T.lst (u.map T.d)) with|some t=>(jr [T.d x,k]).map (t::·)|none=>kv).map (T.d y::·)=_;rw[t6];rfl;refine ND.mono (λr j z=>?_) (λ_ z=>z) q;let#[n,rfl,z]:=z;exact#[_,rfl,z]
end
section
variable{Ψ:PEv}{Z:PEnds}{w:Wd}{y:Kn}{n:Nat}{o10:Option Sl}{g:Gs}{ns:LN}
theorem xu(m:Ψ.sp "wrong_among"=RF)(k:Ψ.sp "live_among"=HG)(l:Ψ.sp "held_among"=ND){past taken:LN}{wr held:List Pt}{st:List Stp}{b:Bool}(z:WOk w)(r:past.9<=60)(v:∀n∈past,n<w.es.9)(o:taken.9<=60)(u:∀n∈taken,n<w.es.9/\FD (sA w.es n))(hk:eO w y)(e:y.9<=10000)(p:st.9<=60)
  (q:∀h,eO w h->h.9<=y.9+10->Z.nx (df w past taken (JO w past) (DN w past (srt (gH w.es taken (JO w past)))) h (st++[(n,b,srt (gH w.es taken (JO w past)),DN w past (srt (gH w.es taken (JO w past))))]) (bD (nD n)) (bD (.bool b)) (bD (.list ((srt (gH w.es taken (JO w past))).map nD))))) :
  pF Ψ OK Z (df w past taken wr held y st (bD (nD n)) (bD (.bool b)) o10):=by
 have x:=uT (gH w.es taken (JO w past));have fl:=qG (λn=>!decide (((FJ (sA w.es n)).1,(FJ (sA w.es n)).2)∈JO w past)) taken;have a:mY w (srt (gH w.es taken (JO w past))):=#[by rw[x.length_eq];unfold gH;omega,λn j=>u n (Qc.mp (x.mem_iff.mp j)).1]
 delta df Vb;delta OK;simp![↓jA (md:=[.fro,.shal]) m rfl rfl,↓jA (md:=[.fro,.shal,.bor]) k rfl rfl,↓pC,↓Ef,↓Uv];refine#[_,_,rfl,z,(),v,?_];simp![↓jA (md:=[.fro,.shal,.bor]) k rfl rfl,↓pC,↓Ef,↓Uv];refine V6 () u ?_;simp![↓kA];refine bf l (#[_,_,_,_,rfl,#[z,(),v],a,#[hk,e],λh i f=>#[_,rfl,?_]]);simp![↓kA];rw[QD,QD];refine#[(),(),?_];have q:=q h i f;unfold df Vb at q;rw[Sj]at q;exact q
structure GsOk(w:Wd)(g:Gs):Prop where
 p:∀n∈g.past,n<w.es.9
 tl:g.taken.9<=g.past.9
 t:∀n∈g.taken,n<w.es.9/\FD (sA w.es n)
 h:zg g.held
 s:g.steps.9=g.past.9
theorem ZZ(z:WOk w)(l u:LN):zg (DN w l u):=by intro p h;let#[x,v,h]:=WO.mp h;let#[m,hm,rfl]:=QZ.mp h;exact#[z.po x v,z.mo m (Qc.mp hm).1]
theorem yc{e:Evt}(h:GV e="tell"):FD e:=by
 cases e with|see t p m x=>exact i2 (show QV "see"=QV "tell" from h) (by decide)|tell t a b m x q=>exact#[t,a,b,m,x,q,rfl]
theorem rg(h:GsOk w g)(x:n<w.es.9):(jW w g n).9<=g.past.9+1/\∀k∈jW w g n,k<w.es.9/\FD (sA w.es k):=by have:=h.tl;unfold jW;split;rename_i c;rw[Qa,o2]at c;refine#[by rw[QI];exact Wv this,λk hk=>?_];rcases Qh.mp hk with hk|hk;exact h.t k hk;rw[QJ.mp hk];exact#[x,yc c.2];exact#[(),h.t]
theorem zS(v:WOk w)(h:GsOk w g)(x:n<w.es.9):GsOk w (iD w g n):=by
 let#[u,z]:=rg h x;refine#[λk hk=>?_,?_,z,ZZ v _ _,?_];rcases Qh.mp hk with hk|hk
 ·exact h.p k hk
 rw[QJ.mp hk];exact x;show(jW w g n).9<=(g.past++[n]).9;rw[QI];exact u;show(g.steps++_).9=(g.past++[n]).9;rw[QI,QI,h.s];rfl
theorem Ay(C:Ψ.sp "is_taken"=VY)(B:Ψ.sp "wrong_among"=RF)(A:Ψ.sp "live_among"=HG)(K:Ψ.sp "held_among"=ND){j:Option Sl}(i:WOk w)(a:GsOk w g)(E:g.past.9<60)(v:n<w.es.9)(hk:eO w y)(X:y.9<=10000)
  (q:∀x j o10,eO w x->x.9<=y.9+10->Z.nx (df w (g.past++[n]) (jW w g n) (JO w (g.past++[n])) (bw w g n) x (iD w g n).steps (bD (nD n)) j o10)) :
  pF Ψ bO Z (df w g.past g.taken (JO w g.past) g.held y g.steps (bD (nD n)) j o10):=by
 have F:=a.tl;have I:=a.s;let#[G,m]:=rg a v;have o:∀k∈g.past++[n],k<w.es.length:=(zS i a v).p;have r:=λ{o10}=>xu (Z:=Z) (wr:=JO w g.past) (held:=g.held) (st:=g.steps) (n:=n) (b:=Kp w g n) (o10:=o10) B A K i (past:=g.past++[n]) (by rw[QI];exact E) o (taken:=jW w g n) () m hk X () λx W Y=>q x _ _ W Y;delta df Vb;delta bO;simp![↓tQ v,↓jA (md:=[.fro,.fro,.bor,.fro]) C rfl rfl,↓pC,↓Ef,↓Uv];refine#[_,_,_,_,rfl,i,(i.ev v),a.h,?_];simp![↓tQ v,↓EJ];rw[QD,QD,<- m8];refine#[(),?_];have e:jx w (JO w g.past) g.held (sA w.es n)=Kp w g n:=rfl;rw[e];cases u:Kp w g n with
 |false=>have f:jW w g n=g.taken:=ii (by rw[u];exact λz=>by cases z);rw[f,u]at r;exact r|true =>
  cases l:decide (GV (sA w.es n)="tell") with|false=>have f:jW w g n=g.taken:=ii (by rw[u,l];exact λz=>by cases z);rw[f,u]at r;exact r|true=>have f:jW w g n=g.taken++[n]:=i0 (by rw[u,l];rfl);rw[f,u]at r;simp![↓kA];rw[QD,QD,<- m8];exact#[(),r]
theorem sf(e:Evt):∃t,eK (IB e)=jr t:=by
 cases e with|see t p m h=>exact#[t,rfl]|tell t a b m h q=>exact#[t,rfl]
def SK(w:Wd)(ns:LN):Prop:=Bv (w.es.map IB) ns
theorem dZ(h:SK w ns):∀n∈ns,n<w.es.length:=λn x=>by
 have:=qK.mp (h.1.mem_iff.mp x)
 rwa [QD]at this
theorem FW(h:SK w ns):ns.9=w.es.length:=by rw[h.1.length_eq,Qw,QD]
theorem Kk{K:T->LT->Prop}{E:XE}(x:WOk w)(q:∀ns,SK w ns->K (Vb ns) []):CL Hr [.d (.list (w.es.map IB))] K E:=#[_,rfl,by rw[QD];exact WT x.el (by decide),λe z=>by
 let#[v,_,rfl]:=QZ.mp z;exact sf v,λns h=>by
 have:=q ns h;unfold Vb at this;rw[Qb]at this;exact this]
def jM:PSp where
 run:=λh Q _=>∃w:Wd,h=[.d (wD w)]/\WOk w/\∀ns,SK w ns->Q (.lst (((nC w ns).steps.map mP).map T.d)) []
theorem jAB{E:XE}{r:PT}{i:Nat}{ρ:xA}:BL Ψ E r Z i (.lst []) kf ρ=tB Ψ E r Z (ρ.set i (bD (.list []))):=tw (ds:=[])
theorem Ad(h0:Ψ.sp "going_order"=Hr)(B:Ψ.sp "is_taken"=VY)(A:Ψ.sp "wrong_among"=RF)(K:Ψ.sp "live_among"=HG)(W:Ψ.sp "held_among"=ND):GD Ψ xY jM Sa TY:=by rintro _ Q _ ⟨w,rfl,k,q⟩;have G:=k.el;refine vA [bD (wD w),kv,kv,kv,kv,kv,kv,kv,kv,kv,kv] ?_;delta xY;simp![↓MS,↓jA (md:=[]) h0 rfl rfl];refine#[(),(),(),?_];simp![↓jAB,↓jA (md:=[]) h0 rfl rfl];refine#[(),Kk k λns u=>?_];delta Vb;simp![↓kA];rw[<- oA nD];have C:=FW u;refine BA (λn=>T.d (nD n)) (λr a=>∃g y i f o10,r.foldl (iD w) g=nC w ns/\(GsOk w g/\g.past.9+r.9<=60/\∀n∈r,n<w.es.9)/\(eO w y/\y.9<=10 * g.past.9)/\a=df w g.past g.taken (JO w g.past) g.held y g.steps i f o10) ?_ ?_ ns _ #[#[[],[],[],[]],[],kv,kv,kv,rfl,#[#[λ_ z=>(by cases z),QT _,λ_ z=>(by cases z),λ_ z=>(by cases z),rfl],by show 0+ns.9<=60;omega,dZ u],#[λ_ z=>(by cases z),QT _],rfl];rintro a ⟨g,y,i,f,o10,e,_,_,rfl⟩;have e:g=nC w ns:=e;subst e;delta df;simp![↓kA];exact q ns u;rintro n r a N Y ⟨g,y,i,f,o10,e,⟨o,m,l⟩,⟨p,E⟩,rfl⟩;have m:g.past.9+(r.9+1)<=60:=m;have j:=l n QF;refine Ay B A K W k o () j p () λh b v s F=>Y _ #[iD w g n,h,_,b,v,e,#[zS k o j,?_,λx X=>l x (QE _ X)],#[s,?_],rfl];show(g.past++[n]).9+r.9<=60;rw[QI];show g.past.9+1+r.9<=60;omega;show h.9<=10 * (g.past++[n]).9;rw[QI];show h.9<=10 * (g.past.9+1);omega
def Hq(w:Wd):Gs->LN->List Stp
 |_,[]=>[]|g,n::r=>(n,Kp w g n,gt w g n,bw w g n)::Hq w (iD w g n) r
theorem xT(w:Wd):∀(ns:LN) (g:Gs),(ns.foldl (iD w) g).steps=g.steps++Hq w g ns
 |[],g=>(Qy _).symm|n::r,g=>by show(r.foldl (iD w) (iD w g n)).steps=_;rw[xT w r];show(g.steps++[_])++_=g.steps++(_::_);rw[Q1];rfl
def g0:Gs:=#[[],[],[],[]]
theorem xf(w:Wd)(ns:LN):(nC w ns).steps=Hq w g0 ns:=xT w ns g0
theorem jBR(w:Wd):GsOk w g0:=#[λ_ z=>(by cases z),QT _,λ_ z=>(by cases z),λ_ z=>(by cases z),rfl]
end
section
variable{w:Wd}{es:List Evt}{f:Nat->Nat}(h:∀n,sA es n=sA w.es (f n))
include h
end
section
variable{es:List Evt}{n:Nat}{w:Wd}{ns:LN}{l:List D}{x:D}
def T0:Evt->Int
 | .see t _ _ _=>t|.tell t _ _ _ _ _=>t
def Nm(es:List Evt)(a b:Nat):Prop:=T0 (sA es a)<T0 (sA es b)∨T0 (sA es a)=T0 (sA es b)/\a<=b
theorem B9(h:n<es.9):(oG (es.map IB)).getD n (0,0)=(T0 (sA es n),(n:Int)):=by
 have e:eK (IB (es[n]'h))=jr (T0 (es[n]'h)):=by cases es[n]'h<;>rfl
 unfold oG sA;rw[QD,QAQ,QX,wO h];simp only[Q5,Ww];rw[QX,Qf h];simp only[Q5,Option.bind_some,Ww,e]
theorem DW(h:SK w ns):ns.Pairwise (Nm w.es):=by refine h.2.imp_of_mem λ{a b} y hb z=>?_;have z:=oa z;rw[B9 (dZ h a y),B9 (dZ h b hb)]at z;unfold Nm;dsimp only at z;omega
theorem Kl{l z:LN}(p:l.Perm z)(h:l.Pairwise (Nm es))(h':z.Pairwise (Nm es)):l=z:=QAv (λa b _ _ x y=>by unfold Nm at x y;omega) h h' p
theorem v8{y:LN}(h:SK w ns)(h':SK w y):ns=y:=Kl (h.1.trans h'.1.symm) (DW h) (DW h')
def GR(n:Nat)(x:D):Prop:=x.canLay0=kf/\x.depth<=n
theorem ZN{n:Nat}:∀{l:List D},(∀x∈l,GR n x)->qz l=kf/\wm l<=n
 |[],_=>#[rfl,Qt _]|x::l,h=>by let#[a,k]:=h x QF;let#[u,z]:=ZN (l:=l) λy v=>h y (QE _ v);exact#[by show(x.canLay0&&qz l)=kf;rw[a,u];rfl,Nat.max_le.mpr #[k,z]]
theorem Ue(h:∀x∈l,GR n x):GR (n+1) (.list l):=#[(ZN h).1,Wv (ZN h).2]
theorem B3(h:∀x∈l,GR n x):GR (n+1) (.tuple l):=#[(ZN h).1,Wv (ZN h).2]
theorem cJ{s:Str}(h:OkS s):GR n (.str s):=#[h,Qt _]
theorem B8{i:Int}:GR n (.int i):=#[rfl,Qt _]
theorem bt(h:GR n x)(y:n<=64):JE x:=#[h.1,QU h.2 y]
theorem V8{m:Nat}(h:GR n x)(y:n<=m):GR m x:=#[h.1,QU h.2 y]
theorem LD(h:GR n x)(u:∀y∈l,GR n y):∀y∈x::l,GR n y:=λy z=>by rcases QL.mp z with rfl|z;exact h;exact u y z
theorem X8:∀y∈([]:List D),GR n y:=λy h=>by cases h
theorem U8{α:Type}{f:α->D}{l:List α}(h:∀a∈l,GR n (f a)):∀y∈l.map f,GR n y:=λy z=>by let#[a,u,rfl]:=QZ.mp z;exact h a u
theorem ut{p:Pt}(h:OkS p.1/\OkS p.2):GR 1 (pr p):=B3 (LD (cJ h.1) (LD (cJ h.2) X8))
theorem vt{p:Str×Int×Int×Int}(h:OkS p.1):GR 1 (zJ p):=B3 (LD (cJ h) (LD B8 (LD B8 (LD B8 X8))))
theorem jk:OkS "see":=(by decide +kernel:ql "see"=kf)
theorem fc:OkS "tell":=(by decide +kernel:ql "tell"=kf)
theorem ft(y:WOk w){e:Evt}(h:jb w e):GR 2 (IB e):=by
 cases e with|see t p m z=>exact B3 (LD (cJ jk) (LD B8 (LD (cJ (y.nm h.1)) (LD (cJ (y.mo _ h.2.1)) (LD (cJ h.2.2) X8)))))|tell t a b m z q=>exact B3 (LD (cJ fc) (LD B8 (LD (cJ (y.nm h.1)) (LD (cJ (y.nm h.2.1)) (LD (cJ (y.mo _ h.2.2.1)) (LD (cJ h.2.2.2.2.1) (LD (B3 (U8 λx u=>cJ (y.nm (h.2.2.2.2.2 x u)))) X8)))))))
theorem js(h:WOk w):JE (wD w):=bt (n:=4) (B3 (LD (V8 (Ue (U8 λp y=>vt (h.po p y))) (by decide)) (LD (V8 (Ue (n:=0) (U8 λm hm=>cJ (h.mo m hm))) (by decide)) (LD (V8 (Ue (U8 λp y=>ut (h.ag p y))) (by decide)) (LD (Ue (U8 λe z=>ft h (h.eo e z))) X8))))) (by decide)
end
section
variable{ds es:List D}{L:Bool->Prop}{x:D}{y:fm}
theorem F9(h:JE (.tuple ds))(q:L kf):BX .Eq (.tuple ds) (.tuple ds) L:=#[h,h,by rw[PySem.SeqAt.eqv_refl _ h.1];exact q]
theorem Pn(i j:Int):Ql (.int i) (.int j)=decide (i=j):=by simp only[Ql];rw[Qz,beq_iff_eq,o2]
end
structure StK(w:Wd)(s:Stp):Prop where
 n:s.1<w.es.9
 l:mY w s.2.2.1
 h:zg s.2.2.2
theorem Kg{w:Wd}(y:WOk w):∀(ns:LN) (g:Gs),GsOk w g->g.past.9+ns.9<=60->(∀n∈ns,n<w.es.9)->∀s∈Hq w g ns,StK w s
 |[],_,_,_,_,s,hs=>by cases hs|n::r,g,hg,hl,hn,s,hs=>by have u:=hn n QF;have z:=zS y hg u;have hl:g.past.9+(r.9+1)<=60:=hl;have a:(iD w g n).past.9=g.past.9+1:=QI;rcases QL.mp hs with rfl|hs;have v:=uT (gH w.es (jW w g n) (JO w (g.past++[n])));have fl:(gH w.es (jW w g n) (JO w (g.past++[n]))).9<=(jW w g n).length:=qG _ _;have k:(jW w g n).9<=(iD w g n).past.length:=z.tl;refine#[u,#[?_,λx h=>z.t x (Qc.mp (v.mem_iff.mp h)).1],ZZ y _ _];show(gt w g n).9<=100;unfold gt;rw[v.length_eq];omega;exact Kg y r _ z () (λx h=>hn x (QE _ h)) s hs
theorem x6{w:Wd}:∀(ns:LN) (g:Gs),(Hq w g ns).map (λs=>s.1)=ns
 |[],_=>rfl|n::r,g=>o9 (n::·) (x6 r _)
theorem J9{w:Wd}{ns:LN}(h:WOk w)(x:SK w ns):(nC w ns).steps.map (λs=>s.1)=ns/\(nC w ns).steps.9<=60/\∀s∈(nC w ns).steps,StK w s:=by have z:=h.el;have y:=FW x;have e:=x6 (w:=w) ns g0;have l:=o9 qQ e;rw[QD]at l;rw[xf];exact#[e,(),Kg h ns g0 (jBR _) (by show 0+_<=_;omega) (dZ x)]
noncomputable def dJ(st:List Stp):LN:=match st.getLast? with
 |some s=>s.2.2.1|none=>[]
theorem HR(l:List Stp)(s:Stp):dJ (l++[s])=s.2.2.1:=by unfold dJ;rw[List.getLast?_concat]
theorem vW(st:List Stp):st=[]∨∃l s,st=l++[s]:=by
 rcases List.eq_nil_or_concat st with h|⟨l,s,h⟩
 exact .inl h;exact .inr #[l,s,by rw[h,List.concat_eq_append]]
theorem kX{w:Wd}{st:List Stp}(h:∀s∈st,StK w s):mY w (dJ st):=by
 rcases vW st with rfl|⟨l,s,rfl⟩
 exact#[Qt _,λ_ z=>by cases z];rw[HR];exact(h s (QY _ QF)).l
theorem EZ{α:Type}(l:List α)(x:α):PC (l++[x]) (-1)=jr x:=by unfold PC HS;rw[ii (by decide),QI,i0 (by show -(((l.9+1:Nat)):Int)<=-1;omega)];show(l++[x])[((-1:Int)+((l.9+1:Nat):Int)).toNat]?=_;rw[show((-1:Int)+((l.9+1:Nat):Int)).toNat=l.9 by omega,Qx (QT _),QBV];rfl
def U3(w:Wd)(st:List Stp):D:=.tuple [wD w,.list (st.map mP)]
def Ss(w:Wd)(st:List Stp):T:=.tup [.d (wD w),.lst ((st.map mP).map T.d)]
theorem Yu(w:Wd)(st:List Stp):(Ss w st).er=U3 w st:=by show PyData.tuple [wD w,.list (ersT ((st.map mP).map T.d))]=_;rw[fB];rfl
def dW:PSp where
 run:=λx Q _=>∃w:Wd,x=[.d (wD w)]/\WOk w/\∀h,SK w h->Q (Ss w (nC w h).steps) []
theorem Es{a:D}{l:LT}:SD [.d a,.lst l]=.tup [.d a,.lst l]:=rfl
theorem Il{Ψ:PEv}(z:Ψ.sp "gone"=jM):GD Ψ tE dW GH vG:=by rintro _ Q _ ⟨w,rfl,x,q⟩;refine vA [bD (wD w)] ?_;delta tE;simp![↓jA (md:=[]) z rfl rfl];refine#[_,rfl,x,λh y=>?_];simp![↓Es];exact#[(),q h y]
section
variable{w:Wd}{st:List Stp}{n m:Bool}{R:T->Prop}{xs:List (T×Bool)}{C:LT->Prop}{s:Stp}
theorem fg:XA (.d (U3 w st)) n (.d (.int 0)) m R=R (.d (wD w)):=KA (i:=0) rfl
theorem dg:XA (.d (U3 w st)) n (.d (.int 1)) m R=R (.d (.list (st.map mP))):=KA (i:=1) rfl
theorem Oz:YB [] ((Ss w st,kf)::xs) C=YB [] xs λts=>C (.d (U3 w st)::ts):=by have e:VA [] ((Ss w st,kf)::xs) []=(VA [] xs []).map (.d (Ss w st).er::·):=rfl;unfold YB;rw[e,Yu,xF]
theorem Kw:XA (.d (mP s)) n (.d (.int 0)) m R=R (.d (nD s.1)):=KA (i:=0) rfl
theorem Ep:XA (.d (mP s)) n (.d (.int 2)) m R=R (.d (.list (s.2.2.1.map nD))):=KA (i:=2) rfl
theorem Zw:XA (.d (mP s)) n (.d (.int 3)) m R=R (.d (.list (s.2.2.2.map pr))):=KA (i:=3) rfl
end
def gI{α:Type}(l:List α)(i:Int)(d:α):α:=(PC l i).getD d
theorem kH{α:Type}{l:List α}{i:Int}{d:α}(h0:0<=i)(y:i<l.9):PC l i=jr (gI l i d)/\gI l i d∈l:=by let#[v,x,h]:=gM h0 y;unfold gI;rw[x];exact#[rfl,qW h]
theorem cE{α:Type}{f:α->D}{l:List α}{i:Int}(d:α){K:D->Prop}(h0:0<=i)(h:i<l.9)(q:K (f (gI l i d))):uF (PC (l.map f) i) K:=by rw[UF,(kH (d:=d) h0 h).1];exact#[_,rfl,q]
theorem CA(a:Int){m:Int}(h:0<m):0<=a % m/\a % m<m:=#[Int.emod_nonneg _ (),Int.emod_lt_of_pos _ h]
noncomputable def Sn{α:Type}(f:α->D)(p:α×Nat):T:=.d (.tuple [.int (p.2:Int),f p.1])
theorem JX{α:Type}(f:α->D)(l:List α):((l.map f).zipIdx.map λp=>T.d (.tuple [.int (p.2:Int),p.1]))=l.zipIdx.map (Sn f):=by rw[List.zipIdx_map,Qb];rfl
theorem gY{Ψ:PEv}{E:XE}{c:PX}{s y r:PT}{Z:PEnds}{o:Option Sl}{σ:xA}:tB Ψ E (.seq (.ife c s y) r) Z (o::σ)=cN Ψ c E (o::σ) λk x=>if k=kf then tB Ψ E s { Z with nx:=λh=>tB Ψ E r Z h } x else tB Ψ E y { Z with nx:=λh=>tB Ψ E r Z h } x:=rfl
section
variable{Ψ:PEv}{E:XE}{ρ:xA}{K:TK}{a h y g b c d:PX}{x:D}{n:Bool}{f:Str}{w:g7}{i:Int}{j:Nat}
def Y1(x:T)(n:Bool)(Ψ:PEv)(h y:PX)(E:XE)(p:xA)(K:TK):Prop:=sq (α:=Option Int) (gA x n) p (if isNop h=kf then λρ (R:Option Int->xA->Prop)=>R kv ρ else λρ R=>(pe Ψ h E).e ρ λl _ m=>uG l.er λo=>R o m) λl m =>
   sq (α:=Option Int) (gA x n) m (if isNop y=kf then λρ (R:Option Int->xA->Prop)=>R kv ρ else λρ R=>(pe Ψ y E).e ρ λu _ v=>uG u.er λo=>R o v) λu v=>HI (gA x n).vw l u λz k=>K z k v
theorem IK:xB Ψ (.slc a h y) E ρ K=xB Ψ a E ρ λx n z=>Y1 x n Ψ h y E z K:=rfl
theorem fu:Y1 (.d x) n Ψ .nop (.bin w a b) E ρ K=xB Ψ (.bin w a b) E ρ λu _ v=>ZP u λo=>EF (.d x) n kv o λz k=>K z k v:=by cases n<;>rfl
theorem vz:Y1 (.d x) n Ψ .nop (.var j) E ρ K=xB Ψ (.var j) E ρ λu _ v=>ZP u λo=>EF (.d x) n kv o λz k=>K z k v:=by cases n<;>rfl
theorem xz:Y1 (.d x) n Ψ .nop (.ng i) E ρ K=EF (.d x) n kv (jr (-i)) λz k=>K z k ρ:=by cases n<;>rfl
theorem uz:Y1 (.d x) n Ψ (.bin w a b) (.var j) E ρ K=xB Ψ (.bin w a b) E ρ λu _ l=>ZP u λo=>xB Ψ (.var j) E l λv _ e=>ZP v λp=>EF (.d x) n o p λz k=>K z k e:=by cases n<;>rfl
end
section
variable{k c m j:Int}{K:T->LT->Prop}{E:XE}{Ψ:PEv}{a b l:LN}{n:Bool}{Z:PEnds}{ws:LS}{o10:Option Sl}
def sB(h:LJ)(k:Int):Int:=if k<h.9 then gI h k 0 else 0
def BI:PSp where
 md:=[.shal]
 run:=λx Q _=>∃(h:LJ) (k:Int),x=[.lst ((h.map j1).map T.d),.d (.int k)]/\0<=k/\Q (.d (.int (sB h k))) []
theorem f9{a b:LJ}(h:(a.map j1).map T.d=(b.map j1).map T.d):a=b:=(Wc λx y e=>by injection e).mp ((Wc λx y e=>by injection e).mp h)
theorem MI{h:LJ}:CL BI [.lst ((h.map j1).map T.d),.d (.int k)] K E=(0<=k/\K (.d (.int (sB h k))) []):=i3 #[λ#[x,_,e,a,q]=>by injection e with e1 e2;injection e1 with e1;cases f9 e1;cases e2;exact#[a,q],λq=>#[h,k,rfl,q]]
theorem je:GD Ψ YG BI VL jJ:=by rintro _ Q _ ⟨h,k,rfl,h0,q⟩;refine vA [jr (.bor (.lst ((h.map j1).map T.d))),bD (.int k)] ?_;delta YG;simp![QD];unfold sB at q;by_cases c:k<h.9;rw[i0 c]at q;rw[i0 (dT c)];exact cE 0 h0 c q;rw[ii c]at q;rw[ii (λz=>c (ot z))];exact q
noncomputable def nI(c k:Int):Int:=c % 2147483647 * (69621+1511 * k * k) % 2147483629
def fA(c k:Int):Int:=(nI c k+k) * (nI c k+5 * k+1) % 2147483587
theorem Fm(c k:Int):0<=fA c k/\fA c k<2147483587:=CA _ (by decide)
def AF:PSp where
 run:=λh Q _=>∃c k:Int,h=[.d (.int c),.d (.int k)]/\(0<=k/\k<=1000)/\Q (.d (.int (fA c k))) []
theorem OG:CL AF [.d (.int c),.d (.int k)] K E=((0<=k/\k<=1000)/\K (.d (.int (fA c k))) []):=i3 #[λ#[_,_,e,a,q]=>by cases e;exact#[a,q],λq=>#[c,k,rfl,q]]
theorem jm:GD Ψ LK AF oQ kN:=by rintro _ Q _ ⟨c,k,rfl,⟨h0,h⟩,q⟩;refine vA [bD (.int c),bD (.int k),kv] ?_;delta LK;simp![↓kA];have a:=CA c (show(0:Int)<2147483647 by decide);have b:0<=nI c k/\nI c k<2147483629:=CA _ (by decide);unfold nI at b;exact#[bP.ok (.inl #[by decide,by decide]),bP.ok (.inr #[(),()]),bP.ok (.inl #[(),()]),bP.ok (.inl #[by decide,by decide]),bP.ok (.inl #[(),()]),q]
def sS(l:LN):Str:=#[l.toArray]
theorem FM(a b:LN):sS a++sS b=sS (a++b):=by show(#[a.toArray++b.toArray]:Str)=#[(a++b).toArray];rw[List.append_toArray]
theorem uE(l:LN):(sS l).9=l.length:=QN
theorem mW(l:LN):(sS l).cps.toList=l:=rfl
theorem Jk(h:sS a=sS b):a=b:=o9 (λs:Str=>s.cps.toList) h
def HV(l:LN):Prop:=∀c∈l,c<128
theorem zh(h:HV l):OkS (sS l):=by show(l.toArray).all _=kf;rw[<- Array.all_toList,qA];intro c hc;exact dT (QAV (h c hc) (by decide))
noncomputable abbrev lH:Str:="abcdefghijklmnopqrstuvwxyz"
def PB(n:Int):Nat:=97+(n % 26).toNat
theorem KN:lH.cps.toList=(Qj 26).map (·+97):=by decide +kernel
theorem xX(n:Int):PB n<128:=by have:=CA n (show(0:Int)<26 by decide);unfold PB;omega
theorem Fe(n:Int):PC lH.cps.toList (n % 26)=jr (PB n):=by
 have m:=CA n (show(0:Int)<26 by decide);have hl:lH.cps.toList.9=26:=by rw[KN];rfl
 let#[v,x,h]:=gM (xs:=lH.cps.toList) m.1 (by rw[hl];exact m.2);rw[x];rw[KN,QX,wO ()]at h;have h:(n % 26).toNat+97=v:=Qn h;unfold PB;rw[<- h,Nat.add_comm]
theorem D8{P:Nat->Prop}(q:P (PB m)):lH.length<=kt/\uF (PC lH.cps.toList (m % 26)) P:=by rw[Fe,OA];exact#[by rw[show lH.length=26 from rfl];omega,q]
theorem uV{P:Str->Prop}(h:a.9+b.9<=1000)(q:P (sS (a++b))):(sS a).9+(sS b).9<=kt/\P (sS a++sS b):=by rw[uE,uE,FM];exact#[(),q]
def mH:Int->Nat->LN
 |_,0=>[]|n,k+1=>PB n::mH (n / 26) k
theorem gC:∀(n:Int) (k:Nat),(mH n k).9=k
 |_,0=>rfl|n,k+1=>o9 (·+1) (gC _ k)
theorem zH:∀(n:Int) (k:Nat),HV (mH n k)
 |_,0,c,h=>by cases h|n,k+1,c,h=>by rcases QL.mp h with rfl|h;exact xX n;exact zH _ k c h
noncomputable def yK:PSp where
 run:=λh Q _=>∃n k:Int,h=[.d (.int n),.d (.int k)]/\(0<=k/\k<=100)/\Q (.d (.str (sS (mH n k.toNat)))) []
theorem RQ{n:Int}:CL yK [.d (.int n),.d (.int k)] K E=((0<=k/\k<=100)/\K (.d (.str (sS (mH n k.toNat)))) []):=i3 #[λ#[_,_,e,a,q]=>by cases e;exact#[a,q],λq=>#[n,k,rfl,q]]
theorem km:GD Ψ JG yK KL II:=by
 rintro _ Q _ ⟨n,k,rfl,⟨h0,z⟩,q⟩;refine vA [bD (.int n),bD (.int k),kv,kv,kv] ?_;delta JG;simp![↓kA];refine#[(),(),?_];refine BA (λ(i:Nat)=>T.d (.int (i:Int))) (λr h=>∃m l x,l++mH m r.9=mH n k.toNat/\h=[bD (.int m),bD (.int k),bD (.str lH),bD (.str (sS l)),x]) ?_ ?_ _ _ #[n,[],kv,by rw[Qw];rfl,rfl];rintro h ⟨m,l,x,e,rfl⟩;have e:l=mH n k.toNat:=by rw[<- e];exact(Qy _).symm
 subst e;simp![↓kA];exact q;rintro i r h N y ⟨m,l,x,e,rfl⟩;have hl:=o9 qQ e;rw[QI,gC,gC]at hl;delta UH;simp![↓kA];refine D8 (uV (a:=l) (b:=[PB m]) (P:=λs=>N [bD (.int (m / 26)),bD (.int k),bD (.str lH),bD (.str s),bD (.int (i:Int))]) (by show _+1<=_;omega) (y _ #[m / 26,l++[PB m],_,?_,rfl]));rw[Q1];exact e
noncomputable def Bt:LS:=["person","matter","against","see","tell","by","at","who","what","since","tellers"]
noncomputable def Ut:LS:=["wordings","apart","leans","hidden","strike","quote","ground","cut"]
def lst(z:Str):Nat:=z.cps.toList.getLast?.getD 0
def my(z:Str):Bool:=decide (1<=z.9)&&decide (z.9<=10)&&decide (97<=lst z)&&decide (lst z<=122)&&(qF lH (sS [lst z]) 0 lH.length 1).head?==jr (lst z - 97)
theorem E8:((Bt++Ut).all my)=true:=by decide +kernel
def YO(l:LN):LN:=if sS l∈Bt++Ut then l.dropLast++[PB ((lst (sS l) - 97:Nat)+13)] else l
theorem Pj(h:HV l):HV (YO l):=by unfold YO;split;intro c hc;rcases Qh.mp hc with hc|hc;exact h c (List.dropLast_subset l hc);rw[QJ.mp hc];exact xX _;exact h
theorem KY(l:LN):(YO l).9=l.length:=by unfold YO;split;rename_i c;have k:=qA.mp E8 _ c;unfold my at k;rw[Qa,Qa,Qa,Qa,o2,uE]at k;have:=k.1.1.1.1;rw[QI,wb];show l.9 - 1+1=_;omega;rfl
theorem z6{p:Nat}(h:l[p]?=jr (PB m)):∃u:Int,(YO l)[p]?=jr (PB (m+13 * u)):=by
 unfold YO;split;have y:p<l.length:=(Qg.mp h).1;by_cases c:p<l.9 - 1;refine#[0,?_];rw[show m+13 * 0=m from Int.add_zero m,qP (by rw[wb];exact c),List.getElem?_dropLast,i0 c];exact h;refine#[1,?_];have e:p=l.9 - 1:=()
 rw[Qx (by rw[wb];omega),wb,e,QBV];have x:lst (sS l)=PB m:=by unfold lst;rw[mW,QAm,<- e,h];rfl
 rw[x];show jr (PB (((97+(m % 26).toNat - 97:Nat):Int)+13))=jr (PB (m+13));rw[Nat.add_sub_cancel_left,Int.toNat_of_nonneg (CA m (by decide)).1];unfold PB;rw[Int.emod_add_emod];exact#[0,(show m+13 * 0=m from Int.add_zero m).symm▸h]
def SF:PSp where
 run:=λh Q _=>∃l:LN,h=[.d (.str (sS l))]/\l.9<=100/\Q (.d (.str (sS (YO l)))) []
theorem rZ(ks:LS):(ks.map j0).all rB=true:=by rw[qA];intro y h;let#[x,_,rfl]:=QZ.mp h;rfl
theorem A8(ks:LS)(z:Str):((ks.map j0).any λy=>Ql y (.str z))=decide (z∈ks):=by rw[Qz,wx,o2];constructor;rintro⟨y,u,h⟩;let#[x,v,rfl]:=QZ.mp u;rw[iK,o2]at h;exact h▸v;exact λh=>#[_,QZ.mpr #[z,h,rfl],by rw[iK];exact dT rfl]
theorem n6(h:1<=l.9):w8 (sS l) kv (jr (-1))=sS l.dropLast:=by show QAw (sS l) kv (jr (-1))=_;rw[StrLaws.sliceText_to_neg (by decide) (by rw[uE];omega),List.drop_zero,uE,mW,List.dropLast_eq_take];unfold sS;congr 3;omega
theorem Gw{m:Bool}{R:T->Prop}(h:1<=l.9)(y:l.9<=10):XA (.d (.str (sS l))) n (.d (.int (-1))) m R=R (.d (.str (sS [lst (sS l)]))):=by
 have x:PC (sS l).cps.toList (-1)=jr (lst (sS l)):=by unfold lst PC HS;rw[mW,ii (by decide),i0 ()];show l[_]?=_;rw[show((-1:Int)+l.9).toNat=l.9 - 1 by omega,QAm,Qf ()];rfl
 rw[Xw,x,OA,uE];exact i3 #[λh=>h.2,λh=>#[(),h]]
theorem c6{Q:T->LT->Prop}{z:Str}{w:Option Sl}(hk:z∈Bt++Ut)(q:Q (.d (.str (sS (YO z.cps.toList)))) []):oD Ψ (λ_=>False) (eZ Q).rt (.bin .Add (.slc (.var 0) .nop (.ng 1)) (.idx (.var 1) (.bin .Mod (.bin .Add (.mt .index (.var 1) %[.idx (.var 0) (.ng 1)|1]) (.int 13)) (.int 26)))) [bD (.str z),bD (.str lH),w]:=by
 have k:=qA.mp E8 z hk;unfold my at k;rw[Qa,Qa,Qa,Qa,o2,o2,o2,o2,beq_iff_eq]at k;let#[#[#[#[x,v],g],f],h]:=k;have e:z=sS z.cps.toList:=rfl;generalize hl:z.cps.toList=l at *;subst e;rw[uE]at x v;cases y:qF lH (sS [lst (sS l)]) 0 lH.length 1 with|nil=>rw[y]at h;cases h|cons i u=>rw[y]at h;have h:i=lst (sS l) - 97:=Qn h;unfold YO at q;rw[i0 hk,<- h]at q;rw[Ra,vb,IK];simp![↓xz];refine#[by rw[uE];omega,?_];rw[n6 x];refine jAE y (λK=>rfl) (λK=>?_) ?_;exact Gw x v;simp![↓kA];exact D8 (uV (a:=l.dropLast) (b:=[PB ((i:Int)+13)]) (P:=λs=>Q (.d (.str s)) []) (by rw[wb];show _+1<=_;omega) q)
theorem N7:GD Ψ FK SF lQ jN:=by rintro _ Q _ ⟨l,rfl,hl,q⟩;refine vA [bD (.str (sS l)),kv,kv] ?_;delta FK;simp_arith![↓kA];refine#[(),?_];show BL Ψ (λ_=>False) _ (eZ Q) 2 (.lst ((Bt.map j0).map T.d)) kf [bD (.str (sS l)),bD (.str lH),kv];rw[tw];simp![↓bv];rw[A8];refine#[.inl #[rfl,rZ _],?_];by_cases x:sS l∈Bt;rw[dT x];exact c6 (Qm _ x) q;rw[dF x];refine#[(),?_];show SB .In (.d (.str (sS l))) (.d (.list (Ut.map j0))) _;rw[da,A8];refine#[.inl #[rfl,rZ _],?_];by_cases h:sS l∈Ut;rw[dT h];exact c6 (QY _ h) q;rw[dF h];unfold YO at q;rw[ii λz=>(Qh.mp z).elim x h]at q;exact q
def BF(n:Int):LN:=mH (n * n+n) 8
def sH(n:Int):Int:=1+n / 3 % 8
def F5(n:Int):Int:=n / 24 % sH n
def BB(c:Int)(k:Nat):LN :=
 if fA c 1 % 3=0 then(BF (fA c 1)).take (F5 (fA c 1)).toNat++[PB (fA c 1 / 192+k)]++((BF (fA c 1)).drop (F5 (fA c 1)+1).toNat).take (sH (fA c 1) - (F5 (fA c 1)+1)).toNat
 else if fA c 1 % 3=1 then(BF (fA c 1)).take (1+(fA c 1 / 24+k) % 8).toNat
 else([PB (fA c 1 / 192+k)]++mH (fA c (k+2)) 7).take (1+fA c (k+40) % 8).toNat
theorem V5(n:Int):(1<=sH n/\sH n<=8)/\0<=F5 n/\F5 n<sH n:=by
 have a:=CA (n / 3) (show(0:Int)<8 by decide);have b:1<=sH n/\sH n<=8:=by unfold sH;omega
 exact#[b,CA _ ()]
theorem HV.take(h:HV l)(n:Nat):HV (l.take n):=λc hc=>h c (List.mem_of_mem_take hc)
theorem HV.drop(h:HV l)(n:Nat):HV (l.drop n):=λc hc=>h c (List.mem_of_mem_drop hc)
theorem HV.app(h:HV a)(g:HV b):HV (a++b):=λc hc=>(Qh.mp hc).elim (h c) (g c)
theorem C8(n:Int):HV [PB n]:=λc hc=>by rw[QJ.mp hc];exact xX n
theorem Lb(c:Int)(k:Nat):HV (BB c k):=by
 unfold BB;split;exact(((zH _ _).take _).app (C8 _)).app (((zH _ _).drop _).take _);split
 ·exact(zH _ _).take _
 exact((C8 _).app (zH _ _)).take _
theorem jAR(a b c:Nat):min a 8+1+min b (8 - c)<=17:=Nat.add_le_add (Nat.add_le_add_right (WI _ _) 1) (QU (WI _ _) (Nat.sub_le _ _))
theorem B5(c:Int)(k:Nat):(BB c k).9<=20:=by
 have b:(BF (fA c 1)).9=8:=gC _ _;unfold BB;split;rw[QI,QI,qI,qI,Wu,b];exact QU (jAR _ _ _) (by decide);split
 ·rw[qI,b];exact QU (WI _ _) (by decide)
 rw[qI,QI,gC];exact QU (WI _ (1+7)) (by decide)
theorem Hb{i j:Nat}(r:i<6)(q:j<6)(h:YO (BB c i)=YO (BB c j)):i=j:=by
 have key:∀(p:Nat) (a:Int),(∀k,(BB c k)[p]?=jr (PB (a+k)))->i=j:=λp a e=>by
  let#[u,f]:=z6 (e i);let#[v,o]:=z6 (e j);rw[h]at f;have l:∀{x y:Int},PB x=PB y->x % 26=y % 26:=λ{x y} e=>by have:=CA x (show(0:Int)<26 by decide);have:=CA y (show(0:Int)<26 by decide);unfold PB at e;omega
  have:=l (Qn (f.symm.trans o));omega
 have b:(BF (fA c 1)).9=8:=gC _ _;have ws:=V5 (fA c 1);by_cases z:fA c 1 % 3=0;refine key (F5 (fA c 1)).toNat (fA c 1 / 192) λk=>?_;unfold BB;have g:((BF (fA c 1)).take (F5 (fA c 1)).toNat).9=(F5 (fA c 1)).toNat:=by rw[qI,b];omega
 rw[i0 z,Q1,Qx (),g,QBV];rfl;by_cases w:fA c 1 % 3=1
 ·have e:=o9 qQ h
  rw[KY,KY]at e;have a:∀k,(BB c k).9=(1+(fA c 1 / 24+k) % 8).toNat:=λk=>by have:=CA (fA c 1 / 24+k) (show(0:Int)<8 by decide);unfold BB;rw[ii z,i0 w,qI,b];omega
  rw[a,a]at e;have:=CA (fA c 1 / 24+i) (show(0:Int)<8 by decide);have:=CA (fA c 1 / 24+j) (show(0:Int)<8 by decide);omega
 refine key 0 (fA c 1 / 192) λk=>?_;have m:=CA (fA c (k+40)) (show(0:Int)<8 by decide);unfold BB;rw[ii z,ii w];obtain⟨t,e⟩:∃t,(1+fA c (k+40) % 8).toNat=t+1:=#[(fA c (k+40) % 8).toNat,()]
 rw[e];rfl
def yF(c:Int)(m:Nat):LS:=if fA c 1 / 5000 % 2=1 then((Qj m).map λk=>sS (YO (BB c k))).reverse else(Qj m).map λk=>sS (YO (BB c k))
theorem RS(c:Int){m:Nat}(h:m<=6):(yF c m).Nodup/\(yF c m).9=m/\∀x∈yF c m,OkS x:=by
 have nd:((Qj m).map λk=>sS (YO (BB c k))).Nodup:=by refine QAr.mpr (wo (λ{i j} v u z e=>z ?_) QCg);have:=qK.mp v;have:=qK.mp u;exact Hb () () (Jk e)
 have ok:∀x∈(Qj m).map λk=>sS (YO (BB c k)),OkS x:=λx y=>by let#[k,_,rfl]:=QZ.mp y;exact zh (Pj (Lb c k))
 unfold yF;split;exact#[(List.reverse_perm _).nodup_iff.mpr nd,by rw[wM,QD,Qw],λx y=>ok x (QCh.mp y)];exact#[nd,by rw[QD,Qw],ok]
def KI:PSp where
 run:=λh Q _=>∃(c:Int) (m:Nat),h=[.d (.int c),.d (.int (m:Int)),.d (.int 8)]/\m<=10/\Q (.lst (((yF c m).map j0).map T.d)) []
theorem BM(h0:0<=j)(h:j<=l.9):w8 (sS l) kv (jr j)=sS (l.take j.toNat):=by show QAw (sS l) kv (jr j)=_;rw[StrLaws.sliceText_to #[h0,h],List.drop_zero,Int.sub_zero];rfl
theorem J1{i:Int}(h0:0<=i)(x:i<=j)(h:j<=l.9):w8 (sS l) (jr i) (jr j)=sS ((l.drop i.toNat).take (j - i).toNat):=by show QAw (sS l) (jr i) (jr j)=_;rw[StrLaws.sliceText_plain #[h0,x,h]];rfl
def C5(c:Int)(m:Int)(ws:LS)(x o10 h:Option Sl):xA:=[bD (.int c),bD (.int m),bD (.int 8),bD (.str lH),bD (.int (fA c 1)),bD (.str (sS (BF (fA c 1)))),bD (.int (sH (fA c 1))),bD (.int (F5 (fA c 1))),oW (.lst ((ws.map j0).map T.d)),x,o10,h]
theorem xq(x:Ψ.sp "_law_spelt"=SF){h:Option Sl}(hl:l.9<=20)(y:ws.length<=100)(q:Z.nx (C5 c m (ws++[sS (YO l)]) h o10 (bD (.str (sS l))))):pF Ψ uD Z (C5 c m ws h o10 (bD (.str (sS l)))):=by unfold C5 at q;rw[QM,QM]at q;delta C5;delta uD;simp![↓jA (md:=[]) x rfl rfl];refine#[_,rfl,(),?_];simp![QD];exact#[(),q]
theorem Tw(X:Ψ.sp "_law_spelt"=SF)(s:Ψ.sp "_law_mixed"=AF)(p:Ψ.sp "_law_letters"=yK){k:Nat}{h:Option Sl}(hk:k<=100)(f:ws.length<=100)(q:∀o10 h,Z.nx (C5 c m (ws++[sS (YO (BB c k))]) (bD (.int (k:Int))) o10 h)):pF Ψ iG Z (C5 c m ws (bD (.int (k:Int))) o10 h):=by
 have v:(BF (fA c 1)).9=8:=gC _ _;have g:=V5 (fA c 1);have r:∀(l:LN) (o10:Option Sl),l=BB c k->pF Ψ uD Z (C5 c m ws (bD (.int (k:Int))) o10 (bD (.str (sS l)))):=by rintro l o10 rfl;exact xq X (B5 c k) f (q _ _)
 delta C5;delta iG;simp![↓gY];refine D8 ?_;have w:(sS (BF (fA c 1))).9<=sizeLine:=by rw[uE,v];omega
 by_cases y:fA c 1 % 3=0;have x:w8 (sS (BF (fA c 1))) kv (jr (F5 (fA c 1)))=_:=BM g.2.1 ();have i:w8 (sS (BF (fA c 1))) (jr (F5 (fA c 1)+1)) (jr (sH (fA c 1)))=_:=J1 () () ();have r:=r _ (bD (.str (sS [PB (fA c 1 / 192+k)]))) (show _=BB c k from(i0 y).symm);rw[<- FM,<- FM]at r;rw[i0 (dT y)];simp![↓IK,↓vz,↓uz,↓Cc,x,i];refine#[w,(uV (P:=λ_=>True) (b:=[PB (fA c 1 / 192+k)]) (by rw[qI,v];show _+1<=_;omega) trivial).1,w,?_,r];rw[show(#[(Q3 [PB (fA c 1 / 192+k)])]:Str)=sS [PB (fA c 1 / 192+k)] from rfl,FM];refine(uV (P:=λ_=>True) ?_ trivial).1;rw[QI,qI,qI,Wu,v];exact QU (jAR _ _ _) (by decide);rw[ii λz=>y (ot z)];by_cases u:fA c 1 % 3=1;have m:=CA (fA c 1 / 24+k) (show(0:Int)<8 by decide);have x:w8 (sS (BF (fA c 1))) kv (jr (1+(fA c 1 / 24+k) % 8))=_:=BM () ();have r:=r _ (bD (.str (sS [PB (fA c 1 / 192+k)]))) (show _=BB c k from((ii y).trans (i0 u)).symm);rw[i0 (dT u)];simp![↓IK,↓fu,↓Cc,x];exact#[w,r];have m:=CA (fA c (k+40)) (show(0:Int)<8 by decide);have o:([PB (fA c 1 / 192+k)]++mH (fA c (k+2)) 7).9=8:=by rw[QI,gC];rfl
 have x:w8 (sS ([PB (fA c 1 / 192+k)]++mH (fA c (k+2)) 7)) kv (jr (1+fA c (k+40) % 8))=_:=BM () ();have r:=r _ (bD (.str (sS [PB (fA c 1 / 192+k)]))) (show _=BB c k from((ii y).trans (ii u)).symm);rw[ii λz=>u (ot z)];simp_arith![↓IK,↓fu,↓Cc,↓jA (md:=[]) s rfl rfl,↓jA (md:=[]) p rfl rfl,↓OG,↓RQ];have e:(#[(Q3 [PB (fA c 1 / 192+k)])]:Str)++sS (mH (fA c (k+2)) (QCs 7))=sS ([PB (fA c 1 / 192+k)]++mH (fA c (k+2)) 7):=FM _ _;rw[e,x];refine#[(),(),(uV (a:=[PB (fA c 1 / 192+k)]) (b:=mH (fA c (k+2)) 7) (P:=λ_=>True) (by rw[gC];show 1+7<=_;omega) trivial).1,(),(),by rw[uE,o];omega,r]
theorem Hx{ds:List D}{Q:T->Bool->Prop}(q:Q (.lst (ds.reverse.map T.d)) kf):Zc (gA (.lst (ds.map T.d)) n).vw Q:=by rw[TC];exact#[_,ds,rfl,JA ds,q]
theorem M7(s:Ψ.sp "_law_spelt"=SF)(f:Ψ.sp "_law_mixed"=AF)(w:Ψ.sp "_law_letters"=yK):GD Ψ DK KI gQ IM:=by rintro _ Q _ ⟨c,m,rfl,hm,q⟩;have X:=V5 (fA c 1);have Y:=Fm c 1;refine vA [bD (.int c),bD (.int (m:Int)),bD (.int 8),kv,kv,kv,kv,kv,kv,kv,kv,kv] ?_;delta DK;simp![↓jA (md:=[]) f rfl rfl,↓jA (md:=[]) w rfl rfl,↓OG,↓RQ];refine#[bP.ok (.inl #[(),()]),(),(),(),(),?_];rw[qf];refine BA (λ(i:Nat)=>T.d (.int (i:Int))) (λr u=>∃ws v o10 h,ws++r.map (λk=>sS (YO (BB c k)))=(Qj m).map (λk=>sS (YO (BB c k)))/\(∀k∈r,k<=100)/\u=C5 c m ws v o10 h) ?_ ?_ _ _ #[[],kv,kv,kv,rfl,λk hk=>by have:=qK.mp hk;omega,rfl];rintro u ⟨ws,v,o10,h,e,_,rfl⟩;rw[wT,Qy]at e;subst e;delta C5;unfold yF at q;simp![↓kA];by_cases y:fA c 1 / 5000 % 2=1;rw[i0 y]at q;rw[i0 (dT y)];show Zc (gA (T.lst ((((Qj m).map λk=>sS (YO (BB c k))).map j0).map T.d)) kb).vw λz k=>uH z k=kf/\Q z [];refine Hx ?_;rw[<- W0];exact#[rfl,q];rw[ii y]at q;rw[ii λz=>y (ot z)];exact q;rintro k r u N p ⟨ws,v,o10,h,e,g,rfl⟩;have hl:=o9 qQ e;rw[QI,QD,QD,Qw]at hl;delta C5;refine Tw s f w (g k QF) () λo10 h=>p _ #[_,_,o10,h,?_,λx o=>g x (QE _ o),rfl];rw[Q1];exact e
def c7(x:Str)(m:Int):Str×Int×Int×Int:=(x,gI [99,50,20,99,0,50,99,21] (m / 6 % 8) 0,gI [0,0,0,20,50,99] (m % 6) 0,gI [1,1,1,2,2,3] (m / 48 % 6) 0)
def bW:PSp where
 run:=λh Q _=>∃(x:Str) (m:Int),h=[.d (.str x),.d (.int m)]/\Q (.d (zJ (c7 x m))) []
end
section
variable{a b c d e f g h:D}{n m:Bool}{t:T}{R:T->Prop}
theorem Lw:XA (.lst [.d a,.d b,.d c,.d d,.d e,.d f]) n t m R=XA (.lst ([a,b,c,d,e,f].map T.d)) n t m R:=rfl
theorem Hw:XA (.lst [.d a,.d b,.d c,.d d,.d e,.d f,.d g,.d h]) n t m R=XA (.lst ([a,b,c,d,e,f,g,h].map T.d)) n t m R:=rfl
end
section
variable{Ψ:PEv}{k j:Nat}{ms ns:LS}{m X i x:Int}{Z:PEnds}{s:Int×List Pt}{Y:Str}{n:Bool}{evs:List Evt}
theorem Al:GD Ψ lI bW nO uL:=by rintro _ Q _ ⟨x,m,rfl,q⟩;have z:=CA m (show(0:Int)<6 by decide);have y:=CA (m / 6) (show(0:Int)<8 by decide);have h:=CA (m / 48) (show(0:Int)<6 by decide);refine vA [bD (.str x),bD (.int m),kv,kv] ?_;delta lI;simp_arith![↓Lw,↓Hw];refine#[(),cE (f:=j1) (l:=[0,0,0,20,50,99]) 0 z.1 z.2 ?_];refine#[(),cE (f:=j1) (l:=[99,50,20,99,0,50,99,21]) 0 y.1 y.2 ?_];refine#[(),cE (f:=j1) (l:=[1,1,1,2,2,3]) 0 h.1 h.2 ?_];exact#[(),q]
def Ao(ms:LS)(m:Int)(j k:Nat):List Pt:=if m % 3=0 then[(gI ms (j:Int) "",gI ms (k:Int) "")] else if m % 3=1 then[(gI ms (k:Int) "",gI ms (j:Int) "")] else[]
def Sf(ms:LS)(j:Nat)(s:Int×List Pt)(k:Nat):Int×List Pt:=(s.1 / 3,s.2++Ao ms (s.1 / 3) j k)
def Tf(ms:LS)(s:Int×List Pt)(j:Nat):Int×List Pt:=(Qj j).foldl (Sf ms j) s
def Su(ms:LS)(m:Int):List Pt:=((Qj ms.9).foldl (Tf ms) (m,[])).2
theorem xS{α:Type}{l:List α}{d:α}(h:k<l.9):PC l (k:Int)=jr (gI l (k:Int) d)/\gI l (k:Int) d∈l:=kH (QCD k) ()
def BV(ms:LS)(l:List Pt):Prop:=∀p∈l,p.1∈ms/\p.2∈ms
theorem Da(y:j<ms.9)(hk:k<ms.9):BV ms (Ao ms m j k)/\(Ao ms m j k).9<=1:=by
 have a:=(xS (d:=("":Str)) y).2;have b:=(xS (d:=("":Str)) hk).2;unfold Ao;split;exact#[λp h=>by rw[QJ.mp h];exact#[a,b],QT _];split
 ·exact#[λp h=>by rw[QJ.mp h];exact#[b,a],QT _]
 exact#[λp h=>(by cases h),Qt _]
theorem dY{ms:LS}{j:Nat}(y:j<ms.9):∀(l:LN) (s:Int×List Pt),(∀k∈l,k<ms.9)->BV ms s.2->BV ms (l.foldl (Sf ms j) s).2/\(l.foldl (Sf ms j) s).2.length<=s.2.9+l.9
 |[],s,_,h=>#[h,QT _]|k::l,s,hl,h=>by let#[a,b]:=Da (m:=s.1 / 3) y (hl k QF);let#[c,d]:=dY y l (Sf ms j s k) (λx z=>hl x (QE _ z)) λp u=>(Qh.mp u).elim (h p) (a p);refine#[c,QU d ?_];show(s.2++Ao ms (s.1 / 3) j k).9+l.9<=s.2.9+(l.9+1);rw[QI];omega
theorem Fa{ms:LS}(hm:ms.9<=10):∀(l:LN) (s:Int×List Pt),(∀k∈l,k<ms.9)->BV ms s.2->BV ms (l.foldl (Tf ms) s).2/\(l.foldl (Tf ms) s).2.length<=s.2.9+10 * l.9
 |[],s,_,h=>#[h,QT _]|j::l,s,hl,h=>by have y:=hl j QF;let#[a,b]:=dY y (Qj j) s (λk hk=>QAV (qK.mp hk) y) h;let#[c,d]:=Fa hm l (Tf ms s j) (λx z=>hl x (QE _ z)) a;rw[Qw]at b;refine#[c,QU d ?_];show((Qj j).foldl (Sf ms j) s).2.length+_<=s.2.9+10 * (l.9+1);omega
theorem Eo(hm:ms.9<=10)(m:Int):BV ms (Su ms m)/\(Su ms m).9<=100:=by
 let#[a,b]:=Fa hm (Qj ms.9) (m,[]) (λk hk=>qK.mp hk) λp h=>by cases h
 rw[Qw]at b;exact#[a,QU b (by show 0+_<=_;omega)]
def HQ:PSp where
 run:=λh Q _=>∃(ms:LS) (m:Int),h=[.d (.list (ms.map j0)),.d (.int m)]/\ms.9<=10/\Q (.lst (((Su ms m).map pr).map T.d)) []
noncomputable def Ca(ms:LS)(s:Int×List Pt)(o3 o4:Option Sl):xA:=[bD (.list (ms.map j0)),bD (.int s.1),oW (.lst ((s.2.map pr).map T.d)),o3,o4]
theorem Dz(w:j<ms.9)(hk:k<ms.9)(a:s.2.9<=1000)(q:Z.nx (Ca ms (Sf ms j s k) (bD (.int (j:Int))) (bD (.int (k:Int))))):pF Ψ eE Z (Ca ms s (bD (.int (j:Int))) (bD (.int (k:Int)))):=by
 have u:PC (ms.map j0) (k:Int)=jr (.str (gI ms (k:Int) "")):=by rw[UF,(xS (d:=("":Str)) hk).1];rfl
 have v:PC (ms.map j0) (j:Int)=jr (.str (gI ms (j:Int) "")):=by rw[UF,(xS (d:=("":Str)) w).1];rfl
 unfold Ca Sf Ao at q;delta Ca;delta eE;simp![↓gY];by_cases y:s.1 / 3 % 3=0;rw[i0 y,QM,QM]at q;rw[i0 (dT y)];simp![u,v,QD];exact#[(),(),q];rw[ii y]at q;rw[ii λz=>y (ot z)];by_cases h:s.1 / 3 % 3=1;rw[i0 h,QM,QM]at q;rw[i0 (dT h)];simp![u,v,QD];exact#[(),(),q];rw[ii h,Qy]at q;rw[ii λz=>h (ot z)];exact q
theorem Cz{o4:Option Sl}(z:j<ms.9)(hm:ms.9<=10)(hs:BV ms s.2)(b:s.2.9<=100)(q:∀o4,Z.nx (Ca ms (Tf ms s j) (bD (.int (j:Int))) o4)):pF Ψ aE Z (Ca ms s (bD (.int (j:Int))) o4):=by delta Ca;delta aE;simp![qf];refine#[(),(),?_];refine BA (λ(i:Nat)=>T.d (.int (i:Int))) (λr y=>∃h o4,r.foldl (Sf ms j) h=Tf ms s j/\(h.2.9+r.9<=200/\∀k∈r,k<ms.9)/\y=Ca ms h (bD (.int (j:Int))) o4) ?_ ?_ _ _ #[s,o4,rfl,#[by rw[Qw];omega,λk hk=>QAV (qK.mp hk) z],rfl];rintro y ⟨h,o4,e,_,rfl⟩;have e:h=Tf ms s j:=e;subst e;delta Ca;simp![↓kA];exact q _;rintro k r y N a ⟨h,o4,e,⟨v,u⟩,rfl⟩;have v:h.2.9+(r.9+1)<=200:=v;have hk:=u k QF;refine Dz z hk () (a _ #[_,_,e,#[?_,λx w=>u x (QE _ w)],rfl]);have:=(Da (ms:=ms) (m:=h.1 / 3) z hk).2;show(h.2++Ao ms (h.1 / 3) j k).9+r.9<=200;rw[QI];omega
theorem ye:GD Ψ ZG HQ UL yJ:=by rintro _ Q _ ⟨ms,m,rfl,hm,q⟩;refine vA [bD (.list (ms.map j0)),bD (.int m),kv,kv,kv] ?_;delta ZG;simp![QD,qf];refine#[(),(),(),?_];refine BA (λ(i:Nat)=>T.d (.int (i:Int))) (λr z=>∃h u y,r.foldl (Tf ms) h=(Qj ms.9).foldl (Tf ms) (m,[])/\(h.2.9+10 * r.9<=100/\BV ms h.2/\∀k∈r,k<ms.9)/\z=Ca ms h u y) ?_ ?_ _ _ #[(m,[]),kv,kv,rfl,#[by rw[Qw];show 0+_<=_;omega,(λp o=>by cases o),λk hk=>qK.mp hk],rfl];rintro z ⟨h,u,y,e,_,rfl⟩;have e:h.2=Su ms m:=o9 QBa e;delta Ca;simp![↓kA];rw[e];exact q;rintro j r z N W ⟨h,u,y,e,⟨g,f,w⟩,rfl⟩;have g:h.2.9+10 * (r.9+1)<=100:=g;have v:=w j QF;let#[a,b]:=dY v (Qj j) h (λk hk=>QAV (qK.mp hk) v) f;rw[Qw]at b;refine Cz v hm f () λy=>W _ #[_,_,y,e,#[?_,a,λx l=>w x (QE _ l)],rfl];show((Qj j).foldl (Sf ms j) h).2.length+10 * r.9<=100;omega
noncomputable def Hg(Y:Str)(X:Int)(s:Str×LS):Evt->Str×LS
 | .see _ _ _ _=>s|.tell _ a b m _ _=>if b=s.1/\m=Y/\(s.2.9:Int)<X then(a,s.2++[a]) else s
theorem P6{s:Str×LS}{t:Int}{a b m w:Str}{q:LS}:Hg Y X s (.tell t a b m w q)=if b=s.1/\m=Y/\(s.2.9:Int)<X then(a,s.2++[a]) else s:=rfl
def Sx(evs:List Evt)(x Y:Str)(X:Int):LS:=(evs.reverse.foldl (Hg Y X) (x,[])).2
def aJ(evs:List Evt):T:=.lst ((evs.map IB).map T.d)
def VM:PSp where
 md:=[.shal]
 run:=λh Q _=>∃(evs:List Evt) (x Y:Str) (X:Int),h=[aJ evs,.d (.str x),.d (.str Y),.d (.int X)]/\evs.9<=1000/\Q (.d (.tuple ((Sx evs x Y X).map j0))) []
def Vp(evs:List Evt)(x Y:Str)(X:Int)(s:Str×LS)(o6:Option Sl):xA:=[jr (.bor (aJ evs)),bD (.str x),bD (.str Y),bD (.int X),oW (.lst ((s.2.map j0).map T.d)),bD (.str s.1),o6]
theorem uh{ds:List D}{Q:T->Bool->Prop}:dM .tuple [(.lst (ds.map T.d),n)] Q=Q (.d (.tuple ds)) false:=by unfold dM CB;rw[TC];show vY .tuple [.ls (ds.map T.d)] Q=_;rw[Th];exact i3 #[λ#[_,e,q]=>by rw[JA]at e;cases e;exact q,λq=>#[_,JA _,q]]
theorem Tx{x:Str}{s:Str×LS}{e:Evt}(hl:s.2.9<=10000)(q:Z.nx (Vp evs x Y X (Hg Y X s e) (bD (IB e)))):pF Ψ yE Z (Vp evs x Y X s (bD (IB e))):=by
 delta Vp;cases e with|see t p m v=>delta yE;simp![↓EJ,GV];exact AC (show decide ((QV "see")=(QV "tell"))≠kf by decide) q|tell t a b m v w=>rw[P6]at q;delta yE;simp![↓EJ,GV,↓Y5,↓pY,↓oY,QD];by_cases u:b=s.1;rw[i0 (dT u)];by_cases y:m=Y;rw[i0 (dT y)];by_cases h:(s.2.9:Int)<X;rw[i0 #[u,y,h]]at q;unfold Vp at q;rw[QM,QM]at q;rw[i0 (dT h)];exact#[(),q];rw[ii λz=>h z.2.2]at q;rw[ii λz=>h (ot z)];exact q;rw[ii λz=>y z.2.1]at q;rw[ii λz=>y (ot z)];exact q;rw[ii λz=>u z.1]at q;rw[ii λz=>u (ot z)];exact q
theorem Uc(Y:Str)(X:Int)(s:Str×LS)(e:Evt):(Hg Y X s e).2.length<=s.2.9+1:=by
 cases e with|see t p m h=>exact qd _|tell t a b m h q=>rw[P6];split;show(s.2++[a]).9<=_;rw[QI];exact QT _;exact qd _
theorem P7:GD Ψ GK VM mQ yN:=by rintro _ Q _ ⟨evs,x,Y,X,rfl,hl,q⟩;refine vA [jr (.bor (aJ evs)),bD (.str x),bD (.str Y),bD (.int X),kv,kv,kv] ?_;delta aJ;delta GK;simp![↓kA];refine#[(),?_];rw[<- W0,<- oA IB];refine BA (λe=>T.d (IB e)) (λr h=>∃s y,r.foldl (Hg Y X) s=evs.reverse.foldl (Hg Y X) (x,[])/\s.2.9+r.9<=1000/\h=Vp evs x Y X s y) ?_ ?_ _ _ #[(x,[]),kv,rfl,by rw[wM];show 0+_<=_;omega,rfl];rintro h ⟨s,y,e,_,rfl⟩;have e:s.2=Sx evs x Y X:=o9 QBa e;delta Vp;simp![↓uh];rw[e];exact q;rintro ev r h N z ⟨s,y,e,g,rfl⟩;have g:s.2.9+(r.9+1)<=1000:=g;have:=Uc Y X s ev;exact Tx () (z _ #[_,_,e,(),rfl])
def Gv(ns ms:LS):Evt->Prop
 | .see _ p m h=>p∈ns/\m∈ms/\OkS h|.tell _ a b m h q=>a∈ns/\b∈ns/\m∈ms/\a≠b/\OkS h/\∀x∈q,x∈ns
theorem R6{ns ms:LS}{Y:Str}{X:Int}:∀(l:List Evt) (s:Str×LS),(∀e∈l,Gv ns ms e)->(∀x∈s.2,x∈ns)->∀x∈(l.foldl (Hg Y X) s).2,x∈ns
 |[],s,_,h=>h|e::l,s,hl,h=>by
  refine R6 l (Hg Y X s e) (λx y=>hl x (QE _ y)) λx y=>?_;have u:=hl e QF;cases e with
  |see t p m z=>exact h x y|tell t a b m z q =>
   rw[P6]at y;split at y;rcases Qh.mp y with y|y
   ·exact h x y
   rw[QJ.mp y];exact u.1;exact h x y
def GL(ns:LS)(r:Int):Int:=r % (ns.9:Int)
noncomputable def td(ns:LS)(r:Int):Int:=(GL ns r+1+r / 360 % ((ns.9:Int) - 1)) % (ns.9:Int)
def gZ(ns:LS)(i:Int):Str:=gI ns i ""
def Bp(ms:LS)(r:Int):Str:=gI ms (r / 7 % (ms.9:Int)) ""
def Av(m:Int):Int:=gI [m / 3 % 5,m / 3 % 30,999999999 - m / 3 % 4] (m % 3) 0
def bq(r:Int):Str:=sS (mH r (1+r / 11 % 8).toNat)
def Ax(evs:List Evt)(ns ms:LS)(r:Int):LS:=if r / 10000 % 5=0 then(Qj (1+r / 2500 % 3).toNat).map λ(k:Nat)=>gZ ns ((r / 50000+2 * (k:Int)) % (ns.9:Int)) else Sx evs (gZ ns (GL ns r)) (Bp ms r) (r / 2500 % 4)
def iu(evs:List Evt)(ns ms:LS)(m:Int):Evt:=if m / 40 / 90 % 4=0 then .see (Av m) (gZ ns (GL ns (m / 40))) (Bp ms (m / 40)) (bq (m / 40)) else .tell (Av m) (gZ ns (GL ns (m / 40))) (gZ ns (td ns (m / 40))) (Bp ms (m / 40)) (bq (m / 40)) (Ax evs ns ms (m / 40))
structure NsB(ns ms:LS):Prop where
 n2:2<=ns.9
 nl:ns.9<=11
 nd:ns.Nodup
 m1:1<=ms.9
 ml:ms.9<=10
theorem fZ(h0:0<=i)(h:i<ns.9):gZ ns i∈ns:=(kH h0 h).2
theorem Zs(nd:ns.Nodup){j:Int}(w:0<=i)(z:i<ns.9)(y:0<=j)(h:j<ns.9)(l:i≠j):gZ ns i≠gZ ns j:=λe=>by let#[v,g,f]:=gM w z;let#[u,b,a]:=gM y h;unfold gZ gI at e;rw[g,b]at e;have e:v=u:=e;subst e;have:=(QCQ (i:=i.toNat) () nd).mp (f.trans a.symm);omega
theorem K7(h:2<=ns.9)(r:Int):(0<=GL ns r/\GL ns r<ns.9)/\(0<=td ns r/\td ns r<ns.9)/\GL ns r≠td ns r:=by
 have a:0<=GL ns r/\GL ns r<ns.length:=CA r ();have b:=CA (r / 360) (show(0:Int)<(ns.9:Int) - 1 by omega);have c:0<=td ns r/\td ns r<ns.length:=CA _ ();refine#[a,c,λe=>?_];unfold td at e;generalize r / 360 % ((ns.9:Int) - 1)=y at *;generalize GL ns r=o at *;have d:(o+1+y) % (ns.9:Int)=o+1+y∨(o+1+y) % (ns.9:Int)=o+1+y - ns.length:=by by_cases z:o+1+y<ns.9;left;exact QAx () z;right;rw[<- Int.sub_emod_right];exact QAx () ()
 omega
theorem su(hb:NsB ns ms)(w:∀e∈evs,Gv ns ms e)(m:Int):Gv ns ms (iu evs ns ms m):=by
 have v:=hb.n2;have f:=hb.m1;let#[a,b,c]:=K7 v (m / 40);have u:Bp ms (m / 40)∈ms:=by have:=CA (m / 40 / 7) (show(0:Int)<(ms.9:Int) by omega);exact(kH this.1 this.2).2
 have z:OkS (bq (m / 40)):=zh (zH _ _);unfold iu;split;exact#[fZ a.1 a.2,u,z];refine#[fZ a.1 a.2,fZ b.1 b.2,u,Zs hb.nd a.1 a.2 b.1 b.2 c,z,?_];unfold Ax;split;intro x y;let#[k,_,rfl]:=QZ.mp y;have:=CA (m / 40 / 50000+2 * (k:Int)) (show(0:Int)<(ns.9:Int) by omega);exact fZ this.1 this.2;exact R6 evs.reverse _ (λe h=>w e (QCh.mp h)) λx y=>by cases y
def CQ:PSp where
 md:=[.shal]
 run:=λh Q _=>∃(evs:List Evt) (ns ms:LS) (m:Int),h=[aJ evs,.d (.list (ns.map j0)),.d (.list (ms.map j0)),.d (.int m)]/\(evs.9<=1000/\NsB ns ms)/\Q (.d (IB (iu evs ns ms m))) []
theorem xy{a b c d e f g:D}:SD [.d a,.d b,.d c,.d d,.d e,.d f,.d g]=.d (.tuple [a,b,c,d,e,f,g]):=rfl
def jAT(evs:List Evt)(ns ms:LS)(m:Int)(h o10:Option Sl):xA:=[jr (.bor (aJ evs)),bD (.list (ns.map j0)),bD (.list (ms.map j0)),bD (.int m),bD (.int (Av m)),bD (.int (m / 40)),bD (.int (GL ns (m / 40))),bD (.str (Bp ms (m / 40))),bD (.str (bq (m / 40))),h,o10]
theorem Xj{m:Bool}{R:T->Prop}(h0:0<=i)(h:i<ns.9):XA (.d (.list (ns.map j0))) n (.d (.int i)) m R=R (.d (.str (gZ ns i))):=by rw[Gb,UF,(kH (d:=("":Str)) h0 h).1];exact OA
theorem Ju{Q:T->LT->Prop}{l:LS}(h:2<=ns.9)(q:Q (.d (IB (.tell (Av m) (gZ ns (GL ns (m / 40))) (gZ ns (td ns (m / 40))) (Bp ms (m / 40)) (bq (m / 40)) l))) []):pF Ψ JF (eZ Q) (jAT evs ns ms m (bD (.int (td ns (m / 40)))) (bD (.tuple (l.map j0)))):=by let#[a,b,c]:=K7 h (m / 40);delta jAT;delta JF;simp![↓Xj a.1 a.2,↓Xj b.1 b.2,↓xy];exact#[(),q]
theorem um(r:Ψ.sp "_law_letters"=yK)(p:Ψ.sp "_law_quote"=VM):GD Ψ MK CQ pQ vN:=by rintro _ Q _ ⟨evs,ns,ms,m,rfl,⟨hl,hb⟩,q⟩;have u:=hb.n2;have W:=hb.m1;let#[a,b,c]:=K7 u (m / 40);have e:=CA m (show(0:Int)<3 by decide);have B:=CA (m / 40 / 11) (show(0:Int)<8 by decide);have w:=CA (m / 40 / 7) (show(0:Int)<(ms.9:Int) by omega);refine vA [jr (.bor (aJ evs)),bD (.list (ns.map j0)),bD (.list (ms.map j0)),bD (.int m),kv,kv,kv,kv,kv,kv,kv] ?_;delta MK;simp_arith![QD,↓jA (md:=[]) r rfl rfl,↓RQ];refine#[(),cE (f:=j1) (l:=[m / 3 % 5,m / 3 % 30,999999999 - m / 3 % 4]) 0 e.1 e.2 ?_];refine#[(),(),cE (f:=j0) (l:=ms) "" w.1 w.2 #[(),(),?_]];unfold iu at q;by_cases y:m / 40 / 90 % 4=0;rw[i0 y]at q;rw[i0 (dT y)];exact cE (f:=j0) (l:=ns) "" a.1 a.2 #[(),q];rw[ii y]at q;rw[ii λz=>y (ot z)];refine#[(),(),?_];have g:0<=m / 40 % (ns.9:Int)/\m / 40 % (ns.9:Int)<ns.length:=a;delta aJ;simp_arith![↓jA (md:=[.shal]) p rfl rfl,↓Xj g.1 g.2];refine#[_,_,_,_,rfl,hl,?_];unfold Ax at q;simp_arith![↓kA];by_cases h:m / 40 / 10000 % 5=0;rw[i0 h]at q;rw[i0 (dT h)];have A:=CA (m / 40 / 2500) (show(0:Int)<3 by decide);refine#[(),(),?_];refine jB (λ(i:Nat)=>T.d (.int (i:Int))) (λi=>T.d (.str (gZ ns ((m / 40 / 50000+2 * (i:Int)) % (ns.9:Int))))) _ [] _ (λi K R o=>?_) (by rw[Qw];show 0+_<=_;omega) ?_;have v:=CA (m / 40 / 50000+2 * (i:Int)) (show(0:Int)<(ns.9:Int) by omega);simp![QD];exact#[bP.ok (.inl #[by decide,by decide]),(),cE (f:=j0) (l:=ns) "" v.1 v.2 o];rw[Qi,oA λ(i:Nat)=>j0 (gZ ns ((m / 40 / 50000+2 * (i:Int)) % (ns.9:Int)))];simp![↓uh];have q:=Ju (Ψ:=Ψ) (evs:=evs) u q;rw[Qb]at q;exact q;rw[ii h]at q;rw[ii λz=>h (ot z)];exact Ju u q
def Mp(m:Int)(s:LJ)(p:Int×Nat):LJ:=s.set ((p.2:Int) % m).toNat (gI s ((p.2:Int) % m) 0+p.1)
noncomputable def Lp(m:Int)(cs:LJ):LJ:=(Qj (if(cs.9:Int)<m then(cs.9:Int) else m).toNat).map λ_=>0
def Hn(m:Int)(cs:LJ):LJ:=cs.zipIdx.foldl (Mp m) (Lp m cs)
theorem FZ(m:Int)(cs:LJ):(Lp m cs).9=(if(cs.9:Int)<m then(cs.9:Int) else m).toNat:=by unfold Lp;rw[QD,Qw]
theorem Z9(m:Int):∀(l:List (Int×Nat)) (s:LJ),(l.foldl (Mp m) s).9=s.9
 |[],s=>rfl|p::l,s=>(Z9 m l (Mp m s p)).trans wL
theorem GZ(cs:LJ)(h:0<m):(Hn m cs).9<=m.toNat:=by unfold Hn;rw[Z9,FZ];split<;>omega
def zK:PSp where
 md:=[.shal]
 run:=λy Q _=>∃(h:LJ) (m:Int),y=[.lst ((h.map j1).map T.d),.d (.int m)]/\(0<m/\m<=100)/\Q (.lst (((Hn m h).map j1).map T.d)) []
noncomputable def Ln(cs:LJ)(m:Int)(s:LJ)(o3 o4:Option Sl):xA:=[jr (.bor (.lst ((cs.map j1).map T.d))),bD (.int m),oW (.lst ((s.map j1).map T.d)),o3,o4]
theorem mz{cs s:LJ}(hm:0<m)(hk:(k:Int) % m<s.9)(q:Z.nx (Ln cs m (Mp m s (x,k)) (bD (.int (k:Int))) (bD (.int x)))):pF Ψ iF Z (Ln cs m s (bD (.int (k:Int))) (bD (.int x))):=by have h0:=(CA (k:Int) hm).1;unfold Ln Mp at q;rw[List.map_set]at q;delta Ln;delta iF;simp![↓kA];refine#[hm,cE (f:=j1) (l:=s) 0 h0 hk ?_];simp![↓kA];exact#[hm,Yx h0 (by rw[QD];exact hk) q]
theorem K2:GD Ψ mI zK oO bL:=by
 rintro _ Q _ ⟨h,m,rfl,⟨h0,B⟩,q⟩;refine vA [jr (.bor (.lst ((h.map j1).map T.d))),bD (.int m),kv,kv,kv] ?_;have f:=FZ m h;have w:0<=(if(h.9:Int)<m then(h.9:Int) else m)/\(if(h.9:Int)<m then(h.9:Int) else m)<=100:=by split<;>omega
 delta mI;simp![QD];refine#[Ws (by decide) w.1,QCE w.2 (by decide),?_];refine jB (λ(i:Nat)=>T.d (.int (i:Int))) (λ_=>T.d (.int 0)) _ [] _ (λi K R g=>?_) (by rw[Qw];show 0+_<=_;omega) ?_;simp![↓kA];exact g;rw[Qi,oA λ(_:Nat)=>j1 0];have e:((Qj (if(h.9:Int)<m then(h.9:Int) else m).toNat).map λ_=>j1 0)=(Lp m h).map j1:=by unfold Lp;rw[Qb];rfl
 rw[e,JX];refine BA (Sn j1) (λr y=>∃s u z,r.foldl (Mp m) s=Hn m h/\(s.9=(Lp m h).9/\∀p∈r,p.2<h.9)/\y=Ln h m s u z) ?_ ?_ _ _ #[_,kv,kv,rfl,#[rfl,λp v=>by let#[_,A,_]:=QBW v;omega],rfl];rintro y ⟨s,u,z,e,_,rfl⟩;have e:s=Hn m h:=e;subst e;delta Ln;simp![↓kA];exact q;rintro⟨x,k⟩ r y N l ⟨s,u,z,e,⟨b,a⟩,rfl⟩;have W:k<h.length:=a (x,k) QF;have o:=CA (k:Int) h0;delta Ln Sn;rw[L4,iO];refine mz h0 ?_ (l _ #[_,_,_,e,#[wL.trans b,λp v=>a p (QE _ v)],rfl]);show(k:Int) % m<(s.9:Int);rw[b,f];by_cases c:(h.9:Int)<m;rw[i0 c,QAx () ()];omega;rw[ii c];omega
def DS(h:LJ):LS:=yF (sB h 0) (2+fA (sB h 0) 1 % 5).toNat
def v5(h:LJ):LS:=yF (sB h 1) (1+fA (sB h 1) 2 % 3).toNat
def Mg(c:Int)(ns:LS):List (Str×Int×Int×Int):=ns.zipIdx.map λp=>c7 p.1 (fA c (10+(p.2:Int)))
def Mn(ns ms:LS)(evs:List Evt)(p:Int×Nat):List Evt:=evs++[iu evs ns ms (fA p.1 ((p.2:Int)+3))]
def gw(h:LJ)(ns ms:LS):List Evt:=(Hn 18 (pH h (jr 2) kv)).zipIdx.foldl (Mn ns ms) []
def wF(h:LJ):Wd:=#[Mg (sB h 0) (DS h),v5 h,Su (v5 h) (fA (sB h 1) 2 / 3),gw h (DS h) (v5 h)]
theorem Zh{ns ms:LS}(hb:NsB ns ms):∀(l:List (Int×Nat)) (evs:List Evt),(∀e∈evs,Gv ns ms e)->(∀e∈l.foldl (Mn ns ms) evs,Gv ns ms e)/\(l.foldl (Mn ns ms) evs).9=evs.9+l.9
 |[],evs,h=>#[h,rfl]|p::l,evs,h=>by
  let#[a,b]:=Zh hb l (Mn ns ms evs p) λe y=>by rcases Qh.mp y with y|y;exact h e y;rw[QJ.mp y];exact su hb h _
  refine#[a,b.trans ?_];show(evs++[_]).9+l.9=evs.9+(l.9+1);rw[QI];show evs.9+1+l.9=_;omega
theorem ZT(c:Int)(ns:LS):((Mg c ns).map λp=>p.1)=ns:=by unfold Mg;rw[Qb];exact List.zipIdx_map_fst 0 ns
theorem jAQ(h:LJ):NsB (DS h) (v5 h)/\(∀x∈DS h,OkS x)/\(∀x∈v5 h,OkS x)/\(v5 h).Nodup:=by have a:=CA (fA (sB h 0) 1) (show(0:Int)<5 by decide);have b:=CA (fA (sB h 1) 2) (show(0:Int)<3 by decide);let#[v,y,u]:=RS (sB h 0) (m:=(2+fA (sB h 0) 1 % 5).toNat) ();let#[e,z,w]:=RS (sB h 1) (m:=(1+fA (sB h 1) 2 % 3).toNat) ();have y:(DS h).9=_:=y;have z:(v5 h).9=_:=z;exact#[#[(),(),v,(),()],u,w,e]
theorem U5(h:LJ):WOk (wF h):=by
 let#[hb,W,f,K]:=jAQ h;let#[l,C]:=Eo hb.ml (fA (sB h 1) 2 / 3);let#[B,g]:=Zh hb (Hn 18 (pH h (jr 2) kv)).zipIdx [] λ_ z=>by cases z
 have v:=ZT (sB h 0) (DS h);have r:=o9 qQ v;have y:∀x∈DS h,zj (wF h) x:=λx w=>by rw[<- v]at w;let#[p,u,e]:=QZ.mp w;exact#[p,u,e]
 rw[QD]at r;rw[QAY]at g;have fl:=GZ (pH h (jr 2) kv) (show(0:Int)<18 by decide);refine#[λp u=>#[f _ (l p u).1,f _ (l p u).2],C,by show(Mg _ _).9<=11;have:=hb.nl;omega,by show((Mg _ _).map _).Nodup;rw[v];exact hb.nd,λp u=>W _ ?_,hb.ml,f,K,?_,λe A=>?_];rw[<- v];exact QZ.mpr #[p,u,rfl];show(gw h (DS h) (v5 h)).9<=60;exact QU (w4 g) (by show 0+_<=60;omega);have:=B e A;cases e with|see t p m o=>exact#[y _ this.1,this.2]|tell t a b m o q=>exact#[y _ this.1,y _ this.2.1,this.2.2.1,this.2.2.2.1,this.2.2.2.2.1,λx w=>y x (this.2.2.2.2.2 x w)]
theorem HM{c:Int}{K:T->LT->Prop}{E:XE}(h0:0<=m)(h:m<=10)(q:K (.lst (((yF c m.toNat).map j0).map T.d)) []):CL KI [.d (.int c),.d (.int m),.d (.int 8)] K E:=by let#[k,rfl]:=Int.eq_ofNat_of_zero_le h0;exact#[_,_,rfl,(),q]
def uq(w:Wd):T:=.tup [.d (.list (w.ps.map zJ)),.d (.list (w.ms.map j0)),.lst ((w.ag.map pr).map T.d),.d (.list (w.es.map IB))]
theorem Vh(ds:List D):(T.lst (ds.map T.d)).er=.list ds:=by show PyData.list (ersT (ds.map T.d))=_;rw[fB]
theorem Kh(w:Wd):(uq w).er=wD w:=by show PyData.tuple [.list (w.ps.map zJ),.list (w.ms.map j0),(T.lst _).er,.list (w.es.map IB)]=_;rw[Vh];rfl
theorem Iz{E:XE}{r:PT}{i:Nat}{ρ:xA}{w:Wd}:BL Ψ E r Z i (uq w) kf ρ=tB Ψ E r Z (ρ.set i (bD (wD w))):=by unfold BL;rw[Kh];exact i3 #[λh=>h.2,λh=>#[rfl,h]]
def ZI:PSp where
 md:=[.shal]
 run:=λy Q _=>∃h:LJ,y=[.lst ((h.map j1).map T.d)]/\Q (uq (wF h)) []
def Uj(y:LJ)(f s:Int)(ns ms:LS)(h:List (Str×Int×Int×Int))(o6 o7 o8:Option Sl):xA:=[jr (.bor (.lst ((y.map j1).map T.d))),bD (.int f),bD (.int s),bD (.list (ns.map j0)),bD (.list (ms.map j0)),bD (.list (h.map zJ)),o6,o7,o8]
theorem Pw(u:Ψ.sp "_law_mixed"=AF)(z:Ψ.sp "_law_event"=CQ){y:LJ}{f s:Int}{h:List (Str×Int×Int×Int)}(hb:NsB ns ms)(hk:k<=100)(v:evs.9<=900)(q:Z.nx (Uj y f s ns ms h (oW (aJ (Mn ns ms evs (x,k)))) (bD (.int (k:Int))) (bD (.int x)))):pF Ψ eG Z (Uj y f s ns ms h (oW (aJ evs)) (bD (.int (k:Int))) (bD (.int x))):=by unfold Uj aJ Mn at q;rw[QM,QM]at q;delta Uj aJ;delta eG;simp![↓jA (md:=[]) u rfl rfl,↓jA (md:=[.shal]) z rfl rfl,↓OG];refine#[(),(),#[_,_,_,_,rfl,#[(),hb],?_]];simp![QD];exact#[(),q]
theorem Ts{a b c:D}{l:LT}:SD [.d a,.d b,.lst l,.d c]=.tup [.d a,.d b,.lst l,.d c]:=rfl
theorem L7(g:Ψ.sp "_law_mixed"=AF)(f:Ψ.sp "_law_cell_at"=BI)(l:Ψ.sp "_law_words"=KI)(I:Ψ.sp "_law_person"=bW)(G:Ψ.sp "_law_folded"=zK)(F:Ψ.sp "_law_event"=CQ)(E:Ψ.sp "_law_against"=HQ):GD Ψ CK ZI fQ EM:=by
 rintro _ Q _ ⟨h,rfl,q⟩;have a:=CA (fA (sB h 0) 1) (show(0:Int)<5 by decide);have b:=CA (fA (sB h 1) 2) (show(0:Int)<3 by decide);let#[hb,_]:=jAQ h;have J:=hb.nl;have A:=hb.ml;refine vA [jr (.bor (.lst ((h.map j1).map T.d))),kv,kv,kv,kv,kv,kv,kv,kv] ?_;delta CK;simp![↓jA (md:=[]) g rfl rfl,↓jA (md:=[.shal]) f rfl rfl,↓jA (md:=[]) l rfl rfl,↓OG,↓MI];refine HM () () ?_;simp![↓jA (md:=[.shal]) f rfl rfl,↓jA (md:=[]) l rfl rfl,↓MI];refine HM () () ?_;simp![↓kA];show vD _ ((((DS h).map j0).zipIdx.map λp=>T.d (.tuple [.int (p.2:Int),p.1]))) [] _;rw[JX];have K:=o9 qQ (ZT (sB h 0) (DS h));rw[QD]at K;refine jB (Sn j0) (λp=>T.d (zJ (c7 p.1 (fA (sB h 0) (10+(p.2:Int)))))) (DS h).zipIdx [] _ (λp y R B=>?_) (by rw[QAY];show 0+_<=_;omega) ?_;let#[x,k]:=p;let#[_,w,_]:=QBW y;delta Sn;simp![↓jA (md:=[]) g rfl rfl,↓jA (md:=[.shal]) f rfl rfl,↓jA (md:=[]) I rfl rfl,↓OG,↓MI];refine#[(),(),#[_,_,rfl,?_]];simp![↓kA];exact B;rw[Qi,oA λp:Str×Nat=>zJ (c7 p.1 (fA (sB h 0) (10+(p.2:Int))))];have e:((DS h).zipIdx.map λp=>zJ (c7 p.1 (fA (sB h 0) (10+(p.2:Int)))))=(Mg (sB h 0) (DS h)).map zJ:=by unfold Mg;rw[Qb];rfl
 rw[e];simp![↓jA (md:=[.shal]) G rfl rfl,RZ];refine#[(),#[_,_,rfl,by decide,?_]];have fl:=GZ (pH h (jr 2) kv) (show(0:Int)<18 by decide);simp![↓kA];rw[JX];refine BA (Sn j1) (λr z=>∃evs v u,r.foldl (Mn (DS h) (v5 h)) evs=gw h (DS h) (v5 h)/\(evs.9+r.9<=100/\∀p∈r,p.2<=100)/\z=Uj h (fA (sB h 0) 1) (fA (sB h 1) 2) (DS h) (v5 h) (Mg (sB h 0) (DS h)) (jr (.own (aJ evs))) v u) ?_ ?_ _ _ #[[],kv,kv,rfl,#[by rw[QAY];show 0+_<=_;omega,λp y=>by let#[_,w,_]:=QBW y;omega],rfl];rintro z ⟨evs,v,u,e,_,rfl⟩;have e:evs=gw h (DS h) (v5 h):=e;subst e;delta Uj aJ;simp![↓jA (md:=[]) E rfl rfl];rw[Vh];refine#[_,_,rfl,A,?_];simp![↓Ts];exact#[(),q];rintro⟨x,k⟩ r z N C ⟨evs,v,u,e,⟨W,o⟩,rfl⟩;have W:evs.9+(r.9+1)<=100:=W;delta Uj Sn;rw[L4,iO];refine Pw g F hb (o (x,k) QF) () (C _ #[_,_,_,e,#[?_,λp y=>o p (QE _ y)],rfl]);show(evs++[_]).9+r.9<=100;rw[QI];show evs.9+1+r.9<=100;omega
def VQ:PSp where
 run:=λh Q _=>∃(w:Wd) (st:List Stp),h=[.d (U3 w st)]/\st.9<=60/\Q (.lst (((st.map λs=>s.1).map nD).map T.d)) []
theorem Nd:GD Ψ UK VQ cQ TM:=by rintro _ Q _ ⟨w,st,rfl,hl,q⟩;refine vA [bD (U3 w st)] ?_;delta UK;simp![↓dg];rw[<- oA mP];refine jB (λs=>T.d (mP s)) (λs=>T.d (nD s.1)) st [] _ (λs hs R h=>?_) (by show 0+_<=_;omega) ?_;simp![↓Kw];exact h;rw[Qi,oA λs:Stp=>nD s.1];rw[show(st.map λs=>nD s.1)=(st.map λs=>s.1).map nD by rw[Qb];rfl];exact q
def Az(st:List Stp)(t:T):Prop:=(st=[]/\t=.lst [])∨t=.d (.list ((dJ st).map nD))
def fW:PSp where
 run:=λh Q _=>∃(w:Wd) (st:List Stp),h=[.d (U3 w st)]/\∀t,Az st t->Q t []
theorem zm:GD Ψ BK fW dQ AM:=by
 rintro _ Q _ ⟨w,st,rfl,h0⟩;refine vA [bD (U3 w st)] ?_;delta BK;simp![↓nv,↓dg,QD];rcases vW st with rfl|⟨l,s,rfl⟩
 refine AC (show decide (((qQ ([]:List Stp):Nat):Int) > 0)≠kf by decide) ?_;exact#[(),h0 _ (.inl #[rfl,rfl])];have h:=h0 _ (.inr rfl);rw[HR]at h;refine uM (dT (by rw[QI];show(0:Int)<((l.9+1:Nat):Int);omega)) ?_;rw[QM,show PC (l.map mP++[s].map mP) (-1)=jr (mP s) from EZ _ _,OA];simp![↓Ep];exact h
noncomputable def Ja:Evt->Pt
 | .see _ p m _=>(p,m)|.tell _ _ b m _ _=>(b,m)
end
section
variable{n:Bool}{L:Bool->Prop}{Ψ:PEv}{E:XE}{ρ:xA}
section
variable{i j t:Int}{Q:T->Bool->Prop}{a y u:Str}
theorem gu{x:D}{K:TK}:Y1 (.d x) n Ψ (.int i) (.int j) E ρ K=EF (.d x) n (jr i) (jr j) λz k=>K z k ρ:=by cases n<;>rfl
theorem Aq{ds:List D}(h:¬ (HT.sIx ds.9 0 (jr i)=0/\HT.sIx ds.9 ds.9 (jr j)=ds.9)):EF (.d (.tuple ds)) n (jr i) (jr j) Q=Q (.d (.tuple (pH ds (jr i) (jr j)))) false:=by
 unfold EF;rw[pA];show HI (.tp (ds.map T.d)) (jr i) (jr j) Q=_;refine i3 #[λh=>?_,λq=>.inr (.inr #[_,_,rfl,JA _,h,q])];rcases h with⟨_,e,_⟩| ⟨_,_,e,_⟩| ⟨_,ds,e,x,_,h⟩
 cases e;cases e;cases e;rw[JA]at x;cases x;exact h
theorem Fx{b:Str}{q:LS}:EF (.d (IB (.tell t a b y u q))) n (jr 3) (jr 5) Q=Q (.d (pr (b,y))) false:=Aq (by show ¬ (HT.sIx 7 0 (jr 3)=0/\HT.sIx 7 7 (jr 5)=7);decide)
theorem Gx:EF (.d (IB (.see t a y u))) n (jr 2) (jr 4) Q=Q (.d (pr (a,y))) false:=Aq (by show ¬ (HT.sIx 5 0 (jr 2)=0/\HT.sIx 5 5 (jr 4)=5);decide)
theorem zY{p q:Pt}(z:OkS p.1/\OkS p.2)(x:OkS q.1/\OkS q.2):SB .Eq (.d (pr p)) (.d (.tuple [.str q.1,.str q.2])) L=L (decide (p=q)):=by show(JE (pr p)/\JE (pr q)/\L (Ql (pr p) (pr q)))=_;rw[cS];exact i3 #[λh=>h.2.2,λh=>#[yD z.1 z.2,yD x.1 x.2,h]]
end
end
section
variable{w:Wd}{u:LN}{n:Nat}{t:Int}{m y:Str}
theorem Sh(x:WOk w){e:Evt}(h:jb w e):OkS (Ja e).1/\OkS (Ja e).2:=by
 cases e with|see t p m y=>exact#[x.nm h.1,x.mo _ h.2.1]|tell t a b m y q=>exact#[x.nm h.2.1,x.mo _ h.2.2.1]
def aq(w:Wd)(u:LN)(p:Pt):LN:=u.filter λn=>decide (Ja (sA w.es n)=p)
def uW:PSp where
 run:=λh Q _=>∃(w:Wd) (st:List Stp) (p:Pt),h=[.d (U3 w st),.d (.str p.1),.d (.str p.2)]/\(WOk w/\(∀s∈st,StK w s)/\OkS p.1/\OkS p.2)/\Q (.lst (((aq w (dJ st) p).map nD).map T.d)) []
theorem Ol{Ψ:PEv}(i:Ψ.sp "live_in"=fW):GD Ψ rF uW HJ aH:=by rintro _ Q _ ⟨w,st,p,rfl,⟨v,hs,k⟩,q⟩;let#[l,f]:=kX hs;refine vA [bD (U3 w st),bD (.str p.1),bD (.str p.2),kv] ?_;delta rF;simp![↓fg,↓MS,↓jA (md:=[]) i rfl rfl];refine#[_,_,rfl,λt z=>?_];rcases z with⟨e,rfl⟩| rfl;subst e;refine#[rfl,?_];show rK .val [(.lst (([]:List D).map T.d),kf)] _;simp![↓kA];exact#[by show 0<=_;omega,q];refine#[rfl,?_];simp![↓kA];rw[<- oA nD];refine nA (λn=>T.d (nD n)) (λn=>T.d (nD n)) (λn=>decide (Ja (sA w.es n)=p)) (dJ st) [] _ (λn g R h=>?_) (by show 0+_<=_;omega) ?_;let#[x,t,a,b,m,y,j,e]:=f n g;have ok:=Sh v (v.ev x);rw[e]at ok h;simp![↓tQ x,e,↓IK,↓gu,↓Fx,↓zY (p:=(b,m)) ok k];simp![QS,wT,↓zY (p:=(b,m)) ok k];refine#[(),?_];have h:R (if decide ((b,m)=p)=kf then jr (T.d (nD n)) else kv):=h;split at h;rename_i c;rw[i0 c];exact h;rename_i c;rw[ii c];exact h;rw[Qi,oA nD];exact q
def TQ(w:Wd)(u:LN)(p:Pt)(n:Nat):Option Str:=match sA w.es n with
 | .see _ x m y=>if(x,m)=p then jr y else kv|.tell _ _ b m y _=>if(b,m)=p/\n∈u then jr y else kv
theorem Bg{p:Pt}{x:Str}(e:sA w.es n=.see t x m y):TQ w u p n=if(x,m)=p then jr y else none:=by unfold TQ;rw[e]
theorem Ug{p:Pt}{a b:Str}{q:LS}(e:sA w.es n=.tell t a b m y q):TQ w u p n=if(b,m)=p/\n∈u then jr y else none:=by unfold TQ;rw[e]
def gg(w:Wd)(u:LN)(p:Pt)(n:Nat):Option (Nat×Str):=(TQ w u p n).map λy=>(n,y)
def db(w:Wd)(u:LN)(p:Pt)(ns:LN):List (Nat×Str):=ns.filterMap (gg w u p)
def LL(x:Nat×Str):D:=.tuple [nD x.1,.str x.2]
end
section
variable{n:Nat}{L:Bool->Prop}{l:LN}
theorem D9(x y:Nat):Ql (nD x) (nD y)=decide (x=y):=(Pn _ _).trans (decide_eq_decide.mpr Int.ofNat_inj)
theorem Lh:SB .In (.d (nD n)) (.d (.list (l.map nD))) L=L (decide (n∈l)):=by
 show(((rB (nD n)=kf/\(l.map nD).all rB=kf)∨(JE (nD n)/\JE (.list (l.map nD))))/\L ((l.map nD).any λy=>Ql y (nD n)))=_;have e:((l.map nD).any λy=>Ql y (nD n))=decide (n∈l):=by rw[QBU,Qz,wx,o2];refine#[λ#[x,u,h]=>?_,λh=>#[n,h,?_]];have h:Ql (nD x) (nD n)=true:=h;rw[D9]at h;exact ot h▸u;show Ql (nD n) (nD n)=kf;rw[D9];exact dT rfl
 rw[e];exact i3 #[λh=>h.2,λh=>#[.inl #[rfl,qA.mpr λy z=>by let#[x,_,rfl]:=QZ.mp z;rfl],h]]
end
section
variable{t:Int}{a k u:Str}{n m:Bool}{R:T->Prop}{Ψ:PEv}{w:Wd}{p:Pt}{v:LN}
def xW:PSp where
 run:=λh Q _=>∃(w:Wd) (st:List Stp) (p:Pt),h=[.d (U3 w st),.d (.str p.1),.d (.str p.2)]/\(WOk w/\(st.9<=60/\∀s∈st,StK w s)/\OkS p.1/\OkS p.2)/\Q (.lst (((db w (dJ st) p (st.map λs=>s.1)).map LL).map T.d)) []
def Mb(w:Wd)(st:List Stp)(p:Pt)(l:List (Nat×Str))(o6 o7:Option Sl):xA:=[bD (U3 w st),bD (.str p.1),bD (.str p.2),bD (.list (w.es.map IB)),bD (.list ((aq w (dJ st) p).map nD)),oW (.lst ((l.map LL).map T.d)),o6,o7]
theorem xg{b:Str}{q:LS}:XA (.d (IB (.tell t a b k u q))) n (.d (.int 5)) m R=R (.d (.str u)):=KA (i:=5) rfl
theorem ug:XA (.d (IB (.see t a k u))) n (.d (.int 4)) m R=R (.d (.str u)):=KA (i:=4) rfl
theorem mk_2{a b:D}:SD [.d a,.d b]=.d (.tuple [a,b]):=rfl
theorem Sw{Z:PEnds}{st:List Stp}{l:List (Nat×Str)}{n:Nat}{o7:Option Sl}(y:WOk w)(hs:∀s∈st,StK w s)(r:OkS p.1/\OkS p.2)(f:n<w.es.9)(hl:l.9<=1000)(q:∀o7,Z.nx (Mb w st p (l++(gg w (dJ st) p n).toList) (bD (nD n)) o7)):pF Ψ EC Z (Mb w st p l (bD (nD n)) o7):=by
 let#[Y,o]:=kX hs;have ok:=Sh y (y.ev f);have q:=q (bD (IB (sA w.es n)));have h:n∈aq w (dJ st) p↔n∈dJ st/\Ja (sA w.es n)=p:=by unfold aq;rw[Qc,o2]
 delta Mb;delta EC;simp![↓tQ f,↓Lh,↓gY];unfold gg at q;cases e:sA w.es n with
 |see t x m u =>
  rw[Bg e,e]at q;rw[e]at ok h;have j:¬ n∈dJ st:=λz=>by let#[_,_,_,_,_,_,_,g]:=o n z;rw[e]at g;cases g
  refine AC (λz=>j (h.mp (ot z)).1) ?_;simp![↓EJ,GV,↓IK,↓gu,↓Gx,↓zY (p:=(x,m)) ok r,↓ug,↓mk_2];by_cases c:(x,m)=p;rw[i0 c]at q;unfold Mb at q;rw[QM,QM]at q;rw[i0 (dT c),QD,QD];exact#[(),(),(),q];rw[ii c]at q;unfold Mb at q;rw[qj,QAZ,Qy]at q;rw[ii λz=>c (ot z)];exact#[(),q]
 |tell t a b m u X=>rw[Ug e,e]at q;rw[e]at ok h;by_cases c:n∈aq w (dJ st) p;refine uM (dT c) ?_;have i:=h.mp c;rw[i0 #[i.2,i.1]]at q;unfold Mb at q;rw[QM,QM]at q;simp![↓xg,↓mk_2,QD];exact#[(),(),q];refine AC (λz=>c (ot z)) ?_;rw[ii λz=>c (h.mpr #[z.2,z.1])]at q;unfold Mb at q;rw[qj,QAZ,Qy]at q;simp![↓EJ,GV];exact AC (show decide ((QV "tell")=(QV "see"))≠kf by decide) q
theorem Nl(A:Ψ.sp "tellers_in"=uW)(j:Ψ.sp "past_in"=VQ):GD Ψ pE xW DH zG:=by
 rintro _ Q _ ⟨w,st,p,rfl,⟨g,⟨f,hs⟩,i⟩,q⟩;refine vA [bD (U3 w st),bD (.str p.1),bD (.str p.2),kv,kv,kv,kv,kv] ?_;delta pE;simp![↓fg,↓MS,↓jA (md:=[]) A rfl rfl,↓jA (md:=[]) j rfl rfl];refine#[_,_,_,rfl,#[g,hs,i],?_];simp![↓jA (md:=[]) j rfl rfl];refine#[(),#[_,_,rfl,f,?_]];simp![↓kA];rw[<- oA nD];have Y:∀n∈st.map λs=>s.1,n<w.es.length:=λn W=>by let#[s,b,rfl]:=QZ.mp W;exact(hs s b).n
 have C:(st.map λs=>s.1).9<=60:=by rw[QD];exact f
 generalize (st.map λs=>s.1)=ns at *;refine BA (λn=>T.d (nD n)) (λr y=>∃l z h,l++r.filterMap (gg w (dJ st) p)=db w (dJ st) p ns/\(l.9+r.9<=60/\∀n∈r,n<w.es.9)/\y=Mb w st p l z h) ?_ ?_ _ _ #[[],kv,kv,rfl,#[by show 0+_<=_;omega,Y],rfl];rintro y ⟨l,z,h,e,_,rfl⟩;have e:l=db w (dJ st) p ns:=by rw[<- e];exact(Qy _).symm
 subst e;delta Mb;simp![↓kA];exact q;rintro n r y N K ⟨l,z,h,e,⟨X,o⟩,rfl⟩;have X:l.9+(r.9+1)<=60:=X;have B:(gg w (dJ st) p n).toList.9<=1:=by cases gg w (dJ st) p n<;>simp
 refine Sw g hs i (o n QF) () λh=>K _ #[_,_,h,?_,#[by rw[QI];omega,λx Z=>o x (QE _ Z)],rfl];rw[Q1,<- e,wK];cases gg w (dJ st) p n<;>rfl
def YQ:PSp where
 run:=λx Q _=>∃(w:Wd) (p:Pt),x=[.d (wD w),.d (.str p.1),.d (.str p.2)]/\(WOk w/\OkS p.1/\OkS p.2)/\∀h,SK w h->Q (.lst (((db w (dJ (nC w h).steps) p h).map LL).map T.d)) []
theorem Ml(f:Ψ.sp "wordings_in"=xW)(b:Ψ.sp "last_moment"=dW):GD Ψ oE YQ CH yG:=by rintro _ Q _ ⟨w,p,rfl,⟨h,z⟩,q⟩;refine vA [bD (wD w),bD (.str p.1),bD (.str p.2)] ?_;delta oE;simp![↓jA (md:=[]) f rfl rfl,↓jA (md:=[]) b rfl rfl];refine#[_,rfl,h,λy x=>?_];simp![↓Oz];let#[e,g]:=J9 h x;refine#[_,_,_,rfl,#[h,g,z],?_];rw[e];simp![↓kA];exact q y x
def UQ:PSp where
 run:=λy Q _=>∃w:Wd,y=[.d (wD w)]/\WOk w/\∀h,SK w h->∀t x,t.er=.tuple [.list ((dJ (nC w h).steps).map nD),.list x]->uH t kf=kf->Q t []
theorem Pd(b:Ψ.sp "gone"=jM):GD Ψ uO UQ iV iP:=by
 rintro _ Q _ ⟨w,rfl,x,q⟩;refine vA [bD (wD w),kv] ?_;delta uO;simp![↓jA (md:=[]) b rfl rfl];refine#[_,rfl,x,λh y=>?_];have q:=q h y;generalize (nC w h).steps=st at *;simp![QD];rcases vW st with rfl|⟨l,s,rfl⟩
 refine uM (by decide) ?_;refine#[(),(),(),?_];show NL [(T.lst (([]:List D).map T.d),kf),(T.lst (([]:List D).map T.d),kf)] _;simp![↓kA];exact q (.tup [.lst [],.lst []]) [] rfl rfl;rw[HR]at q;refine AC (λz=>?_) ?_;have:=ot z;rw[QI]at this;have:((l.9+1:Nat):Int)=0:=this;omega;rw[QM];have e:PC (l.map mP++[s].map mP) (-1)=jr (mP s):=EZ _ _;simp![e,OA,↓Ep,↓Zw,↓mk_2];exact#[(),q (.d (.tuple [.list (s.2.2.1.map nD),.list (s.2.2.2.map pr)])) _ rfl rfl]
def NI(w:Wd)(v:LN)(p:Pt)(n:Nat):Option (List Ky):=(TQ w v p n).map λu=>[.i (T0 (sA w.es n)),.i (n:Int),.s u]
noncomputable def Vm:List Ky->Nat×Str
 |[_,.i n,.s u]=>(n.toNat,u)|_=>(0,"")
theorem SQ{n:Nat}{r:List Ky}(h:NI w v p n=jr r):∃u,TQ w v p n=jr u/\r=[.i (T0 (sA w.es n)),.i (n:Int),.s u]:=by
 unfold NI at h;cases e:TQ w v p n with|none=>rw[e]at h;cases h|some u=>rw[e]at h;cases h;exact#[u,rfl,rfl]
theorem Yc{ns:LN}(h:ns.Pairwise (Nm w.es)):(ns.filterMap (NI w v p)).Pairwise Om:=by
 refine List.pairwise_filterMap.mpr (h.imp λ{a b} z r l q f=>?_);let#[x,j,rfl]:=SQ l;let#[y,g,rfl]:=SQ f;unfold Nm at z;show(if Ky.i (T0 (sA w.es b))=Ky.i (T0 (sA w.es a)) then(if Ky.i ((b:Nat):Int)=Ky.i ((a:Nat):Int) then(if Ky.s y=Ky.s x then kb else ly y x) else decide (((b:Nat):Int)<((a:Nat):Int))) else decide (T0 (sA w.es b)<T0 (sA w.es a)))=kb;split;rename_i c;injection c with c;split;rename_i c2;injection c2 with c2;have e:b=a:=()
 subst e;rw[j]at g;cases g;exact i0 rfl;rename_i c2;exact dF λo=>c2 (by rw[show b=a by omega]);exact dF ()
theorem Zu(es:List Evt):((es.map IB).zipIdx.map λp=>T.d (.tuple [.int (p.2:Int),p.1]))=(Qj es.9).map λn=>T.d (.tuple [nD n,IB (sA es n)]):=by apply qu;intro i;rw[QX,QX,QBg,QX,WP];by_cases c:i<es.9;rw[wO c,Qf c];show jr (T.d (.tuple [.int (i:Int),IB es[i]]))=jr (T.d (.tuple [nD i,IB (sA es i)]));unfold sA;rw[Qf c];rfl;rw[Q0 (QCd c),Q0 (by rw[Qw];omega)];rfl
def FQ:PSp where
 run:=λx Q _=>∃(w:Wd) (v:LN) (p:Pt) (h:LN),x=[.d (wD w),.d (.list (v.map nD)),.d (.str p.1),.d (.str p.2)]/\(WOk w/\mY w v/\SK w h)/\Q (.lst (((db w v p h).map LL).map T.d)) []
def dS(w:Wd)(v:LN)(p:Pt)(h:List (List Ky))(o5 o6:Option Sl):xA:=[bD (wD w),bD (.list (v.map nD)),bD (.str p.1),bD (.str p.2),oW (.lst ((h.map x5).map T.d)),o5,o6]
theorem Ap{e:Evt}:XA (.d (IB e)) n (.d (.int 1)) m R=R (.d (.int (T0 e))):=by
 cases e with|see t p k w=>exact KA (i:=1) rfl|tell t a b k w q=>exact KA (i:=1) rfl
end
section
variable{Ψ:PEv}{Z:PEnds}{w:Wd}{h:LN}{p:Pt}{y:List (List Ky)}{n:Nat}{t:Int}{a b x m u:Str}{v:LS}{o5:Option Sl}
theorem Bh(q:Z.nx (dS w h p y o5 (bD (IB (.see t x m u))))):pF Ψ JC Z (dS w h p y o5 (bD (IB (.see t x m u)))):=by delta dS;delta JC;simp![↓EJ,GV];exact AC (show decide ((QV "see")=(QV "tell"))≠kf by decide) q
theorem Ku(hl:y.9<=1000)(q:Z.nx (dS w h p (y++(if(b,m)=p/\n∈h then[[.i t,.i (n:Int),.s u]] else[])) (bD (nD n)) (bD (IB (.tell t a b m u v))))):pF Ψ JC Z (dS w h p y (bD (nD n)) (bD (IB (.tell t a b m u v)))):=by
 let#[j,g]:=p;delta dS;delta JC;simp![↓EJ,GV,↓pY,↓oY,↓xg,↓Ap,↓Lh,QD];have l:¬ ((b,m)=(j,g)/\n∈h)->Z.nx (dS w h (j,g) y (bD (nD n)) (bD (IB (.tell t a b m u v)))):=λc=>by rw[ii c,Qy]at q;exact q
 by_cases f:b=j;rw[i0 (dT f)];by_cases e:m=g;rw[i0 (dT e)];by_cases k:n∈h;rw[i0 (dT k)];rw[i0 #[by rw[f,e],k]]at q;unfold dS at q;rw[QM,QM]at q;exact#[(),(),q];rw[ii λz=>k (ot z)];exact l λz=>k z.2;rw[ii λz=>e (ot z)];exact l λz=>e (o9 QBa z.1);rw[ii λz=>f (ot z)];exact l λz=>f (o9 qp z.1)
theorem nz(hl:y.9<=1000)(q:Z.nx (dS w h p (y++(NI w h p n).toList) (bD (nD n)) (bD (IB (sA w.es n))))):pF Ψ bH Z (dS w h p y (bD (nD n)) (bD (IB (sA w.es n)))):=by
 unfold NI at q;cases e:sA w.es n with
 |see t x m u =>
  rw[Bg e,e]at q;let#[i,g]:=p;have j:¬ ((x,m)=(i,g))->pF Ψ JC Z (dS w h (i,g) y (bD (nD n)) (bD (IB (.see t x m u)))):=λc=>by rw[ii c,qj,QAZ,Qy]at q;exact Bh q
  delta dS at j;delta dS;delta bH;simp![↓EJ,GV,↓cg,↓K5,↓ug,↓Ap,QD];by_cases f:x=i;rw[i0 (dT f)];by_cases k:m=g;rw[i0 (dT k)];rw[i0 (by rw[f,k])]at q;have q:=Bh (Ψ:=Ψ) q;unfold dS at q;rw[QM,QM]at q;exact#[(),(),q];rw[ii λz=>k (ot z)];exact j λz=>k (o9 QBa z);rw[ii λz=>f (ot z)];exact j λz=>f (o9 qp z)
 |tell t a b m u v=>rw[Ug e,e]at q;have q:=Ku (Ψ:=Ψ) (p:=p) (t:=t) hl (by by_cases c:(b,m)=p/\n∈h;rw[i0 c]at q ⊢;exact q;rw[ii c]at q ⊢;exact q);unfold dS at q;delta dS;delta bH;simp![↓EJ,GV];exact AC (show decide ((QV "tell")=(QV "see"))≠kf by decide) q
end
section
variable{r:List Ky}{n m:Bool}{R:T->Prop}{t i:Int}{y:Str}
theorem Bw(h:r=[.i t,.i i,.s y]):XA (.d (x5 r)) n (.d (.int 1)) m R=R (.d (.int i)):=by rw[h];exact KA (i:=1) rfl
theorem Uw(h:r=[.i t,.i i,.s y]):XA (.d (x5 r)) n (.d (.int 2)) m R=R (.d (.str y)):=by rw[h];exact KA (i:=2) rfl
theorem lm{Ψ:PEv}:GD Ψ eS FQ Z0 KT:=by
 rintro _ Q _ ⟨w,h,p,u,rfl,⟨X,hv,j⟩,q⟩;have B:=X.el;refine vA [bD (wD w),bD (.list (h.map nD)),bD (.str p.1),bD (.str p.2),kv,kv,kv] ?_;delta eS;simp![↓MS];refine#[(),?_];rw[Zu];refine BA (λn=>T.d (.tuple [nD n,IB (sA w.es n)])) (λr v=>∃x b a,x++r.filterMap (NI w h p)=(Qj w.es.9).filterMap (NI w h p)/\x.9+r.9<=60/\v=dS w h p x b a) ?_ ?_ _ _ #[[],kv,kv,rfl,by rw[Qw];show 0+_<=_;omega,rfl];rintro v ⟨x,b,a,e,g,rfl⟩;have e:x=(Qj w.es.9).filterMap (NI w h p):=by rw[<- e];exact(Qy _).symm
 have g:x.9+0<=60:=g;delta dS;simp![↓kA];refine Ds () #[0,[0,1],by decide,λr z=>?_] λk f o=>?_;rw[e]at z;let#[n,_,z]:=WV.mp z;let#[_,_,rfl]:=SQ z;rfl;have s:u.Perm (Qj w.es.9):=by have:=j.1;rw[QD]at this;exact this
 have W:k=u.filterMap (NI w h p):=Ge (f.trans (by rw[e];exact(s.filterMap _).symm)) o (Yc (DW j));subst W;have A:=f.length_eq;simp![↓kA];rw[<- oA x5 (u.filterMap _)];refine jB (λr=>T.d (x5 r)) (λr=>T.d (LL (Vm r))) _ [] _ (λr z R l=>?_) (by show 0+_<=_;omega) ?_;let#[n,_,z]:=WV.mp z;let#[y,_,er]:=SQ z;simp![↓Bw er,↓Uw er,↓mk_2];rw[er]at l;exact#[(),l];rw[Qi,oA λr=>LL (Vm r)];have Z:((u.filterMap (NI w h p)).map λr=>LL (Vm r))=(db w h p u).map LL:=by unfold db;rw[QCF,QCF];congr 1;funext n;unfold NI gg;cases TQ w h p n<;>rfl
 rw[Z];exact q;rintro n r v N Y ⟨x,b,a,e,g,rfl⟩;have g:x.9+(r.9+1)<=60:=g;have K:(NI w h p n).toList.9<=1:=by cases NI w h p n<;>simp
 delta dS;rw[L4,iO];refine nz () (Y _ #[_,_,_,?_,by rw[QI];omega,rfl]);rw[Q1,<- e,wK];cases NI w h p n<;>rfl
noncomputable def lW:PSp where
 run:=λh Q _=>((∃i,h=[.d (.int i),.d (.int i)])∨∃z,h=[.d (.str z),.d (.str z)])/\Q (.d (.bool kf)) []
noncomputable def gW:PSp where
 run:=λh Q _=>∃x,h=[.d (LL x),.d (LL x)]/\Q (.d (.bool kf)) []
noncomputable def GQ:PSp where
 md:=[.shal]
 run:=λh Q _=>∃l:List (Nat×Str),h=[.lst ((l.map LL).map T.d),.d (.list (l.map LL))]/\l.9<=1000/\Q (.d (.bool kf)) []
end
section
variable{L:Bool->Prop}{ds:List D}{x:Str}{i:Int}{z:Str}
theorem My:NF (.bty x "bool") (.d (.str z)) L=L false:=nH rfl rfl
theorem Ly:NF (.bty x "bool") (.d (.tuple ds)) L=L false:=nH rfl rfl
theorem Ny:NF (.bty x "bool") (.d (.list ds)) L=L false:=nH rfl rfl
theorem Yy:NF (.bty x "str") (.d (.tuple ds)) L=L false:=nH rfl rfl
theorem Xy:NF (.bty x "str") (.d (.list ds)) L=L false:=nH rfl rfl
theorem Fy:NF (.bty x "int") (.d (.tuple ds)) L=L false:=nH rfl rfl
theorem Gy:NF (.bty x "int") (.d (.list ds)) L=L false:=nH rfl rfl
theorem Jy:NF (.bty x "tuple") (.d (.list ds)) L=L false:=nH rfl rfl
theorem Dy:NF (.bty x "list") (.d (.list ds)) L=L true:=nH rfl rfl
end
section
variable{Ψ:PEv}
theorem im:GD Ψ xC lW cH vF:=by rintro _ Q _ ⟨⟨i,rfl⟩| ⟨z,rfl⟩,q⟩;refine vA [bD (.int i),bD (.int i),kv] ?_;delta xC;simp![↓z0,↓K0,↓Oy,↓Uy,↓Hy];exact q;refine vA [bD (.str z),bD (.str z),kv] ?_;delta xC;simp![↓z0,↓K0,↓My,↓Vy];exact q
theorem am(h0:Ψ.sp "_law_alike"=lW):GD Ψ xC gW cH vF:=by
 rintro _ Q _ ⟨x,rfl,q⟩;refine vA [bD (LL x),bD (LL x),kv] ?_;have e:LL x=.tuple [nD x.1,.str x.2]:=rfl;rw[e];delta xC;simp![↓z0,↓K0,↓Ly,↓Yy,↓Fy,↓iy,↓By];refine#[by decide,by decide,?_];refine BA (λ(i:Nat)=>T.d (.int (i:Int))) (λr z=>∃o,(∀k∈r,k<2)/\z=[bD (.tuple [nD x.1,.str x.2]),bD (.tuple [nD x.1,.str x.2]),o]) ?_ ?_ _ _ #[kv,λk hk=>qK.mp hk,rfl];rintro z ⟨o,_,rfl⟩;simp![↓kA];exact q;rintro k r z N h ⟨o,hk,rfl⟩;have w:=hk k QF;have h:N [bD (.tuple [nD x.1,.str x.2]),bD (.tuple [nD x.1,.str x.2]),bD (.int (k:Int))]:=h _ #[_,λy v=>hk y (QE _ v),rfl];obtain rfl|rfl:k=0∨k=1:=()
 have u:PC [nD x.1,j0 x.2] ((0:Nat):Int)=jr (nD x.1):=rfl;delta zE;simp![↓jA (md:=[]) h0 rfl rfl,u,OA];exact#[.inl #[_,rfl],rfl,h];have u:PC [nD x.1,j0 x.2] ((1:Nat):Int)=jr (.str x.2):=rfl;delta zE;simp![↓jA (md:=[]) h0 rfl rfl,u,OA];exact#[.inr #[_,rfl],rfl,h]
theorem om(h0:Ψ.sp "_law_alike"=gW):GD Ψ xC GQ cH vF:=by rintro _ Q _ ⟨l,rfl,hl,q⟩;refine vA [jr (.bor (.lst ((l.map LL).map T.d))),bD (.list (l.map LL)),kv] ?_;delta xC;simp![↓z0,↓K0,↓Ny,↓Xy,↓Gy,↓Jy,↓Dy,↓Cy];rw[QD];refine#[(),(),?_];refine BA (λ(i:Nat)=>T.d (.int (i:Int))) (λr h=>∃o,(∀k∈r,k<l.9)/\h=[jr (.bor (.lst ((l.map LL).map T.d))),bD (.list (l.map LL)),o]) ?_ ?_ _ _ #[kv,λk hk=>by have:=qK.mp hk;omega,rfl];rintro h ⟨o,_,rfl⟩;simp![↓kA];exact q;rintro k r h N x ⟨o,hk,rfl⟩;have z:=hk k QF;have x:N [jr (.bor (.lst ((l.map LL).map T.d))),bD (.list (l.map LL)),bD (.int (k:Int))]:=x _ #[_,λy u=>hk y (QE _ u),rfl];have v:PC (l.map LL) (k:Int)=jr (LL l[k]):=kE (by rw[QX,Qf z];rfl);delta zE;simp![↓jA (md:=[]) h0 rfl rfl,v,OA];exact#[_,rfl,rfl,x]
noncomputable def Nk(w:Wd)(p:Str×Int×Int×Int):List Pt:=w.ms.map λm=>(p.1,m)
def VT(w:Wd):List Pt:=w.ps.flatMap (Nk w)
def Xr(w:Wd)(m:Int)(k:Nat):Pt:=gI (VT w) ((m+7 * (k:Int)) % ((VT w).9:Int)) ("","")
def yw(w:Wd)(m:Int):List Pt:=(Qj (if((VT w).9:Int)<3 then((VT w).9:Int) else 3).toNat).map (Xr w m)
theorem Pk{w:Wd}(z:WOk w)(m:Int):∀p∈yw w m,OkS p.1/\OkS p.2:=λp a=>by
 let#[k,hk,rfl]:=QZ.mp a;have hk:=qK.mp hk;have h0:0<((VT w).9:Int):=by split at hk<;>omega
 have d:=CA (m+7 * (k:Int)) h0;have:Xr w m k∈VT w:=(kH d.1 d.2).2;let#[x,v,h]:=WO.mp this;let#[y,u,e]:=QZ.mp h;rw[<- e];exact#[z.po x v,z.mo y u]
def XM:PSp where
 run:=λh Q _=>∃(w:Wd) (m:Int),h=[.d (wD w),.d (.int m)]/\WOk w/\Q (.lst (((yw w m).map pr).map T.d)) []
def yy(w:Wd)(m:Int)(l:List Pt)(o3:Option Sl):xA:=[bD (wD w),bD (.int m),oW (.lst ((l.map pr).map T.d)),o3]
theorem R7:GD Ψ HK XM nQ zN:=by
 rintro _ Q _ ⟨w,m,rfl,k,q⟩;have a:=k.pl;have b:=k.ml;refine vA [bD (wD w),bD (.int m),kv,kv] ?_;delta HK;simp![↓U0];refine#[(),?_];rw[<- oA zJ];refine BA (λp=>T.d (zJ p)) (λr h=>∃l x,l++r.flatMap (Nk w)=VT w/\l.9+10 * r.9<=110/\h=yy w m l x) ?_ ?_ _ _ #[[],kv,rfl,by show 0+_<=_;omega,rfl];rintro h ⟨l,x,e,g,rfl⟩;have e:l=VT w:=by rw[<- e];exact(Qy _).symm
 subst e;have g:(VT w).9+0<=110:=g;have v:0<=(if((VT w).9:Int)<3 then((VT w).9:Int) else 3)/\(if((VT w).9:Int)<3 then((VT w).9:Int) else 3)<=3:=by split<;>omega
 delta yy;simp_arith![QD];refine#[Ws (by decide) v.1,QCE v.2 (by decide),?_];refine jB (λ(i:Nat)=>T.d (.int (i:Int))) (λi=>T.d (pr (Xr w m i))) _ [] _ (λi z R u=>?_) (by rw[Qw];show 0+_<=_;omega) ?_;have z:=qK.mp z;have h0:0<((VT w).9:Int):=by split at z<;>omega
 have d:=CA (m+7 * (i:Int)) h0;simp![QD];exact#[bP.ok (.inl #[by decide,by decide]),h0,cE (f:=pr) (l:=VT w) ("","") d.1 d.2 u];rw[Qi,oA λi=>pr (Xr w m i)];have e:((Qj (if((VT w).9:Int)<3 then((VT w).9:Int) else 3).toNat).map λi=>pr (Xr w m i))=(yw w m).map pr:=by unfold yw;rw[Qb];rfl
 rw[e];exact q;rintro p r h N j ⟨l,x,e,g,rfl⟩;have g:l.9+10 * (r.9+1)<=110:=g;delta yy;delta YL;simp![↓Fb];rw[<- oA j0];refine jB (λy=>T.d (.str y)) (λy=>T.d (pr (p.1,y))) w.ms [] _ (λy o R u=>?_) (by show 0+w.ms.9<=_;omega) ?_;simp![↓B0];exact#[(),u];rw[Qi,oA λy=>pr (p.1,y)];have n:(w.ms.map λy=>pr (p.1,y))=(Nk w p).map pr:=by unfold Nk;rw[Qb];rfl
 have a:(Nk w p).9<=10:=by unfold Nk;rw[QD];exact b
 rw[n,<- QM,<- QM];refine#[by rw[QD,QD,QD,QD];omega,j _ #[l++Nk w p,_,?_,by rw[QI];omega,rfl]];rw[Q1];exact e
def lS(x:LJ)(w:Wd)(h:LN)(y:List D)(o4 o5 o6 o7:Option Sl):xA:=[jr (.bor (.lst ((x.map j1).map T.d))),bD (wD w),bD (.list (h.map nD)),bD (.list y),o4,o5,o6,o7]
theorem Hv{E:XE}{ρ:xA}{K:TK}{j:Nat}{ds:List D}(h:ρ[j]?=jr (jr (.own (.lst (ds.map T.d)))))(u:j<ρ.9)(q:K (.d .none) kf ((ρ.set j (jr (.bor (.lst (ds.map T.d))))).set j (jr (.own (.lst (ds.reverse.map T.d)))))):xB Ψ (.mt .reverse (.var j) .anil) E ρ K:=by show RC ρ[j]? λt=>XH .reverse t=kf/\zM Ψ .anil E [] (ρ.set j (jr (.bor t))) λy x=>mE y=kf/\x[j]?=jr (jr (.bor t))/\nK .reverse t (zF y) λr z=>K r kf (x.set j (jr (.own z)));rw[h];exact#[rfl,rfl,qX u,ds,rfl,rfl,q]
theorem gy(f:Ψ.sp "_law_due"=FQ)(u:Ψ.sp "wordings_of"=YQ)(z:Ψ.sp "_law_alike"=GQ){Z:PEnds}{k:LJ}{w:Wd}{ns:LN}{a:List D}{p:Pt}{o6 o7:Option Sl}(x:WOk w)(y:SK w ns)(b:OkS p.1/\OkS p.2)(q:∀o6 o7,Z.nx (lS k w (dJ (nC w ns).steps) a (bD (.str p.1)) (bD (.str p.2)) o6 o7)):pF Ψ fM Z (lS k w (dJ (nC w ns).steps) a (bD (.str p.1)) (bD (.str p.2)) o6 o7):=by let#[_,l,g]:=J9 x y;have e:=kX g;have j:=FW y;have m:=x.el;have i:(db w (dJ (nC w ns).steps) p ns).9<=ns.length:=List.length_filterMap_le _ _;delta lS;delta fM;simp![↓jA (md:=[]) f rfl rfl,↓jA (md:=[]) u rfl rfl,↓jA (md:=[.shal]) z rfl rfl];refine#[_,_,_,_,rfl,#[x,e,y],?_];simp![↓jA (md:=[]) u rfl rfl,↓jA (md:=[.shal]) z rfl rfl];refine#[_,_,rfl,#[x,b],λv h=>?_];cases v8 y h;simp![↓jA (md:=[]) u rfl rfl,↓jA (md:=[.shal]) z rfl rfl];refine#[_,rfl,(),rfl,?_];show xB Ψ (.mt .reverse (.var 7) .anil) _ _ _;refine Hv rfl (by show 7<8;omega) ?_;show pF Ψ %[.ife (.not (.call "_law_alike" %[.call "wordings_of" %[.var 1,.var 4,.var 5|1],.var 6|1])) %[.ret (.bl kb)|2] .nil|2] Z (lS k w (dJ (nC w ns).steps) a (bD (.str p.1)) (bD (.str p.2)) (bD (.list ((db w (dJ (nC w ns).steps) p ns).map LL))) (oW (.lst ((((db w (dJ (nC w ns).steps) p ns).map LL).reverse).map T.d))));delta lS;simp![↓jA (md:=[]) u rfl rfl,↓jA (md:=[.shal]) z rfl rfl];refine#[_,_,rfl,#[x,b],λv h=>?_];cases v8 y h;simp![↓kA];refine#[_,rfl,(),rfl,?_];exact q _ _
theorem xm(B:Ψ.sp "_law_due"=FQ)(A:Ψ.sp "wordings_of"=YQ)(W:Ψ.sp "_law_alike"=GQ)(l:Ψ.sp "_law_world"=ZI)(Z:Ψ.sp "_law_last"=UQ)(Y:Ψ.sp "_law_pairs"=XM)(X:Ψ.sp "_law_mixed"=AF)(s:Ψ.sp "_law_cell_at"=BI)(ds Q E)(h:bR.run ds Q E):jAg Ψ Ka bR Ii z7 ds Q:=by let#[y,hl,hb,rfl,q]:=h;refine vA [jr (.bor (.lst ((y.map j1).map T.d))),kv,kv,kv,kv,kv,kv,kv] ?_;have v:=U5 y;delta Ka;simp![↓jA (md:=[.shal]) l rfl rfl];refine#[_,rfl,?_];have b:∀{K:T->LT->Prop}{E:XE},K (uq (wF y)) []->CL ZI [.lst ((y.map j1).map T.d)] K E:=λq=>#[_,rfl,q];generalize wF y=w at *;simp![↓Iz,↓jA (md:=[]) Z rfl rfl];refine#[_,rfl,v,λi n t j C F=>#[rfl,?_]];rw[C,iO];show pF Ψ %[.for_ (.tp [4,5]) .val %[.call "_law_pairs" %[.var 1,.call "_law_mixed" %[.call "_law_cell_at" %[.var 0,.int 1|1],.int 91|1]|1]|1] fM,.ret (.cmp .Eq (.var 1) (.call "_law_world" %[.var 0|1]))|2] (eZ Q) (lS y w (dJ (nC w i).steps) j kv kv kv kv);delta lS;simp![↓jA (md:=[]) Y rfl rfl,↓jA (md:=[]) X rfl rfl,↓jA (md:=[.shal]) s rfl rfl,↓OG,↓MI];refine#[_,_,rfl,v,?_];simp![↓kA];rw[<- oA pr];refine BA (λp=>T.d (pr p)) (λr a=>∃f e u z,(∀p∈r,OkS p.1/\OkS p.2)/\a=lS y w (dJ (nC w i).steps) j f e u z) ?_ ?_ _ _ #[kv,kv,kv,kv,Pk v _,rfl];rintro a ⟨f,e,u,z,_,rfl⟩;delta lS;simp![↓jA (md:=[.shal]) l rfl rfl];refine b #[rfl,?_];show SB .Eq (.d (wD w)) (.d (uq w).er) λk=>Q (.d (.bool k)) [];rw[Kh];exact F9 (L:=λk=>Q (.d (.bool k)) []) (js v) q;rintro p r a N o ⟨f,e,u,z,g,rfl⟩;delta lS;rw[L4];show mV (.tp [4,5]) (.d (.tuple [.str p.1,.str p.2])) _ _;rw[iO];exact gy B A W v n (g p QF) λu z=>o _ #[_,_,u,z,λx m=>g x (QE _ m),rfl]
end
end L2.L3.K41
namespace L2.L3
open PySem PySem.Spec PyProof.Rows L2.L3.Q
section
variable{K:QA}{x:Str}{st:gi}
theorem rX{h:vu}:∀(y:List k0),(fw y h).In h
 |[],a,o,e=>nomatch e
 |b::y,a,o,e=>by
  unfold fw at e;rw[wK]at e;cases c:h.get? b with
  |none=>rw[c]at e;exact rX y a o e|some z =>
   rw[c]at e;have e:w6 a ((b,z)::fw y h)=jr o:=e;rw[qa]at e;cases d:a==b with|true=>rw[d]at e;cases e;rw[beq_iff_eq.mp d];exact c|false=>rw[d]at e;exact rX y a o e
theorem Fn{q:Str}{f:k0}{y:gm}{w:kn}{v:Option k0}{z:Array (Option kn)}(hl:K.lookup f=jr #[w,v,.func y,z])(h:Np y (Wm K y.code q&&wW K (.ref f))=Np (qk x q (UC st) (zC st) (MA st) .none .none .none .none kv .none .none) kf):∃y,Fun K x q st f y:=by let#[Y,X,s,r,p,o,n,m,l,j,i,g,e,b,a]:=y;unfold Np at h;injection h with h1 h2;injection h2 with h2 h3;injection h1 with b1 h1;injection h1 with b2 h1;injection h1 with b3 h1;injection h1 with b4 b5;injection h2 with c1 h2;injection h2 with c2 h2;injection h2 with c3 c4;let#[u,k]:=W6.mp h3;simp only at b1 b2 b3 b4 b5 c1 c2 c3 c4 u;subst b1 b2 b3 b4 b5 c1 c2 c3 c4;exact#[_,Gn hl u k]
theorem Y6(h:sX K x=CU x st)(y:(CU x st).isSome=kf):XV K x st:=by
 have z:CU x st=jr (Np (qk x x (UC st) (zC st) (MA st) .none .none .none .none kv .none .none) kf):=by cases st<;>first|rfl|cases y
 rw[z]at h;unfold sX at h;split at h;rename_i f hf;split at h;rename_i hl;let#[u,F]:=Fn hl (Qn h);exact#[f,u,hf,F];cases h;cases h
theorem ec(h:HW K x=kf):q0 K k5 x=jr none:=by unfold HW at h;split at h;assumption;cases h
theorem J6{i:Int}(h:Gj K x=jr i):dO K x (.int i):=by
 unfold Gj at h;split at h;rename_i u hu;cases u with|int j t=>cases h;exact#[_,_,hu,rfl,λ_=>.int i]|_=>cases h
 cases h
theorem kT:∀{us:LW}{xs:LS},us.map Fq=xs.map jr->us.map cO=xs.map λy=>jr (.str y)
 |[],[],_=>rfl|[],_::_,h=>by cases h|_::_,[],h=>by cases h|u::us,x::xs,h=>by
  injection h with h1 h2;rw[QS,QS,kT h2];cases u with|str z t=>cases h1;rfl|_=>cases h1
theorem V1{xs:LS}(h:Nj K x=jr (xs.map jr))(y:xs.9<=kt):dO K x (.tuple (xs.map j0)):=by unfold Nj at h;split at h;rename_i f hf;split at h;rename_i t od its n osl hl;split at h;rename_i et;subst et;injection h with h;exact M5 (its:=its.toList) hf (by simpa using hl) (kT h) y;cases h;cases h;cases h
theorem go_of(e:seen K=due):lG K tA=true:=(QAL (QAL (QAL (QAL e).2).2).2).2
end
section
variable{K:QA}{h:vu}{mg:Str->Option kn}{T:k0}
theorem XU(e:lG K T=kf)(X:K.In h)(G:h.Ns k5 mg):(∃f k w v z c,mg "going_order"=jr (.ref f)/\K.lookup f=jr #[k,w,.func v,z]/\v.code=.ref c/\QA8 K c T=kf)/\(∀y:vu,K.In y->y.BuiltinsAt mg T)/\K.lookup T=kv/\k5≠T:=by
 let#[u,e]:=zA e;let#[x,e]:=zA e;let#[g,a]:=zA e;refine#[?_,?_,QAl.mp g,bne_iff_ne.mp a];split at u
 ·rename_i f hf
  split at u;rename_i k w v z hl;split at u;rename_i c hc;exact#[f,k,w,v,z,c,WD X G hf,hl,hc,u];cases u;cases u
 cases u;intro y Y;split at x;rename_i b hb;split at x;rename_i t d z hl;let#[n,x]:=zA x;let#[m,x]:=zA x;let#[l,x]:=zA x;let#[j,i]:=zA x;exact#[b,_,WD X G hb,bne_iff_ne.mp l,bne_iff_ne.mp j,bne_iff_ne.mp i,Y _ _ hl,by rw[beq_iff_eq.mp n],by rw[beq_iff_eq.mp m],rfl];cases x;cases x
theorem Cn(e:lG K T=kf)(X:K.In h)(G:h.Ns k5 mg):∃v c,(∀x:vu,K.In x->∀P q,uQ mg x P q->P=T/\q=v)/\QA8 K c T=kf/\K.lookup T=none:=by let#[#[f,I,F,C,w,c,p,n,m,y],_,l,_]:=XU e X G;refine#[C.qualname++".<locals>.<lambda>",c,λx Y P q t=>?_,y,l];let#[M,o,B,N,A,W,Z,s,#[L,E,_,_,_,_,_,_,_,j,_,i,g,_],r]:=t;cases p.symm.trans A;have z:=W.symm.trans (Y _ _ n);cases z;cases Z;cases m.symm.trans s;let#[J,u,_,_,_,_,_,_,_,b,_,a,k,_]:=QAM Y y;cases j.symm.trans b;cases i.symm.trans a;cases g.symm.trans k;exact#[rfl,r]
end
theorem walk_seen{l:PySem.W.OpenLaw}{k:Nat}{q:vx}{loose:LS}{XP:(Str->Option kn)->vu->Prop}{YP:x0->vu->Prop}{d:DefRec}{x:Str}{Fs:QA->Prop}{T:k0}
  (hn:l.most=jr 63) (C:d.params.defaults=[]) (S:Room k l8) (hY:∀(w:x0) (h:vu),YP w h->∃K:QA,K.In h/\Fs K/\h.get? T=jr (QBn #[])) (B:∀K,Fs K->lG K T=kf)
  (F:∀(w:x0) (mg:Str->Option kn) (p:k0) (h:vu) (K:QA),K.In h->Fs K->lG K T=kf->h.Ns k5 mg->mg d.name=jr (.ref p) ->
   ∃E:gm,(∀(s:ku) (u:kn),l4 s E #[[u],[]] [(x,u)]) /\
    ∀y:vu,K.In y->y.Ns k5 mg->FnOk l.prog w K mg y i5 k p E [x] (lift K bR)) :
  PySem.W.WalkO q loose XP YP l.row.toRowW d [] (λf vs=>PySem.call f vs):=by
 intro w L J mg mb G Y p o pm cd doc dV kV ho hd hcd M A hg args I as j n R Z hlo;obtain rfl:dV=.none:=PySem.W.Dflts.none M C;obtain rfl:kV=.none:=PySem.W.Dflts.noKw M;let#[a,vs,P,rfl,rfl,m,i,v]:=Att.script_of hn j Z;let#[K,X,fs,Q]:=hY w _ Y;have N:=B K fs;let#[tq,c,g1,g2,g3]:=Cn N X G.T.g;let#[E,hb,hF]:=F w mg p _ K X fs N G.T.g A;refine PySem.W.enter_call (QCV (P8 g1 ((QAM X g2).tab Q) g3 X G.T.g G.T.b G.T.builtins G.T.nolimit hg m i (QU v (by decide)) S hF hb (λH hO hS=>Am _ H a P v (Of n) hS) λH e O=>λz=>z) λr O hq=>?_);let#[rfl,h2,h3,h4]:=hq;exact#[.inl #[.bool kf,.bool kf,[],rfl,λ_=>rfl,.bool kf,Att.post_true l _,λ_=>#[List.Pairwise.nil,λ_ hm=>(nomatch hm)]],h2,h3,h4]
end L2.L3
namespace L2.L3.K41
open PySem PySem.Spec PyProof.Rows L2 L2.L3 L2.L3.Q
def Hz:Nat->(LW->Prop)->Prop
 |0,p=>p []|n+1,p=>∀u,Hz n λh=>p (u::h)
theorem Ew:∀{n:Nat}{p:LW->Prop},Hz n p->∀us:LW,us.9=n->p us
 |0,_,h,us,e=>by rw[List.length_eq_zero_iff.mp e];exact h|_+1,_,_,[],e=>nomatch e
 |_+1,_,h,u::us,e=>Ew (h u) us (Nat.succ.inj e)
def jBD(x q:Str)(st:gi)(u:LS):Prop:=∀(kV h v:kn) (k:Option k0) (y w:kn),Hz u.9 λz=>c0 (qk x q (UC st) (zC st) (MA st) .none kV h v k y w) #[z,[]]=sn (u.zip z)
noncomputable def Zp:List (Str×D):=tT.map (λp=>(p.1,.tuple (p.2.map j0)))++sT.map λp=>(p.1,.int p.2)
structure Cx(K:QA)(h:vu)(mg:Str->Option kn):Prop where
 X:K.In h
 G:h.Ns k5 mg
 V:∀p∈Zp,dO K p.1 p.2
 N:∀y∈nT,q0 K k5 y=jr kv
 D:∀p∈fT,XV K p.1 (top p.2)
theorem JD{α:Type}{d:α}:∀{l:List α}{i:Nat},QCt i l.9=kf->l.getD i d∈l
 |[],_,h=>nomatch h
 |_::_,0,_=>.head _|_::_,_+1,h=>.tail _ (JD (Nat.blt_eq.mpr (wQ (Nat.blt_eq.mp h))))
theorem gh{α:Type}{l:List (Str×α)}{p:Str×α}(nd:(l.map qp).Nodup)(h:p∈l):l.lookup p.1=jr p.2:=by
 induction l with|nil=>cases h|cons a l y=>let#[x,s]:=a;rw[QS,Qk]at nd;rw[qa];rcases QL.mp h with rfl|h;rw[beq_self_eq_true];have hm:p.1∈l.map qp:=QBu h;have u:(p.1==x)=false:=beq_eq_false_iff_ne.mpr λz=>nd.1 (by rw[<- z];exact hm);rw[u];exact y nd.2 h
theorem L8{α:Type}{a:α}{g:Str}:∀(l:LS) (r:List α) (i:Nat),g≠l.getD i ""->(l.zip (r.set i a)).lookup g=(l.zip r).lookup g
 |[],_,_,_=>rfl|_::_,[],_,_=>rfl|x::l,s::r,0,h=>by have h:g≠x:=h;show w6 g ((x,a)::l.zip r)=w6 g ((x,s)::l.zip r);rw[qa,qa,beq_eq_false_iff_ne.mpr h]|x::l,s::r,i+1,h=>by show w6 g ((x,s)::l.zip (r.set i a))=w6 g ((x,s)::l.zip r);rw[qa,qa,L8 l r i h]
def ge:LS:=fT.map qp
def fx(i:Nat):Str×Nat:=fT.getD i ("",0)
def tbl(r:List PSp):PEv:=Jg (ge.zip r) Zp
theorem yT{r:List PSp}(i:Nat)(h:QCt i Zp.length=true:=by rfl):(tbl r).va (Zp.getD i ("",.none)).1=jr (Zp.getD i ("",.none)).2:=gh (GE (by kernel_rfl)) (JD h)
theorem Oq{r:List PSp}(nd:gK ((ge.zip r).map qp)=kf)(i:Nat)(h:QCt i (ge.zip r).9=kf):(tbl r).sp ((ge.zip r).getD i ("",Kb)).1=((ge.zip r).getD i ("",Kb)).2:=by show(w6 _ _).getD Kb=_;rw[gh (GE nd) (JD h)];rfl
noncomputable def nB(n:Need)(fs:LS):Bool:=n.fn.all (λx=>fs.contains x)&&((n.va.all λx=>(Zp.map qp).contains x)&&n.no.all (λx=>nT.contains x))
section
variable{P:vx}{w:x0}{K:QA}{h base:vu}{mg:Str->Option kn}{r r':List PSp}{R:PSp}{v:LS}{k:Nat}{b:PT}{n:Need}{N u:LS}
theorem hv(C:Cx K h mg)(A:∀g∈v,sC P w K mg base (tbl r) k g)(i:Nat)(KB:GA n b N u (top (fx i).2)=kf)
  (body:∀ts Q E,R.run ts Q E->ts.9=u.9/\tB (tbl r) (λ_=>False) b (zD R u.9 Q) (lB N R.md ts)) (m:(tbl r').sp (fx i).1=R) (hc:lK (XB 0 R.md u.9) b=true:=by kernel_rfl)
  (hb:jBD (fx i).1 (fx i).1 (top (fx i).2) u:=by(repeat intro _);rfl)
  (x:nB n v=true:=by kernel_rfl) (j:QCt i fT.length=true:=by rfl):sC P w K mg base (tbl r') (k+1) (fx i).1:=by
 let#[q,x]:=zA x;let#[p,o]:=zA x;exact e9 C.X C.G (C.D _ (JD j)) KB hc (λa b c d e f=>Ew (hb a b c d e f)) (λg l=>A g (aQ q g l)) (aY C.X C.G C.V p) (λy z=>C.N y (aQ o y z)) body m
theorem hc(A:∀g∈v,sC P w K mg base (tbl r) k g){x:Str}(Z:sC P w K mg base (tbl r) (k+1) x):∀g∈x::v,sC P w K mg base (tbl r) (k+1) g:=by intro g y;rcases QL.mp y with rfl|y;exact Z;exact(A g y).mono (qd _)
theorem hm(A:∀g∈v,sC P w K mg base (tbl r) k g):∀g∈v,sC P w K mg base (tbl r) (k+1) g:=λg x=>(A g x).mono (qd _)
theorem h0(C:Cx K h mg)(i:Nat)(KB:GA n b N u (top (fx i).2)=kf)(hb:jBD (fx i).1 (fx i).1 (top (fx i).2) u:=by(repeat intro _);rfl)(x:QCt i fT.length=true:=by rfl)(e:(tbl r).sp (fx i).1=Kb:=by kernel_rfl):sC P w K mg base (tbl r) (k+1) (fx i).1 :=
 i4 C.X C.G (C.D _ (JD x)) KB (λa b c d e f=>Ew (hb a b c d e f)) (by rw[e];exact λ_ _ _ z=>z.elim)
theorem hs(A:∀g∈v,sC P w K mg base (tbl r) k g){i:Nat}(Z:sC P w K mg base (tbl (r.set i R)) (k+1) (fx i).1)(y:v.contains (fx i).1=false:=by kernel_rfl)(e:(fx i).1=ge.getD i "":=by rfl):∀g∈(fx i).1::v,sC P w K mg base (tbl (r.set i R)) (k+1) g:=by intro g x;rcases QL.mp x with rfl|x;exact Z;refine((A g x).mono (qd _)).to ?_;show(w6 _ _).getD Kb=(w6 _ _).getD Kb;rw[L8];rintro rfl;rw[e,Qq.mpr x]at y;cases y
theorem hl(C:Cx K h mg)(A:∀g∈v,sC P w K mg base (tbl r) k g){x q:Str}{st:gi}{f:k0}{a:gm}(F:Fun K x q st f a)(KB:GA n b N u st=kf)
  (body:∀ts Q E,R.run ts Q E->ts.9=u.9/\tB (tbl r) (λ_=>False) b (zD R u.9 Q) (lB N R.md ts)) (hc:lK (XB 0 R.md u.9) b=true:=by kernel_rfl) (z:nB n v=true:=by kernel_rfl):FnOk P w K mg base i5 (k+1) f a u (lift K R):=by
 let#[m,z]:=zA z;let#[l,j]:=zA z;exact K9 F KB hc (λg i=>A g (aQ m g i)) (aY C.X C.G C.V l) (λy e=>QAX C.X C.G (C.N y (aQ j y e))) body
theorem cx_of(X:K.In h)(G:h.Ns k5 mg)(e:seen K=due)(m:(fT.all λp=>(CU p.1 (top p.2)).isSome)=kf)(l:(tT.all λp=>decide (p.2.9<=1000))=kf):Cx K h mg:=by injection e with i e;injection e with g e;injection e with f e;injection e with a _;have i:=Wl.mp i;have g:=Wl.mp g;have f:=Wl.mp f;have a:=Wl.mp a;refine#[X,G,λp x=>?_,λy j=>ec (a y j),λp x=>Y6 (i p x) (qA.mp m p x)];rcases Qh.mp x with x|x;let#[q,z,rfl]:=QZ.mp x;have:=ot (qA.mp l q z);exact V1 (g q z) ();let#[q,z,rfl]:=QZ.mp x;exact J6 (f q z)
end
section
variable{P:vx}{w:x0}{h:vu}{mg:Str->Option kn}
def Yb:List PSp:=[AF,BI,yK,SF,KI,bW,zK,VM,CQ,HQ,ZI,Hr,LQ,KQ,UM,VY,AL,RF,HG,DQ,ZQ,MG,FI,XI,TF,XQ,LG,UI,BQ,CI,VI,DI,cW,EL,ND,jM,UQ,XM,FQ,fW,uW,VQ,xW,dW,YQ,GQ,bR]
theorem eA(i:Nat)(h:QCt i (ge.zip Yb).9=true:=by rfl):(tbl Yb).sp ((ge.zip Yb).getD i ("",Kb)).1=((ge.zip Yb).getD i ("",Kb)).2:=Oq (by kernel_rfl) i h
theorem jBQ{K:QA}{x:vu}{k:Nat}(C:Cx K h mg)(q:lG K tA=kf)(v:K.In x)(m:x.Ns k5 mg):sC P w K mg x (tbl Yb) (k+1) "going_order":=by let#[f,M,p,#[#[J,I,kV,B,F,R,b,Q,i,rfl,lk,a],n]]:=C.D (fx 11) (JD rfl);let#[#[O,l,j,A,e,c,g,W,Z,Y],s,L,r]:=XU q C.X C.G;cases(WD C.X C.G p).symm.trans g;cases lk.symm.trans W;cases(show b=.ref c from Z);have z:=λy (o:nT.contains y=kf)=>QAX C.X C.G (C.N y (Qq.mp o));exact yf v m g lk a n (QAM v Y) (s x v) r (z _ (by kernel_rfl)) (z _ (by kernel_rfl)) (z _ (by kernel_rfl)) (λE hl=>by let#[u,rfl]:=QBH.mp hl;rfl) (eA 11)
theorem all{K:QA}{v:k0}(C:Cx K h mg)(b:lG K tA=kf)(y:mg "law"=jr (.ref v)) :
  ∃z:gm,(∀(s:ku) (u:kn),l4 s z #[[u],[]] [("_law_script",u)])/\∀x:vu,K.In x->x.Ns k5 mg->FnOk P w K mg x i5 50 v z ["_law_script"] (lift K bR):=by
 refine Em C.X C.G (C.D (fx 46) (JD rfl)) rfl y (eA 46) (λ_ _ _ _ _ _ e hl=>by let#[u,rfl]:=QBH.mp hl;rfl) λx a k f z F _=>?_;have A:∀g∈([]:LS),sC P w K mg x (tbl Yb) 0 g:=nofun;have A:=hc A (hv C A 0 TX jm (eA 0));have A:=hc A (hv C A 1 rS je (eA 1));have A:=hc A (hv C A 2 pS km (eA 2));have A:=hc A (hv C A 3 OX N7 (eA 3));have A:=hc A (hv C A 4 NX (M7 (eA 3) (eA 0) (eA 2)) (eA 4));have A:=hc A (hv C A 5 IU Al (eA 5));have A:=hc A (hv C A 6 jV K2 (eA 6));have A:=hc A (hv C A 7 RX P7 (eA 7));have A:=hc A (hv C A 8 AX (um (eA 2) (eA 7)) (eA 8));have A:=hc A (hv C A 9 tS ye (eA 9));have A:=hc A (hv C A 10 MX (L7 (eA 0) (eA 1) (eA 4) (eA 5) (eA 6) (eA 8) (eA 9)) (eA 10));have A:=hc A (jBQ C b a k);have A:=hc A (hv C A 12 yO Jm (eA 12));have A:=hc A (hv C A 13 GX Ld (eA 13));have A:=hc A (hv C A 14 zV S7 (eA 14));have A:=hc A (hv C A 15 yV (Js (eA 13) (eA 14) (eA 12)) (eA 15));have A:=hc A (hv C A 16 SO Hd (eA 16));have A:=hc A (hv C A 17 TN (G7 (eA 16) (eA 12)) (eA 17));have A:=hc A (hv C A 18 AO Od (eA 18));have A:=hc A (hv C A 19 vV cm (eA 19));have A:=hc A (hv C A 20 TU Pl (eA 20));have A:=hc A (hv C A 21 EX ze (eA 21));have A:=hc A (hv C A 22 xV (ke (eA 21)) (eA 22));have A:=hc A (hv C A 23 AU (Y2 (eA 22) (eA 21) (yT 0) (yT 1)) (eA 23));have A:=hc A (hv C A 24 ZJ (O7 (yT 0)) (eA 24));have A:=hc A (hv C A 25 oS (vm (yT 0)) (eA 25));have A:=hc A (hv C A 26 IN V2 (eA 26));have A:=hc A (hv C A 27 zP (A7 (eA 26)) (eA 27));have A:=hc A (hv C A 28 yP Ed (eA 28));have A:=hc A (hv C A 29 SL (E7 (eA 23) (eA 24) (eA 25) (eA 27) (eA 28) (yT 0)) (eA 29));have A:=hc A (hv C A 30 PL (Gd (eA 29)) (eA 30));have A:=hc A (hv C A 31 RL (j8 (eA 30)) (eA 31));have A:=hc A (hv C A 32 EU El (eA 32));have A:=hc A (hv C A 33 EO (Sd (eA 31) (eA 32)) (eA 33));have A:=hc A (hv C A 34 jP (Td (eA 16) (eA 20) (eA 19) (eA 33)) (eA 34));have A:=hc A (hv C A 35 Df (Ad (eA 11) (eA 15) (eA 17) (eA 18) (eA 34)) (eA 35));have A:=hc A (hv C A 36 B4 (Pd (eA 35)) (eA 36));have A:=hc A (hv C A 37 SX R7 (eA 37));have A:=hc A (hv C A 38 ya lm (eA 38));have A:=hc A (hv C A 39 LX zm (eA 39));have A:=hc A (hv C A 40 RO (Ol (eA 39)) (eA 40));have A:=hc A (hv C A 41 HX Nd (eA 41));have A:=hc A (hv C A 42 EN (Nl (eA 40) (eA 41)) (eA 42));have A:=hc A (hv C A 43 jO (Il (eA 35)) (eA 43));have A:=hc A (hv C A 44 AN (Ml (eA 42) (eA 43)) (eA 44));have S:=hs A (h0 (r:=Yb.set 45 Kb) C 45 oF);have A:=hm A;have Z:=hv (r':=Yb.set 45 lW) C S 45 oF im (by kernel_rfl);have S:=hs A Z;have A:=hm A;have Z:=hv (r':=Yb.set 45 gW) C S 45 oF (am (by kernel_rfl)) (by kernel_rfl);have S:=hs A Z;have A:=hm A;have Z:=hv (r':=Yb) C S 45 oF (om (by kernel_rfl)) (eA 45);have A:=hc A Z;exact hl C A F fo (xm (eA 38) (eA 44) (eA 45) (eA 10) (eA 36) (eA 37) (eA 0) (eA 1))
def hk:PySem.W.Hook:=#[d0×Option Obj,ob,λ_=>(due,jr (QBn #[])),λ_ h=>∃K:QA,K.In h/\seen K=due/\h.get? tA=jr (QBn #[]),λ_ _ e=>#[_,rX _,(QAL e).1,(QAL e).2],λ_ _ _ #[K,X,e,t] k=>#[K,X.keeps k,e,k _ _ t]]
end
end L2.L3.K41
open PySem PySem.W PyProof.Rows
set_option maxRecDepth 100000 in
set_option maxHeartbeats 0 in
theorem PySem.Challenge.cw_quoteweave_k41_wordings_holds : PySem.Challenge.rw_quoteweave_k41_wordings.Holds := by
 refine holds_law L2.L3.Q.ws λy=>?_;refine holds_open (q:=L2.L3.Q.qv) (loose:=[]) (Xt:=L2.L3.Q.xt) (XP:=XL L2.L3.Q.qv []) (Yf:=Hook.obs L2.L3.K41.hk) (Ya:=Hook.val L2.L3.K41.hk) (YP:=Hook.says L2.L3.K41.hk) (N:=3076) L2.L3.Q.lf (Hook.of L2.L3.K41.hk) (Hook.keeps L2.L3.K41.hk) (λs e=>xl_of s (W6.mp e).1) XL.keeps (by rfl) (by rfl) (by rfl) (λs e=>recFacts_of (W6.mp e).2) (by rfl) (by first|assumption|decide +kernel) (by decide +kernel) ⟨rfl,rfl,rfl,rfl,rfl,by decide +kernel⟩ ?hw ?hc
 case hw=>w_witness2
 case hc=>exact L2.L3.walk_seen (l:=qM) (k:=50) (x:="_law_script") (Fs:=λK=>L2.L3.Q.seen K=L2.L3.Q.due) rfl rfl ⟨rfl,by decide,by decide⟩ (λw h Y=>Y) (λK e=>L2.L3.go_of e) λw u v h K X e z G m=>L2.L3.K41.all (L2.L3.K41.cx_of X G e (by kernel_rfl) (by kernel_rfl)) z m
