import PyProof.Rows.All
import Wide.All
import OpenK.AllK
import Wide.FinOn
import Lean
import PyProof.EqAt
import PyProof.EqKinds
import PyProof.TupleCall
import PySem.Challenge.RW_quoteweave_k46_whole_enough_apart
noncomputable section
set_option Elab.async false
set_option linter.all false
set_option compiler.extract_closed false
set_option bootstrap.genMatcherCode false
set_option genInjectivity false
set_option genSizeOf false
set_option maxRecDepth 100000
set_option maxHeartbeats 4000000
open List renaming length_map->QA,mem_cons_self->QE,mem_cons_of_mem->QF,mem_singleton->QI,length_append->QJ,mem_cons->QK,length_cons->QM,size_toArray->QN,mem_map->QO,map_map->QR,map_append->QT,map_cons->QU,mem_filter->QX,mem_append_right->QZ,getElem?_map->Qc,nil_append->Qd,mem_append->Qf,getElem?_eq_some_iff->Qh,nodup_cons->Qj,getElem?_eq_getElem->Qk,mem_append_left->Ql,range->Qo,isEmpty_iff->Qs,contains_iff_mem->Qv,length_filter_le->Qw,nodup_nil->Qx,getElem?_append_right->Qy,all_eq_true->Q0,append_assoc->Q1,filter_sublist->Q3,length_singleton->Q5,length_range->Q8,getElem?_eq_none->qD,toArray->qG,length_take->qH,append_nil->qI,getElem?_append_left->qL,mem_of_getElem?->qN,length->qO,nodup_append->qT,getElem?_set_ne->qV,mem_range->qW,getElem?_set_self->qi,all_cons->qt,length_replicate->qz,ext_getElem?->wG,getElem?_set->wJ,length_nil->wK,length_set->wL,find?_cons->wM,map_congr_left->wN,getElem_mem->wO,any_eq_true->wP,mem_flatMap->wQ,map_nil->wT,length_dropLast->wY,reverse_cons->wb,getElem?_cons_succ->wj,getElem?_replicate->wk,length_reverse->wm,map_eq_nil_iff->wn,lookup_cons->wu,not_mem_nil->wv,any_cons->WA,set->WE,map_fst_zip->WK,map_snd_zip->WL,filter_cons->WM,filterMap_cons->WN,getElem?_range->WP,map_inj_right->Wf,filter_cons_of_pos->Wg,filter_cons_of_neg->Wh,drop_eq_nil_of_le->Wl,flatMap_cons->Wn,map_inj_left->Wo,mem_iff_getElem?->Ww,map_reverse->W0,getElem?_modify->W5,forIn_cons->QAC,mem_map_of_mem->QAG,foldl_cons->QAI,zip_cons_cons->QAQ,length_zipIdx->QAT,replicate->QAW,drop_eq_getElem_cons->QAb,getLast?_eq_getElem?->QAd,length_erase_of_mem->QAh,foldl_append->QAi,getElem?_cons_zero->QAl,length_eq_zero_iff->QAu,cons_append->QAx,length_drop->QA1,length_pos_of_mem->QA9,filter_eq_nil_iff->QBA,length_eq_one_iff->QBB,modify_succ_cons->QBC,modify_zero_cons->QBD,of_mem_zip->QBG,getD->QBJ,any_map->QBN,eq_nil_or_concat->QBP,concat_eq_append->QBQ,mem_zipIdx->QBR,mem_erase_of_ne->QBa,getLast?_concat->QBb,forIn_nil->QBd,getElem_of_mem->QBl,mergeSort_perm->QBo,set_cons_zero->QBp,set_cons_succ->QBq,mem_filterMap->QBx,take_sublist->QB6,mapM_toArray->QCB,pairwise_map->QCE,all_map->QCL,take_length->QCW,mem_reverse->QCX,lookup->QCZ,Perm->QCh,map_id->QCi
open PySem.W renaming Frag->QC,nsIn->qw,fnOf->qy,keepIn->wW,mg_of->We,codeIn->Wp,WData->QAB,codeHd_of_K->QAK,mg_none_of->QAR,methodObj->QAe,codeHdIn->QAy,cellsFrom_some->QA3,tabObj->QBg
open PySem.PyData renaming str->j0,int->j1
open PySem.Value renaming none->j2,ref->kx
open PySem renaming wpAny_bind->QD,wpAny_pure->QL,sizeLine_eq->qA,wpAny_loadPart'->qK,wpAny_newObj_type->qM,mem_of_lookup->qQ,wpAny_call_entry->qR,wpAny_holding->qY,wpAny_Call_Name_kw->qe,wpAny_callSpecial?_slot->qf,Spec->ql,wpAny_mono->qm,wpAny_typeNameOfWhole_itemiter->q0,wpAny_typeNameOfWhole_keyiter->wB,wpAny_truthy_bool->wH,wpAny_dictEntries->wI,wpAny_setField_rec->wV,wpAny_passesOwn->wZ,wpAny_dictEpoch->w4,wpAny_notOrdered_dict->w6,codeAny_builtin->w8,wpAny_pyIter_list->WC,wpAny_field->WO,plainId_quiet->WY,wpAny_isOneOf_itemiter->Wk,wpAny_seqItems->Wq,wpAny_isInstance->Wx,wpAny_attempt->QAA,wpAny_execs_nil->QAD,wpAny_typeOf->QAP,wpAny_setField->QAZ,wpAny_fieldsOf->QAa,seqIndex_of->QAp,wpAny_Call_method0_late->QAq,wpAny_newList->QAr,wpAny_eqBool_int->QA0,wpAny_specialOf->QBE,wpAny_isOneOf_keyiter->QBL,builtinLookup_eq_fast->QBM,wpAny_Name->QBS,call_meets->QBT,wpAny_rule->QBU,wpAny_loadName_local->QBV,wpAny_newFunctionEnv->QBW,wpAny_pyIter_revIter->QBZ,wpAny_newTuple->QBe,wpAny_loadName_free->QBh,wpAny_Tuple_spliced->QBi,evalArgs_none->QBj,wpAny_setItem_pairs->QBk,wpAny_Constant_int->QBv,wpAny_standAt->QBw,wpAny_handled->QB0,wpAny_pyIter_tuple->QB1,call_reversed_list->QB2,wpAny_assign_Name->QB5,slot_list_getitem->QB8,wpAny_pyIter_slot->QCA,wpAny_pyIter_enum->QCD,codeAny_mono->QCI,concat_meets->QCJ,seqIndex_neg->QCK,wpAny_pyHash_str->QCP,wpAny_execs_cons->QCQ,noFill_tuple_add->QCR,wpAny_of_eq->QCb,wpAny_throw->QCc,wpAny_letGo->QCd,storedH_new->QCe,typeIs_str->QCk,Str->QCo
open Bool renaming false_ne_true->QG,and_eq_true->Qb,false_eq_true->Qu,eq_iff_iff->Qz,not_eq_true'->Q7,not_false->WG,true_and->WT,or_eq_true->Wa,and_eq_true_iff->W7,not_true->W8,false_and->QAU,and_true->QAm,false_or->QAn,and_false->QBc,or_false->QBr,or_true->QCG,true_or->QCH
open PySem.Heap renaming get?_push_of_some->QH,get?_push_size->QS,lt_size->QV,SameBut->qa,get?_update_self->wU,dictOf_iff->we,size_push->WH,get?_update_other->Wi,ExtBut->QAE,get?_push_cases->QBY,size_update->QCV,IsList->QCa
open Nat renaming le_trans->QW,le_refl->QY,ne_of_lt->Qi,zero_le->Qq,lt_of_lt_of_le->Qr,lt_irrefl->qS,le_succ->qq,ne_of_gt->wR,lt_of_succ_lt_succ->ww,le_of_eq->wx,lt_trans->wy,lt_succ_of_lt->WB,succ_le_succ->WI,lt_of_le_of_lt->WU,zero_add->Wr,min_le_right->W4,le_add_right->QA2,le_of_lt->QBF,lt_or_ge->QBH,sub_self->QBO,lt_succ_self->QCO,blt->QCn
open PySem.Str renaming ofString->Qa
open False renaming elim->Qg
open Option.some renaming inj->Qm,injEq->Qp
open PySem.PyData renaming eqv->Qn,strOk->qg,canLayAll0->qr,depthAll->wc,canLay0->QAY,depth->QBI,noConfusion->QBz
open PySem.Challenge renaming pw_quoteweave_k46_whole_enough_apart->Qt,rw_quoteweave_k46_whole_enough_apart->Q6
open Array renaming length_toList->Q2,perm_iff_toList_perm->qU,toList_inj->WJ,getElem?_toList->Ws,getElem?_eq_some_iff->QAN,getElem?_eq_none->QA6,forIn_toList->QBs
open PySem.Obj renaming mapSeq->Q4,data_mapFields->WX,isFreed_of_fields->QBK,data_mapDictKeys->QBX,cls_mapFields->QB9
open Option renaming map_some->Q9,map_none->wf,isNone_iff_eq_none->QAc,isSome_map->QAg,getD_none->QCS,getD_some->QCT
open PySem.Heap.SameBut renaming update->qB
open Ne renaming symm->qC
open PySem.Paired renaming length->qE
open PySem.Builtin.Str renaming occurrences->qF
open PyProof.Rows renaming callWith_type1->qJ,subscriptTail_builtinR->qj,listUpdate_at->WZ,get?_update_seq->QAF,boot_reversed->QAM,slot_tuple_getitem->QAO,seqEpoch_at->QBm,getItem_tuple->QBy,sortedAll_old->QB3,Subscript_->QB7,listItems_at->QCM,sortedAll_at->QCN
open Prod renaming fst->qP,snd->QCY,ext->QCm
open PySem.Builtin.SmallTypes renaming nextOf->qX
open PySem.F renaming slot_dict_itemiterator_next->qZ,slot_dict_keyiterator_next->qd,slot_tuple_iterator_next->qh,slot_list_getattribute->WR,args_tuple_iterator_next_1->WS,entry_tuple_iterator_next->WW,plainAttrs_list->Wb,args_dict_itemiterator_next_1->Wm,entry_dict_itemiterator_next->Wt,args_dict_keyiterator_next_1->Wv,entry_dict_keyiterator_next->Wz,slot_dict_getitem->QAX,args_tuple_add_2->QAf,entry_tuple_add->QAo,plainAttrs_dict->QAv,slot_tuple_add->QA4,slot_dict_items_iter->QA5,plain_list_iadd->QCF,slot_dict_iter->QCU
open Int renaming toNat_natCast->qb,lt_irrefl->wt,le_trans->QAS,emod_eq_of_lt->QAk,le_refl->QAw,natCast_nonneg->QB4,toNat->QCj
open LawfulBEq renaming eq_of_beq->qk
open PySem.SeqAt renaming EqAt->qp
open Classical renaming byContradiction->qu
open PySem.Calls renaming spliced_cons->wA,spliced_nil->wa,callWith_builtin->Wj,Name_function_global->QAL
open PySem.Around renaming under_plainId->wC,in1_units->QAz
open Lean.Parser.Tactic renaming tacticSeq->wE
open PySem.Builtin.Dict_items renaming addrOf->wX,ownsTuple->W9
open List.Pairwise renaming imp_of_mem->wg,map->WD
open PySem.W.WData renaming weightAll->wq,weight->W6
open PySem.Txt renaming slice->wz
open PySem.Builtin.List renaming listExtendWith->w9,listTooLong->WQ,listUpdate->QAs,listItems->QA8
open Iff renaming rfl->WF
open PySem.Builtin.Range renaming rangeSize->WV,small->QBn
open List.cons renaming injEq->Wc
open PySem.Builtin.Dict renaming showsAll->Wu,updateFrom->QAt,pairItems->QA7
open PySem.Builtin.Int renaming intBits->QAH
open Prod.mk renaming inj->QAJ
open PySem.Builtin.Tuple renaming tupleHashOf->QAV
open PySem.StrLaws renaming sliceText->QAj
open List.Perm renaming refl->QBf
open PySem.SeqAt.EqAt renaming int_str->QBt,str_int->QBu
open PyProof.Rows.SortSt renaming mk'->QCC
open Array.Perm renaming refl->QCf
open StateT renaming run_pure->QCg
open PySem.Walks renaming list->QCl
theorem dF{p:Prop}[Decidable p](h:¬p):decide p=false:=_root_.decide_eq_false h
theorem dT{p:Prop}[Decidable p](h:p):decide p=true:=_root_.decide_eq_true h
abbrev IB:=List (PySem.Addr×PySem.Obj)
abbrev dC:=PySem.Value -> PySem.Shared -> Prop
abbrev YB:=PySem.Addr -> Prop
abbrev VC:=List (QCo×QCo)
open Option renaming some->jr,none->kv
open Bool renaming true->kf,false->kd
open PySem renaming Value->kb,sizeLine->kn,Shared->kt,wpAny->ku,Addr->ko,model->k0,mainGlobals->k4,Program->k5,compareOp->vx,Heap->vu,starEach->xk,World->xb,Paired->xo,Around->x0,PyData->x2,sysModules->y1,FuncData->zl,Stmt->gV,cLine->gp,eval->g6,bootBuiltins->g7,Operator->hZ,binaryOp->hG,rawInt->hB,Scope->hE,foldedSetIterable->hQ,assignEach->h7,firstArgMember->h8,entryOfKey->fy,sliceBounds->fk,backTo->fv,NameKind->fb,codeAmong->f5,attributeBase->DC,CmpOp->dy,letOwnedTupleGo->bb,typeNameOfWhole->b8,recursionLimit->c0,call->Er,swapsWith->ej,DictEntry->eH,builtinsNs->ef,spliced->ew,IsItemIter->lj,atKey->lb,assign->ll,pyNext->ln,bindArgs->lp,ReadsAll->lr,Keyword->la,relabel->li,valueAt->l0,behindInMarks->l4,pyIter->l5,typeLookup->l8,closureFor->mx,getattributeRaised->me,IntMulOk->mu,BindsTo->mA,codeAny->mi,callerA->nj,eqIsQuiet->nG,TriplesOk->nc,typeLookup_type->nL,bindL->nP,bindC->nS,PlainAttrs->nt,wpAny_notIn_of->ni,newExc->n7,newTuple->P0,dictSetDefault->pd,callType_codes->pc,revObj->pL,assignInOrder->pR,rangeSize_one->pu,intBits_le_64->pq,seq_tuple_add->p0,evalPart_none->p5,comprehension->p6,call_len_dict->p7,IsItemIterOut->p8,Comprehension->RB,Arguments->Rt,PassesOwn->rk,cellsFrom->rn,Const->ri,holding->ro,UnaryOp->sh,getItem->sn,storedH->tj,IsRange->tv,HeapKind->th,field->tE,raiseNew->tt
open Pure renaming pure->ti
open PyProof.Rows renaming seqObj->u0,oneType'->Ar,StrsAre->aj,AllBare->ax,envOfC->ak,pairsOf->ah,subscriptTail->ab,IntsAre->ac,sortedS->ai,IsTup->a8,entry_list_sort->a9,slot_list_sort->im,failedOf->ir
theorem ii.{u}{c:Prop}{d:Decidable c}(h:¬c){α:Sort u}{t e:α}:ite c t e=e:=_root_.if_neg h
theorem i0.{u}{c:Prop}{d:Decidable c}(h:c){α:Sort u}{t e:α}:ite c t e=t:=_root_.if_pos h
theorem i3{a b:Prop}(h:a)(k:¬a):b:=_root_.absurd h k
theorem ot{a b:Prop}(h:a<->b):a=b:=_root_.propext h
theorem oa{p:Prop}[Decidable p](h:decide p=true):p:=_root_.of_decide_eq_true h
theorem o2{p:Prop}[Decidable p]:decide p=true<->p:=_root_.decide_eq_true_iff
theorem o9.{u,v}{α:Sort u}{β:Sort v}{a b:α}(f:α->β)(h:a=b):f a=f b:=_root_.congrArg f h
local macro_rules | `($x.$i:fieldIdx)=>if i.raw.isFieldIdx?==some 9 then `(($x).length) else Lean.Macro.throwUnsupported
set_option hygiene false in
local macro_rules
 | `(#[$xs,*])=>if xs.getElems.isEmpty then Lean.Macro.throwUnsupported else `(⟨$xs,*⟩)
 | `(())=>`(by omega)
open Lean Parser.Tactic in
def zzp:Nat->Syntax->MacroM (TSyntax `rcasesPat)
 | 0,_=>Macro.throwUnsupported
 | n+1,s=>match s with
  | `(#[$xs,*])=>do
   let a<-xs.getElems.mapM λx=>do let p<-zzp n x;`(rcasesPatLo| $p:rcasesPat)
   `(rcasesPat| ⟨$a,*⟩)
  | `(_)=>`(rcasesPat| _)
  | `($x:ident)=>`(rcasesPat| $x:ident)
  | _=>Macro.throwUnsupported
local macro_rules | `(tactic| let $p:term:=$e:term)=>do `(tactic| obtain $(<-zzp 9 p):rcasesPat:=$e)
set_option hygiene false in
local macro_rules | `(tactic| omega)=>do
 let f:=λ(s:String)=>(s.splitOn " ").toArray.map λx=>Lean.mkIdent x.toName
 let a<-(f "L2.szA L2.szB L2.szC L2.unA Nat.le_trans Nat.lt_of_le_of_lt").mapM λx=>`(wE| exact $x (by assumption) (by decide))
 let b<-(f "Nat.lt_of_lt_of_le Nat.lt_of_le_of_lt Nat.le_trans").mapM λx=>`(wE| exact $x (by assumption) (by assumption))
 let c<-(f "Nat.le_of_lt Nat.ne_of_lt Nat.ne_of_gt Nat.lt_succ_of_lt Nat.le_of_lt_succ L2.prA").mapM λx=>`(wE| exact $x (by assumption))
 let d<-(f "Nat.le_refl Nat.le_succ Nat.zero_le Nat.succ_pos").mapM λx=>`(wE| exact $x _)
 `(tactic| first|decide|assumption|exact L2.szL (by decide) $[| $a]* $[| $b]* $[| $c]* $[| $d]*|lia|omega (config:={})|(have:=PySem.sizeLine_eq;first|lia|omega (config:={})))
set_option hygiene false in
local macro_rules
 | `(%[ $xs,*|1 ])=>do
  let mut r<-`(PX.anil)
  for x in xs.getElems.reverse do r<-`(PX.acons $x $r)
  return r
 | `(%[ $xs,*|2 ])=>do
  let mut r<-`(PT.nil)
  for x in xs.getElems.reverse do r<-`(PT.seq $x $r)
  return r
def zza:="yA vj cj Sb bj fj pj kj Pb xj Ob mj zj Fj Uw Ei Pj Hj Cw Nj xc jj Tj Aj yj Mj Ii xZ Dw Lj iW eW kc Sj Rj aW Oj Gj vc Hi Mb Ov Nv Li Ej bc ZW KW rj Tv Jj Ab Eb Kj Vj Av Zj ij sj Tb jBe jBi jBf jBh jBg Yw Jw jBb jBd jBc jA7 jA4 jA5 jBT jBR jBS jBU jBQ gx jBD jBk jBj Y0 Mu Nu jBN jBM jBL jBK jBJ jBI jBH jBG jBF jBE fw cw bw uw Xj jBA jA9 jBB Iv Bj jBP jAe v3 Gw rg Ti Si Ni Oi Ri Pi Sv mk_2 iu Xi Vi si Ji Vv Bv jA2 Cv Vb Kb Zi Yb Xb oO Yi jAr jA3 Dh yu ju Nx Uc DW Tq Ux jAu jAv Cs Hw Ax Jk nr gr Ur Gg Ai ui GA reduceIte"
def zzb:="XH AE TF pT T.isD lockA rG lock kill TN Tg.ix gC gZ FP OT isMut xY frzAt oY Ef xD.eq_1 xD.eq_2 VN.eq_1 VN.eq_2 VN.eq_3 VN.eq_4 J9 i9 e9 aJ.eq_1 List.modify_succ_cons List.modify_zero_cons Option.map_some List.length_cons List.length_nil List.getElem?_cons_zero List.getElem?_cons_succ List.cons_append List.nil_append List.set_cons_zero List.set_cons_succ Nat.reduceAdd Nat.reduceSub Nat.zero_add Bool.and_true Bool.true_and Bool.not_true Bool.not_false Bool.or_true Bool.true_or Bool.or_false Bool.false_or Bool.and_false Bool.false_and if_true if_false Bool.false_eq_true true_and and_true false_implies ne_eq reduceCtorEq not_false_eq_true not_true_eq_false implies_true forall_const Int.reduceLT Int.reduceLE Int.reducePow Int.reduceNeg Nat.reducePow and_self eq_self Option.some.injEq Sl.own.injEq Sl.bor.injEq and_assoc decide_true decide_false"
set_option hygiene false in
local macro_rules | `(tactic| simp! [$ls,*])=>do
 let a<-(zza.splitOn " ").toArray.mapM λx=>`(Lean.Parser.Tactic.simpLemma| ↓ $(Lean.mkIdent x.toName):ident)
 let b<-(zzb.splitOn " ").toArray.mapM λx=>`(Lean.Parser.Tactic.simpLemma| $(Lean.mkIdent x.toName):ident)
 `(tactic| simp only [$ls,*,$a,*,$b,*])
set_option hygiene false in
local macro_rules | `(tactic| simp_arith! [$ls,*])=>do
 let a<-(zza.splitOn " ").toArray.mapM λx=>`(Lean.Parser.Tactic.simpLemma| ↓ $(Lean.mkIdent x.toName):ident)
 let b<-(zzb.splitOn " ").toArray.mapM λx=>`(Lean.Parser.Tactic.simpLemma| $(Lean.mkIdent x.toName):ident)
 `(tactic| simp -implicitDefEqProofs only [$ls,*,$a,*,$b,*])
abbrev LS:=List QCo
abbrev LN:=List Nat
abbrev LJ:=List Int
abbrev LW:=List PySem.Value
namespace L2.L3.Q
open PySem PySem.W PySem.Spec PyProof.Rows
noncomputable def yx(x:List ko)(h:vu):QC:=x.filterMap λa=>(h.get? a).map λo=>(a,o)
noncomputable abbrev lx:=(Str×Str×Rt×FuncBody×hE)×(ko×List (Str×ko)×kb×ko)×Bool
noncomputable def Gq(h:zl)(b:Bool):lx:=((h.name,h.qualname,h.params,h.body,h.scope),(h.globals,h.closure,h.defaults,h.builtins),b)
def rY(K:QC)(x:Str):Option lx:=match qw K k4 x with
 |some (jr (.ref f))=>(match K.lookup f with
  |some #[_,_,.func fd,_]=>jr (Gq fd (Wp K fd.code x&&wW K (.ref f)))|_=>kv)
 |_=>kv
def ZV(x:Str)(st:gV):Option lx:=match st with
 | .FunctionDef _ a b _ _ _ sc _ _ _=>jr (Gq (qy x x a b sc .none .none .none .none kv .none .none) kf)|_=>kv
def js:kb->Option Str
 | .str z _=>jr z|_=>kv
noncomputable def Uk(K:QC)(x:Str):Option (List (Option Str)):=match qw K k4 x with
 |some (jr (.ref f))=>(match K.lookup f with
  |some #[.type t,_,.seq its _,_]=>if t="tuple" then jr (its.toList.map js) else kv|_=>kv)
 |_=>kv
def tz:kb->Option Int
 | .int i _=>jr i|_=>kv
noncomputable def Vk(K:QC)(x:Str):Option Int:=match qw K k4 x with
 |some (jr u)=>tz u|_=>kv
noncomputable def BX(K:QC)(x:Str):Bool:=match qw K k4 x with
 |some kv=>kf|_=>kd
noncomputable def eG(K:QC)(T:ko):Bool:=(match qw K k4 "going_order" with
 |some (jr (.ref f))=>(match K.lookup f with
  |some #[_,_,.func fd,_]=>(match fd.code with
   | .ref c=>QAy K c T|_=>kd)
  |_=>kd)
 |_=>kd)&&((match qw K k4 "__builtins__" with
 |some (jr (.ref b))=>(match K.lookup b with
  |some #[.type t,jr d,.plain,_]=>t == "module" && (d==ef&&(b != ef&&(b != k4&&b != T)))|_=>kd)
 |_=>kd)&&((K.lookup T).isNone&&k4 != T))
def top(i:Nat):Stmt:=Qt.main.body.getD i (.Pass #[0,0,0,0])
noncomputable def fT:List (Str×Nat):=([("_law_mixed",51),("_law_cell_at",50),("_law_letters",52),("_law_spelt",53),("_law_words",54),("_law_person",55),("_law_folded",59),("_law_quote",57),("_law_event",58),("_law_against",56),("_law_world",60),("going_order",17),("has_against",22),("rank_of",20),("floor_of",21),("is_taken",19),("seen_among",24),("wrong_among",23),("live_among",25),("edges_of",28),("seers_of",27),("add_way",6),("add_name",5),("rooms_of",4),("points_reached",7),("lay_chain",8),("name_behind",10),("chain_from",9),("full_names",11),("apart_chains",3),("told_through",15),("ground_alone",14),("needs_of",30),("holders_in",29),("held_among",26),("gone",18),("_law_last",61),("live_in",34),("past_in",33),("seen_in",36),("web_of",37),("ground_by",13),("ground_in",42),("last_moment",32),("ground_of",40),("web_without",38),("apart_in",43),("apart_of",41),("left_in",47),("holders_without",48),("held_in",35),("fallen_in",46),("struck",45),("_law_one",62),("law",63)]:List (String×Nat)).map λp=>(Qa p.1,p.2)
def tT:List (Str×LS):=[("BEGIN",["","begin"])]
def sT:List (Str×Int):=[("WIDE",2)]
noncomputable def nT:LS:=(["all","any","dict","enumerate","len","list","min","range","reversed","sorted","tuple"]:List String).map Qa
noncomputable def qv:Program:={ Qt with main:={ Qt.main with body:=[1,2,3,4,5,6,7,8,9,10,11,13,14,15,17,18,19,20,21,22,23,24,25,26,27,28,29,30,32,33,34,35,36,37,38,40,41,42,43,45,46,47,48,50,51,52,53,54,55,56,57,58,59,60,61,62,63].map top } }
def tA:Addr:=89
noncomputable abbrev N2:=List (Option lx)×List (Option (List (Option Str)))×List (Option Int)×List Bool×Bool
def seen(K:Frag):N2:=(fT.map λp=>rY K p.1,tT.map λp=>Uk K p.1,sT.map λp=>Vk K p.1,nT.map (BX K),eG K tA)
def due:N2:=(fT.map λp=>ZV p.1 (top p.2),tT.map λp=>jr (p.2.map jr),sT.map λp=>jr p.2,nT.map λ_=>kf,kf)
def fr(s:kt):Frag:=yx ((Qo 353).filter λa=>a != tA) s.1
def xt(s:kt):Bool:=xlAt qv [] s&&recOk (RowW.records Q6.row.toRowW) s
def ob(s:kt):N2×Option Obj:=(seen (fr s),s.1.get? tA)
theorem lf:LeftO Qt qv [] xt ob (λ_=>(due,jr (tabObj #[]))) 3532:=by intro w;kernel_rfl
theorem ws:Q6.wellSaid=true:=by kernel_rfl
end L2.L3.Q
namespace L2
open PySem PySem.Spec PyProof.Rows
section
variable{n m:Nat}
theorem szL(h:n<=16777216):n<=sizeLine:=by rw[qA];exact h
theorem jBr(h:n<16777216):n<sizeLine:=by rw[qA];exact h
theorem jBs(h:n<=m)(k:m<=16777216):n<=sizeLine:=szL (QW h k)
theorem jB4(h:n<=m)(k:m<16777216):n<sizeLine:=jBr (WU h k)
theorem jB3(h:n<=m)(k:m<=16777216):0+n<=sizeLine:=by rw[Wr];exact jBs h k
theorem jB2{k c:Nat}(h:n+k<c)(l:m<=k):n+m<c:=WU (Nat.add_le_add_left l n) h
theorem jB5(h:m<n):n - 1<n:=by cases n with|zero=>exact(nomatch h)|succ n=>exact QCO n
end
open PySem.SeqAt
inductive NK where
 |s (x:Str)|t (xs:List NK)
noncomputable instance:DecidableEq NK:=λ_ _=>Classical.propDecidable _
mutual
def i6(h:vu):NK->kb->Prop
 | .s x,v=>∃t,v=.str x t|.t ks,v=>∃a y,v=.ref a/\h.IsTuple a y/\NKvs h ks y.toList
def NKvs(h:vu):List NK->LW->Prop
 |[],vs=>vs=[]|k::ks,vs=>∃v r,vs=v::r/\i6 h k v/\NKvs h ks r
end
mutual
def f9:NK->Nat
 | .s _=>0|.t h=>nkds h+1
def nkds:List NK->Nat
 |[]=>0|k::ks=>max (f9 k) (nkds ks)
end
mutual
def yz(w:xb):NK->Int
 | .s x=>hashStr w x|.t h=>reduceHash (QAV (nkhs w h))
def nkhs(w:xb):List NK->LJ
 |[]=>[]|k::ks=>yz w k::nkhs w ks
end
mutual
def Kq:NK->Nat
 | .s _=>1|.t h=>nkts h+1
def nkts:List NK->Nat
 |[]=>0|k::ks=>Kq k+nkts ks
end
theorem nZ{h:vu}{a:ko}{xs x:Array kb}(p:h.IsTuple a xs)(q:h.IsTuple a x):xs=x:=by let#[o,e,_,n,d]:=p;let#[u,y,_,v,z]:=q;cases e.symm.trans y;cases d.symm.trans z;rfl
mutual
theorem g9{h:vu}:∀{k l:NK}{v:kb},i6 h k v->i6 h l v->k=l
 | .s x,.s y,v,#[t,e],#[u,e']=>by subst e;cases e';rfl|.s x,.t ls,v,#[t,e],#[_,_,e',_]=>by subst e;cases e'|.t ks,.s y,v,#[_,_,e,_],#[_,e']=>by subst e;cases e'|.t ks,.t ls,v,#[a,its,e,p,q],#[b,jts,e',p',q']=>by subst e;cases e';cases nZ p p';rw[nks_inj q q']
theorem nks_inj{h:vu}:∀{ks ls:List NK}{vs:LW},NKvs h ks vs->NKvs h ls vs->ks=ls
 |[],[],_,_,_=>rfl|[],_::_,_,e,#[_,_,e',_]=>by cases(show _=[] from e).symm.trans e'|_::_,[],_,#[_,_,e',_],e=>by cases(show _=[] from e).symm.trans e'|k::ks,l::ls,_,#[v,r,e,p,q],#[v',r',e',p',q']=>by cases e.symm.trans e';rw[g9 p p',nks_inj q q']
end
mutual
theorem MU{h h':vu}(k:∀a its,h.IsTuple a its->h'.IsTuple a its):∀{x:NK}{v:kb},i6 h x v->i6 h' x v
 | .s x,v,e=>e|.t ks,v,#[a,its,e,p,q]=>#[a,its,e,k a its p,nks_keeps k q]
theorem nks_keeps{h h':vu}(k:∀a its,h.IsTuple a its->h'.IsTuple a its):∀{xs:List NK}{vs:LW},NKvs h xs vs->NKvs h' xs vs
 |[],_,e=>e|x::xs,_,#[v,r,e,p,q]=>#[v,r,e,MU k p,nks_keeps k q]
end
section
variable{prog:k5}{w:xb}{E:dC}
mutual
theorem o0:∀(k:NK) (v:kb) (A:x0) (s:kt) (Q:Int->kt->Prop),i6 s.1 k v->A.units+f9 k<gp->Q (yz w k) { s with toks:=s.toks+Kq k }->ku (k0 prog w) A (pyHash v) Q E s
 | .s x,v,A,s,Q,#[t,e],_,q=>by subst e;exact QCP q|.t ks,v,A,s,Q,#[a,its,e,#[o,ho,hc,n,hd],hi],h,q=>by subst e;have h:A.units+(nkds ks+1)<cLine:=h;refine PySem.W.pyHash_slot (T:="tuple") #[o,ho,hc] F.slot_tuple_hash F.entry_tuple_hash (F.args_tuple_hash_1 _) (beq_builtin_none _) (.inr ()) ?_;show ku _ _ (Builtin.Tuple.tupleItemsOf (.ref a) >>= _) _ _ s;refine QD (wpAny_tupleItemsOf ho hd ?_);refine QD ?_;rw[<- QBs];refine nk_loop ks its.toList A.in1 s #[] _ hi (by rw[QAz];omega) λb hb=>?_;show ku _ _ (retInt (QAV b.toList)) _ _ _;rw[hb];exact QD (wpAny_mkInt (QL #[_,_,rfl,by rw[Nat.add_assoc];exact q]))
theorem nk_loop:∀(ks:List NK) (vs:LW) (A:x0) (s:kt) (b:Array Int) (Q:Array Int->kt->Prop),NKvs s.1 ks vs->A.units+nkds ks<gp ->
  (∀y,y.toList=b.toList++nkhs w ks->Q y { s with toks:=s.toks+nkts ks }) ->
  ku (k0 prog w) A (forIn vs b λx r=>do let h <- pyHash x;ti PUnit.unit;ti (ForInStep.yield (r.push h))) Q E s
 |[],vs,A,s,b,Q,e,_,q=>by subst e;exact QL (q b (qI _).symm)|k::ks,vs,A,s,b,Q,#[v,r,e,p,p'],z,q=>by subst e;have z:A.units+max (f9 k) (nkds ks)<cLine:=z;rw[QAC];refine QD (QD (o0 k v A s _ p () ?_));refine QD (QL (QL ?_));refine nk_loop ks r A _ _ Q p' () λy hb=>?_;have e:s.toks+Kq k+nkts ks=s.toks+(Kq k+nkts ks):=Nat.add_assoc _ _ _;have:=q y (by rw[hb,Array.toList_push,Q1];rfl);show Q y { s with toks:=s.toks+Kq k+nkts ks };rw[e];exact this
end
end
theorem Ap{ks ls:List NK}{n m:Nat}(x:n=ks.9)(y:m=ls.9):((Qo (min n m)).all (λj=>decide (ks[j]?=ls[j]?))&&n==m)=decide (NK.t ks=NK.t ls):=by subst x y;rw[Qz,o2,Qb,Q0,beq_iff_eq];constructor;rintro⟨z,v⟩;congr 1;refine wG λj=>?_;by_cases u:j<ks.9;exact oa (z j (qW.mpr ()));rw[qD (),qD ()];intro h;injection h with h;subst h;exact#[λ_ _=>dT rfl,rfl]
theorem vS{h:vu}:∀{ks:List NK}{vs:LW},NKvs h ks vs->vs.9=ks.9
 |[],_,e=>by cases(show _=[] from e);rfl|_::_,_,#[v,r,e,_,q]=>by rw[e,QM,QM,vS q]
mutual
theorem Vh:∀(k l:NK) (v u:kb) (A:x0) (s:kt),i6 s.1 k v->i6 s.1 l u->A.units+f9 k<gp->EqAt A s v u (decide (k=l))
 | .s x,.s y,v,u,A,s,#[t,e],#[t',e'],_=>by
  subst e e';have:=EqAt.str_str (A:=A) (s:=s) x t y t';have z:(x==y)=decide (NK.s x=NK.s y):=by rw[Qz,o2,beq_iff_eq];exact#[λh=>h▸rfl,λh=>by injection h]
  rw[<- z];exact this
 | .s x,.t ls,v,u,A,s,#[t,e],#[b,jts,e',p,_],f=>by subst e e';rw[dF λh=>by cases h];exact EqAt.str_tuple x t p ()|.t ks,.s y,v,u,A,s,#[a,its,e,p,_],#[t,e'],f=>by subst e e';rw[dF λh=>by cases h];exact EqAt.tuple_str y t p ()|.t ks,.t ls,v,u,A,s,#[a,its,e,p,q],#[b,jts,e',p',q'],f=>by subst e e';by_cases w:a=b;subst w;cases nZ p p';rw[nks_inj q q',dT rfl];exact EqAt.same _;have f:A.units+(nkds ks+1)<cLine:=f;refine EqAt.of_refs w ?_;have i:=vS q;have g:=vS q';rw[Q2]at i g;rw[<- Ap i g];refine RcAt.tuples p p' () λj n m=>?_;have:=nks_eq ks ls its.toList jts.toList A.in1 s q q' (by rw[QAz];omega) j (by rw[Q2];exact n) (by rw[Q2];exact m);simpa using this
theorem nks_eq:∀(ks ls:List NK) (vs us:LW) (A:x0) (s:kt),NKvs s.1 ks vs->NKvs s.1 ls us->A.units+nkds ks<gp->∀j (y:j<vs.9) (x:j<us.9),EqAt A s vs[j] us[j] (decide (ks[j]?=ls[j]?))
 |[],_,vs,us,A,s,e,_,_,j,y,_=>by cases(show vs=[] from e);cases y|_::_,[],vs,us,A,s,_,e,_,j,_,x=>by cases(show us=[] from e);cases x|k::ks,l::ls,_,_,A,s,#[v,r,e,p,q],#[v',r',e',p',q'],u,j,y,x=>by
  subst e e';have u:A.units+max (f9 k) (nkds ks)<cLine:=u;cases j with|zero=>have:=Vh k l v v' A s p p' ();have z:decide (k=l)=decide ((k::ks)[0]?=(l::ls)[0]?):=decide_eq_decide.mpr #[λh=>by rw[h];rfl,λh=>Qm h];rw[<- z];exact this|succ j=>exact nks_eq ks ls r r' A s q q' () j (ww y) (ww x)
end
section
variable{prog:k5}{w:xb}{A:x0}{E:dC}{s:kt}
mutual
theorem LU:∀(k:NK) (v:kb) (n:Nat) (Q:Bool->kt->Prop),i6 s.1 k v->f9 k<=n->Q kf s->ku (k0 prog w) A (nG n v) Q E s
 | .s x,v,n,Q,#[t,e],_,q=>by subst e;rw[eqIsQuiet_byValue _ rfl];exact QL q|.t ks,v,n,Q,#[a,its,e,#[o,ho,hc,m,hd],hi],g,q=>by
  subst e;have g:nkds ks+1<=n:=g;obtain⟨n,rfl⟩:∃m,n=m+1:=#[n - 1,()]
  have i:s.TypeIs (.ref a) "tuple":=#[o,ho,hc]
  unfold nG;refine QD (QBE i F.slot_tuple_eq.lookup ?_);show ku _ _ (isInstance (.ref a) (.type "tuple") >>= _) _ _ s;refine QD (Wx i isSubtype_tuple_tuple ?_);simp only[W8,Qu,if_false];refine QD (Wq ho hd ?_);refine QD ?_;show ku _ _ (forIn its _ _) _ _ s;rw[<- QBs];refine wpAny_forIn_list _ (λh r z=>r.1=kv/\z=s/\∀v∈h,∀Q:Bool->kt->Prop,Q kf s->ku (k0 prog w) A (nG n v) Q E s) _ ?_ ?_ _ _ #[rfl,rfl,nks_quiet ks its.toList n hi ()];rintro v h r z ⟨f,rfl,y⟩;refine QD (y v QE _ ?_);simp only[W8,Qu,if_false];exact QL #[rfl,rfl,λu b=>y u (QF _ b)];rintro⟨j,l⟩ z ⟨f,rfl,_⟩;cases(show j=kv from f);exact QL q
theorem nks_quiet:∀(ks:List NK) (vs:LW) (n:Nat),NKvs s.1 ks vs->nkds ks<=n->∀v∈vs,∀Q:Bool->kt->Prop,Q kf s->ku (k0 prog w) A (nG n v) Q E s
 |[],vs,n,e,_,v,hv,Q,q=>by cases(show vs=[] from e);cases hv|k::ks,vs,n,#[x,r,e,p,p'],h,v,hv,Q,q=>by subst e;have h:max (f9 k) (nkds ks)<=n:=h;rcases QK.mp hv with rfl|hv;exact LU k v n Q p () q;exact nks_quiet ks r n p' () v hv Q q
end
end
section
variable{H:Hp}{a b:ko}{o:HO}
def cF(prog:k5)(w:xb):th prog w NK where
 is:=λh k a=>i6 h k (.ref a)/\f9 k<=6
 hash:=yz w
 draws:=Kq
 room:=λA=>A.units+8<gp
 inj:=λy u=>g9 y.1 u.1
 keeps:=λ{h m k a d o p q} x j l i=>#[MU (λb f #[ob,e,c,n,v]=>#[ob,(i.2 b λz=>by subst z;cases e.symm.trans j;cases l.symm.trans v).trans e,c,n,v]) x.1,x.2]
 pyHash:=λg hk h=>o0 _ _ _ _ _ hk.1 (by have:=hk.2;omega) h
 eqBool:=λg y u h=>Vh _ _ _ _ _ _ y.1 u.1 (by have:=y.2;omega) _ _ _ _ h
 quiet:=λhk h=>LU _ _ _ _ hk.1 (by have:=hk.2;omega) h
noncomputable abbrev Key:=Sum Int Str
noncomputable def tQ:Key->kb->Bool
 | .inl k,v=>Value.isInt k v|.inr x,v=>Value.isStrOf x v
noncomputable def pz(w:xb):Key->Int
 | .inl k=>hashInt k|.inr x=>hashStr w x
theorem jB:∀{k:Key}{v:kb},tQ k v=kf->(∃i t,k=Sum.inl i/\v=Value.int i t)∨(∃x t,k=Sum.inr x/\v=Value.str x t)
 | .inl i,v,h=>by let#[t,e]:=Value.isInt_shape (k:=i) (v:=v) h;exact .inl #[i,t,rfl,e]|.inr x,v,h=>by let#[t,e]:=Value.isStrOf_shape (x:=x) (v:=v) h;exact .inr #[x,t,rfl,e]
theorem m5(i:Int)(t:Tok):tQ (.inl i) (.int i t)=true:=by simp[tQ,Value.isInt]
theorem sQ(x:Str)(t:Tok):tQ (.inr x) (.str x t)=true:=by simp[tQ,Value.isStrOf]
theorem zo(a b:Int):decide ((Sum.inl a:Key)=Sum.inl b)=(a==b):=by by_cases e:a=b;subst e;simp;have h:¬ (Sum.inl a:Key)=Sum.inl b:=λq=>e (Sum.inl.inj q);rw[dF h];exact(beq_eq_false_iff_ne.mpr e).symm
theorem En(a b:Str):decide ((Sum.inr a:Key)=Sum.inr b)=decide (a=b):=by by_cases e:a=b;subst e;simp;have h:¬ (Sum.inr a:Key)=Sum.inr b:=λq=>e (Sum.inr.inj q);rw[dF h,dF e]
theorem yo(a:Int)(b:Str):decide ((Sum.inl a:Key)=Sum.inr b)=false:=dF (λq=>nomatch q)
theorem jo(a:Str)(b:Int):decide ((Sum.inr a:Key)=Sum.inl b)=false:=dF (λq=>nomatch q)
def mC(prog:k5)(w:xb):PySem.KeyKind prog w Key where
 is:=tQ
 hash:=pz w
 inj:=λv a b f hb=>by
  rcases jB f with⟨i,t,rfl,rfl⟩| ⟨x,t,rfl,rfl⟩
  rcases jB hb with⟨j,u,rfl,e⟩| ⟨y,u,rfl,e⟩
  ·injection e with e1 _;rw[e1]
  exact nomatch e;rcases jB hb with⟨j,u,rfl,e⟩| ⟨y,u,rfl,e⟩
  ·exact nomatch e
  injection e with e1 _;rw[e1]
 byValue:=λk v h=>by rcases jB h with⟨i,t,rfl,rfl⟩| ⟨x,t,rfl,rfl⟩<;>rfl
 pyHash:=λhv h=>by
  rcases jB hv with⟨i,t,rfl,rfl⟩| ⟨x,t,rfl,rfl⟩
  exact wpAny_pyHash_int h;exact QCP h
 eqBool:=λz hv h=>by
  rcases jB z with⟨i,t,rfl,rfl⟩| ⟨x,t,rfl,rfl⟩
  rcases jB hv with⟨j,u,rfl,rfl⟩| ⟨y,u,rfl,rfl⟩
  ·rw[zo]at h;exact QA0 h
  rw[yo]at h;exact QBt i t y u _ _ _ _ h;rcases jB hv with⟨j,u,rfl,rfl⟩| ⟨y,u,rfl,rfl⟩
  ·rw[jo]at h;exact QBu x t j u _ _ _ _ h
  rw[En]at h;exact wpAny_eqBool_str h
 «strs»:=λk x t v h=>by
  rcases jB h with⟨i,u,rfl,e⟩| ⟨y,u,rfl,e⟩
  exact nomatch e;injection e with e1 _;subst e1;cases v<;>rfl
theorem jV(prog:k5)(w:xb)(i:Int)(t:Tok):(mC prog w).is (.inl i) (.int i t)=true:=m5 i t
theorem IU(prog:k5)(w:xb)(x:Str)(t:Tok):(mC prog w).is (.inr x) (.str x t)=true:=sQ x t
set_option genInjectivity true in
inductive V where
 |non|bl (b:Bool)|int (i:Int)|str (x:Str)|byt (b:Array UInt8)|flt (b:UInt64)|ref (a:ko)|ty (n:String)
 deriving DecidableEq
abbrev LV:=List V
def JA:V->kb->Prop
 | .non,u=>u=j2|.bl b,u=>u=Value.bool b|.int i,u=>∃t,u=Value.int i t|.str x,u=>∃t,u=Value.str x t|.byt b,u=>∃t,u=Value.bytes b t|.flt b,u=>∃t,u=Value.float b t|.ref a,u=>u=kx a|.ty n,u=>u=Value.type n
noncomputable abbrev oA:LV->LW->Prop:=xo JA
theorem oA.length{xs:LV}{us:LW}(r:oA xs us):xs.9=us.length:=qE r
theorem oA.get:∀{xs:LV}{us:LW}{i:Nat}{x:V},oA xs us->xs[i]?=jr x->∃u,us[i]?=jr u/\JA x u
 |_,_,_,_,.nil,e=>by simp at e|_,_,0,_,.cons r _,e=>by simp at e;subst e;exact#[_,rfl,r]|_,_,i+1,x,.cons _ t,e=>by let#[u,y,h]:=oA.get (i:=i) (x:=x) t (by simpa using e);exact#[u,by simpa using y,h]
theorem oA.set{x:V}{u:kb}(r:JA x u):∀{xs:LV}{us:LW}(i:Nat),oA xs us->oA (xs.set i x) (us.set i u)
 |_,_,_,.nil=>.nil|_,_,0,.cons _ t=>.cons r t|_,_,i+1,.cons q t=>.cons q (oA.set r i t)
theorem oA.append:∀{xs h:LV}{us ws:LW},oA xs us->oA h ws->oA (xs++h) (us++ws)
 |_,_,_,_,.nil,s=>s|_,_,_,_,.cons r t,s=>.cons r (oA.append t s)
theorem oA.take:∀{xs:LV}{us:LW}(n:Nat),oA xs us->oA (xs.take n) (us.take n)
 |_,_,0,_=>.nil|_,_,_+1,.nil=>.nil|_,_,n+1,.cons r t=>.cons r (oA.take n t)
theorem oA.drop:∀{xs:LV}{us:LW}(n:Nat),oA xs us->oA (xs.drop n) (us.drop n)
 |_,_,0,r=>r|_,_,_+1,.nil=>.nil|_,_,n+1,.cons _ t=>oA.drop n t
def uZ:Option V->Option kb->Prop
 |some v,jr u=>JA v u|none,kv=>True|_,_=>False
def KV{h:Type}:List (h×V)->List (h×kb)->Prop:=xo λ(p:h×V) (q:h×kb)=>p.1=q.1/\JA p.2 q.2
def kV:Key->V
 | .inl i=>.int i|.inr x=>.str x
inductive HO where
 |lst (xs:LV)
 |tup (xs:LV)
 |dK (kvs:List (Key×V))|dT (ep:Nat) (kvs:List (NK×ko×V))
 |set (S:Int->Bool) (n:Nat)
 |ins (C dx:ko) (fs:List (Str×V))
 |own (x:ko)
 |xd (fs:List (Str×V))
 |met (f x:ko)
 |rng (lo hi:Int)
 |frz (o:Obj) (u:HO)
 |tbl (q:Str)
 |ext (φ:vu->Prop)
noncomputable abbrev Hp:=ko->Option HO
noncomputable def FA(H:Hp)(a:ko)(o:HO):Hp:=λb=>if b=a then jr o else H b
theorem ZA:FA H a o a=jr o:=by unfold FA;rw[i0 rfl]
theorem uA(h:b≠a):FA H a o b=H b:=by unfold FA;rw[ii h]
theorem zR{u:HO}:FA (FA H a o) a u=FA H a u:=by funext b;unfold FA;split<;>rfl
theorem YA(h:H a=jr o)(h':H b=kv):a≠b:=by intro e;subst e;rw[h]at h';cases h'
end
section
variable(P:k5)(w:xb)
def fB(H:Hp)(h:vu)(a:ko):HO->Prop
 | .lst k=>k.9<=kn/\∃(z:LW) (n:Nat),oA k z/\h.get? a=jr { cls:=.type "list",data:=.seq z.toArray n }|.tup k=>k.9<=kn/\∃z:LW,oA k z/\a8 h a z.toArray|.dK y=>y.9<=kn/\(a==y1)=kd/\∃m,KV y m/\h.DictOf (mC P w) a m|.dT K y=>y.9<=kn/\(a==y1)=kd/\∃k:List (NK×ko×kb),
   xo (λ(p:NK×ko×V) (q:NK×ko×kb)=>p.1=q.1/\p.2.1=q.2.1/\JA p.2.2 q.2.2) y k /\
   ∃o X,h.get? a=jr o/\o.ExactDict/\o.data=.dict X K/\X.toList=k.map (fy (cF P w))/\(k.map (·.1)).Nodup
 | .set S n=>h.SetOf (intKind P w) a S n|.ins C e fs=>H e=jr (.own a)/\fs.9<=1000/\e≠a/\h.get? a=jr (PySem.W.instObj C e) /\
   ∃b,h.Ns1 e b/\(∀f,uZ (fs.lookup f) (b f))/\PySem.Within b (fs.map (·.1))
 | .own _=>∃o,h.get? a=jr o|.xd fs=>∃b,h.Ns1 a b/\∀f,uZ (fs.lookup f) (b f)|.rng Y Z=>∃t u v,h.get? a=jr { cls:=.type "range",data:=.fields (qG [.int Y t,.int Z u,.int 1 v]) }|.frz o u=>h.get? a=jr o/\fB H h a u|.tbl q=>∃i,h.get? a=jr { cls:=.none,data:=.fields i }/\nc i.toList/\∀j l,f5 j i.toList=jr l->∃c,l=.ref c/\H c=jr (.own a)/\h.CodeRec l q|.met f x=>h.get? a=jr (QAe (.ref f) (.ref x))|.ext g=>g h/\(∃o,h.get? a=jr o)/\∀s r:vu,g s->(∀o,s.get? a=jr o->r.get? a=jr o)->g r
def yP(H:Hp)(h:vu):Prop:=∀a o,H a=jr o->fB P w H h a o
end
section
variable{P:k5}{w:xb}{H i:Hp}{h h':vu}{a:ko}{o:HO}
theorem fB.lt(x:fB P w H h a o):a<h.1.size:=by
 cases o with|lst v=>let#[_,_,_,_,e]:=x;exact QV e|tup v=>let#[_,_,_,p]:=x;exact p.lt|dK z=>let#[_,_,_,_,o,_,_,e,_]:=x;exact QV e|dT j z=>let#[_,_,_,_,o,_,e,_]:=x;exact QV e|set S n=>let#[o,_,_,_,e,_]:=x;exact QV e|ins C l fs=>let#[_,_,_,e,_]:=x;exact QV e|own y=>let#[_,e]:=x;exact QV e|xd fs=>let#[_,#[_,_,_,e,_],_]:=x;exact QV e|rng b g=>let#[_,_,_,e]:=x;exact QV e|frz ob u=>let#[e,_]:=x;exact QV e|tbl q=>let#[_,e,_]:=x;exact QV e|met f y=>exact QV (show h.get? a=jr _ from x)|ext k=>let#[_,#[_,e],_]:=x;exact QV e
theorem Paired.mapP{α z:Type}{F G:α->z->Prop}:∀{y:List α}{x:List z},xo F y x->(∀a b,F a b->G a b)->xo G y x
 |_,_,.nil,_=>.nil|_,_,.cons r t,f=>.cons (f _ _ r) (Paired.mapP t f)
theorem fB.stay(x:fB P w H h a o)(k:∀b u,(b=a∨H b=jr (.own a))->h.get? b=jr u->h'.get? b=jr u)
  (K:∀b,H b=jr (.own a)->i b=jr (.own a)) (O:∀b xs,H b=jr (.tup xs)->i b=jr (.tup xs)):fB P w i h' a o:=by
 induction o with|lst xs=>let#[z,m,n,r,e]:=x;exact#[z,m,n,r,k _ _ (.inl rfl) e]|tup xs=>let#[z,m,r,ob,e,c]:=x;exact#[z,m,r,ob,k _ _ (.inl rfl) e,c]|dK W=>let#[z,y,s,r,ob,j,l,e,c]:=x;exact#[z,y,s,r,ob,j,l,k _ _ (.inl rfl) e,c]|dT l W=>let#[z,y,xs,r,ob,j,e,c]:=x;exact#[z,y,xs,r,ob,j,k _ _ (.inl rfl) e,c]|set S n=>let#[ob,j,l,t,e,c]:=x;exact#[ob,j,l,t,k _ _ (.inl rfl) e,c]|ins C R fs=>let#[d,z,F,e,Z,#[Y,j,l,J,c],r]:=x;exact#[K _ d,z,F,k _ _ (.inl rfl) e,Z,#[Y,j,l,k _ _ (.inr d) J,c],r]|own y=>let#[ob,e]:=x;exact#[ob,k _ _ (.inl rfl) e]|xd fs=>let#[Z,#[Y,j,l,e,c],r]:=x;exact#[Z,#[Y,j,l,k _ _ (.inl rfl) e,c],r]|rng N Q=>let#[t,u,v,e]:=x;exact#[t,u,v,k _ _ (.inl rfl) e]|frz ob u G=>let#[e,q]:=x;exact#[k _ _ (.inl rfl) e,G q]|tbl q=>let#[E,e,t,f]:=x;refine#[E,k _ _ (.inl rfl) e,t,λX L g=>?_];let#[c,rfl,o,c1,ob,s,B,A,I,r]:=f X L g;cases A;exact#[c,rfl,K _ o,c,ob,s,B,rfl,k _ _ (.inr o) I,r]|met f y=>have e:h.get? a=jr (QAe (.ref f) (.ref y)):=x;show h'.get? a=jr (QAe (.ref f) (.ref y));exact k a _ (.inl rfl) e|ext M=>let#[p,#[o,e],st]:=x;exact#[st _ _ p λo q=>k _ _ (.inl rfl) q,#[o,k _ _ (.inl rfl) e],st]
theorem yP.lt(x:yP P w H h)(e:H a=jr o):a<h.1.size:=(x a o e).lt
theorem yP.fresh(x:yP P w H h)(e:h.1.size<=a):H a=none:=by
 cases q:H a with|none=>rfl|some u=>exact i3 (Qr (x.lt q) e) (qS _)
theorem yP.kept(x:yP P w H h)(k:∀b u,h.get? b=jr u->h'.get? b=jr u):yP P w H h':=λa o e =>
 (x a o e).stay (λb u _ q=>k b u q) (λ_ q=>q) λ_ _ q=>q
theorem yP.laid(x:yP P w H h)(k:∀b u,h.get? b=jr u->h'.get? b=jr u)(z:h.1.size<=a)(new:fB P w (FA H a o) h' a o):yP P w (FA H a o) h':=λb u e=>by have y:=x.fresh z;by_cases hb:b=a;subst hb;rw[ZA]at e;cases e;exact new;rw[uA hb]at e;exact(x b u e).stay (λc v _ q=>k c v q) (λc q=>by rw[uA (YA q y)];exact q) λc f q=>by rw[uA (YA q y)];exact q
end
def Rd(H:Hp)(a:ko)(u:HO):Prop:=H a=jr u∨∃o,H a=jr (.frz o u)
theorem Rd.ok{P:k5}{w:xb}{H:Hp}{h:vu}{a:ko}{u:HO}(r:Rd H a u)(x:yP P w H h):fB P w H h a u:=by
 rcases r with r|⟨o,r⟩
 exact x a u r;let#[_,q]:=x a _ r;exact q
def Lq:Option HO->Prop
 |some (.lst _)=>True|some (.dK _)=>True|some (.dT _ _)=>True|some (.set _ _)=>True|some (.ins _ _ _)=>True|some (.ext _)=>True|_=>False
section
variable{P:k5}{w:xb}{H:Hp}{h h':vu}{x e:ko}{a:HO}
theorem yP.write(ok:yP P w H h)(l:Lq (H x))(o:e=x∨H e=jr (.own x))(k:∀b u,b≠e->h.get? b=jr u->h'.get? b=jr u)(m:∃u,h'.get? e=jr u)
  (new:fB P w (FA H x a) h' x a):yP P w (FA H x a) h':=λb u q=>by
 have g:∀c y,H c=jr (.own y)->c≠x:=λc y r z=>by subst z;rw[r]at l;exact l
 have i:∀c j,H c=jr (.tup j)->c≠x:=λc j r z=>by subst z;rw[r]at l;exact l
 by_cases hb:b=x;subst hb;rw[ZA]at q;cases q;exact new;rw[uA hb]at q;by_cases f:b=e;have n:H b=jr (.own x):=by rcases o with z|z;exact i3 (f.trans z) hb;rw[f];exact z
 rw[q]at n;cases n;let#[v,hv]:=m;exact#[v,by rw[f];exact hv];refine(ok b u q).stay (λc v hc r=>k c v ?_ r) (λc r=>by rw[uA (g c b r)];exact r) λc j r=>by rw[uA (i c j r)];exact r
 rcases hc with rfl|hc;exact f;rintro rfl;rcases o with z|z;exact g c b hc z;rw[hc]at z;cases z;exact hb rfl
end
structure Un(fs ex:List ko)(H H':Hp)(h h':vu):Prop where
 keep:∀b o,h.get? b=jr o->H b=kv->b∉fs->b∉ex->h'.get? b=jr o
 slot:∀b o,h.get? b=jr o->H b=kv->b∈fs->b∉ex->∃sl,h'.get? b=jr { o with slots:=sl }
 free:∀b o,h.get? b=jr o->H b=kv->b∉ex->H' b=kv
 there:∀b o,h.get? b=jr o->b∉ex->∃o',h'.get? b=jr o'
 tups:∀b xs,H b=jr (.tup xs)->H' b=jr (.tup xs)
 frzs:∀b o u,H b=jr (.frz o u)->H' b=jr (.frz o u)
 tbls:∀b q,H b=jr (.tbl q)->H' b=jr (.tbl q)
section
variable{y w ex c:List ko}{H d g:Hp}{h v f h':vu}{a x e:ko}{o:HO}
theorem Un.any(u:Un y ex H d h v){b:ko}{ob:Obj}(q:h.get? b=jr ob)(n:H b=kv)(z:b∉ex):∃k,v.get? b=jr { ob with slots:=k }:=by by_cases hb:b∈y;exact u.slot b ob q n hb z;exact#[ob.slots,u.keep b ob q n hb z]
theorem Un.kept(k:∀b u,h.get? b=jr u->h'.get? b=jr u):Un y ex H H h h' :=
 #[λb ob q _ _ _=>k b ob q,λb ob q _ _ _=>#[ob.slots,k b ob q],λ_ _ _ n _=>n,λb ob q _=>#[ob,k b ob q],λ_ _ q=>q,λ_ _ _ q=>q,λ_ _ q=>q]
theorem Un.refl:Un y ex H H h h:=Un.kept λ_ _ q=>q
theorem Un.laid(k:∀b u,h.get? b=jr u->h'.get? b=jr u)(j:h.1.size<=a)(z:H a=kv):Un y ex H (FA H a o) h h' where
 keep:=λb u q _ _ _=>k b u q
 slot:=λb u q _ _ _=>#[u.slots,k b u q]
 free:=λb u q n _=>by rw[uA (Qi (Qr (QV q) j))];exact n
 there:=λb u q _=>#[u,k b u q]
 tups:=λb i q=>by rw[uA (YA q z)];exact q
 frzs:=λb u i q=>by rw[uA (YA q z)];exact q
 tbls:=λb l q=>by rw[uA (YA q z)];exact q
theorem Un.write(j:Lq (H x))(X:e=x∨H e=jr (.own x))(k:∀b u,b≠e->h.get? b=jr u->h'.get? b=jr u)(m:∃u,h'.get? e=jr u):Un y ex H (FA H x o) h h':=by
 have p:∀b,H b=kv->b≠x:=λb n z=>by subst z;rw[n]at j;exact j
 have hb:∀b,H b=kv->b≠e:=λb n z=>by subst z;rcases X with r|r;exact p b n r;rw[n]at r;cases r
 have l:∀b u,H b=jr u->¬ Lq (jr u)->b≠x:=λb u q nm z=>by subst z;rw[q]at j;exact nm j
 refine#[λb u q n _ _=>k b u (hb b n) q,λb u q n _ _=>#[u.slots,k b u (hb b n) q],λb u q n _=>by rw[uA (p b n)];exact n,λb u q _=>?_,
  λb s q=>by rw[uA (l b _ q λz=>z)];exact q,λb u s q=>by rw[uA (l b _ q λz=>z)];exact q,λb Y q=>by rw[uA (l b _ q λz=>z)];exact q]
 by_cases i:b=e;subst i;exact m;exact#[u,k b u i q]
end
section
variable{h:vu}{b:ko}{o:Obj}
noncomputable def Mw(h:vu)(H:Hp):List Addr:=(Qo h.1.size).filter λa=>(H a).isSome
def US(h:vu)(H:Hp):Heap:=PySem.W.hideAll h (Mw h H)
theorem Y5(h:vu)(H:Hp):(US h H).1.size=h.1.size:=PySem.W.hideAll_size _ _
theorem Ja{H:Hp}(e:h.get? b=jr o)(n:H b=kv):(US h H).get? b=jr o :=
 PySem.W.hideAll_get _ e λx=>by have q:(H b).isSome=true:=(QX.mp x).2;rw[n]at q;simp at q
theorem Se{H:Hp}(e:(US h H).get? b=jr o):h.get? b=jr o/\H b=none:=by
 have y:h.get? b=jr o:=PySem.W.of_hideAll (Mw h H) e;refine#[y,?_];cases q:H b with|none=>rfl|some x=>have u:b∈Mw h H:=QX.mpr #[qW.mpr (QV y),by simp[q]];have z:(US h H).get? b=none:=PySem.W.hideAll_none (Mw h H) u;rw[z]at e;cases e
structure Mod(K:QC)(mg:Str->Option kb)(base:vu):Prop where
 kin:K.In base
 glob:base.Ns k4 mg
 blt:∃mb,base.Ns ef mb/\∀x:Str,x≠"__name__"->mb x=g7 x
 nolimit:base.NoLimit
structure Cx where
 prog:k5
 w:xb
 K:QC
 mg:Str->Option kb
 base:vu
 A:x0
 N:LS
 s₀:kt
 H₀:Hp
 env:Env
 outer:List Env
 stack:List Env
 ex:List ko
 fn:Str->Bool
 calm:Bool
 pn:IB
 xe:kb->kt->Prop
def C1(l:List Env):List Addr:=l.filterMap (·.frame)
noncomputable abbrev Cx.fs(X:Cx):List Addr:=C1 X.outer
def Rv(sc:hE)(x:Str):Prop:=sc.names.lookup x=jr .local∨sc.names.lookup x=jr .cell∨sc.names.lookup x=jr .free
def Mq(sc:hE)(x:Str):Prop:=sc.names.lookup x=jr .local∨sc.names.lookup x=jr .cell
def jAd(env:Env)(h:vu)(m:Str->Option kb)(x:Str)(u:kb):Prop :=
 (env.kindOf x=jr .local/\m x=jr u)∨((env.kindOf x=jr .cell∨env.kindOf x=jr .free)/\∃c,env.cells.lookup x=jr c/\h.IsCell c (jr u))
def FQ(mg:Str->Option kb)(x:vu)(P:ko)(q:Str):Prop :=
 ∃f o y c,mg "going_order"=jr (.ref f)/\x.get? f=jr o/\o.data=.func y/\y.code=.ref c/\PySem.W.CodeHd x c P/\q=y.qualname++".<locals>.<lambda>"
structure Cx.Ok(X:Cx):Prop where
 mod:Mod X.K X.mg X.base
 kind:X.env.scope.kind=.function
 glob:X.env.globals=k4
 blt:X.env.builtins=ef
 above:X.s₀.1.1.size<=X.env.locals
 inj:∀x y c,X.env.cells.lookup x=jr c->X.env.cells.lookup y=jr c->x=y
 has:∀x,(X.env.kindOf x=jr .cell∨X.env.kindOf x=jr .free)->∃c,X.env.cells.lookup x=jr c
 cab:∀x c,X.fn x=kf->X.env.cells.lookup x=jr c->X.s₀.1.1.size<=c
 hd:X.calm=kf->X.A.handled=kv
 frames:X.A.frames=jr X.stack
 stk:X.stack=X.outer∨(X.stack=X.env::X.outer/\X.env.frame=jr X.env.locals)
 exf:∀b∈X.ex,b≠X.env.locals/\∀x c,X.env.cells.lookup x=jr c->c≠b
 bs:∀b o,X.base.get? b=jr o->X.s₀.1.get? b=jr o/\X.H₀ b=kv
 bsz:X.base.1.size<=X.s₀.1.1.size
 noex:∀b o,X.base.get? b=jr o->b∉X.ex
 exfs:∀b∈X.ex,b∉X.fs
 funs:X.s₀.1.FunFrames X.base X.outer
 frf:∀b∈X.fs,X.H₀ b=kv
 tb:∀P q,FQ X.mg X.base P q->X.H₀ P=jr (.tbl q)
structure Inv(X:Cx)(pins:IB)(σ:List (Option V))(H:Hp)(s:kt):Prop where
 ok:X.Ok
 os:s.os=X.s₀.os
 bare:ax s.gens
 base:Un X.fs X.ex X.H₀ H X.s₀.1 s.1
 loc:∃m,s.1.Ns X.env.locals m/\∀(i:Nat) (x:Str) (v:V),X.N[i]?=jr x->σ[i]?=jr (jr v)->Rv X.env.scope x->∃u,JA v u/\jAd X.env s.1 m x u
 cell:∀x c,X.env.cells.lookup x=jr c->∃v,s.1.IsCell c v
 free:H X.env.locals=kv
 freeC:∀x c,X.env.cells.lookup x=jr c->H c=kv
 pin:∀p∈X.pn++pins,s.1.get? p.1=jr p.2/\H p.1=kv/\p.1≠X.env.locals/\p.1∉X.fs/\∀v,p.2.data≠.cell v
 hok:yP X.prog X.w H s.1
 len:σ.9=X.N.9
end
section
variable{X:Cx}{f:IB}{σ:List (Option V)}{H g:Hp}{s:kt}{h':vu}
section
variable{a:ko}{g':Array GenState}{ch:List ko}{i:Nat}{x:Str}{M:Model}{A:x0}{E:dC}{u:kb}{Q:Unit->kt->Prop}
theorem Cx.Ok.nofr(ok:X.Ok){b:ko}{o:Obj}(e:X.base.get? b=jr o):b∉X.fs:=λhb=>by have:=(ok.funs.mem hb).1;rw[e]at this;cases this
theorem Inv.bs(I:Inv X f σ H s):∀b o,X.base.get? b=jr o->s.1.get? b=jr o/\H b=none:=λb o e =>
 #[I.base.keep b o (I.ok.bs b o e).1 (I.ok.bs b o e).2 (I.ok.nofr e) (I.ok.noex b o e),I.base.free b o (I.ok.bs b o e).1 (I.ok.bs b o e).2 (I.ok.noex b o e)]
theorem Inv.bk(I:Inv X f σ H s):∀b o,X.base.get? b=jr o->s.1.get? b=jr o:=λb o e=>(I.bs b o e).1
theorem Inv.tb(I:Inv X f σ H s):∀P q,FQ X.mg X.base P q->H P=jr (.tbl q):=λP q h=>I.base.tbls P q (I.ok.tb P q h)
theorem Inv.mod(I:Inv X f σ H s):Mod X.K X.mg X.base:=I.ok.mod
theorem Inv.kIn(I:Inv X f σ H s):X.K.In s.heap:=I.ok.mod.kin.keeps I.bk
theorem Inv.nolimit(I:Inv X f σ H s):s.1.NoLimit:=I.ok.mod.nolimit.keeps I.bk
theorem Inv.lt(I:Inv X f σ H s):X.env.locals<s.1.1.size:=let#[_,h,_]:=I.loc;h.lt
theorem Inv.sz(I:Inv X f σ H s):X.s₀.1.1.size<=s.1.1.size:=QW I.ok.above (QBF I.lt)
theorem Inv.nofs(I:Inv X f σ H s)(h:s.1.1.size<=a):a∉X.fs:=λhb=>by let#[_,o,y,_]:=I.ok.funs.mem hb;exact i3 (Qr (QV y) (QW I.sz h)) (qS _)
theorem Inv.cne(I:Inv X f σ H s):∀x c,X.env.cells.lookup x=jr c->c≠X.env.locals:=λx c e z=>by let#[v,o,w,k]:=I.cell x c e;let#[m,#[b,j,l,h,y,_],_]:=I.loc;rw[z,h]at w;cases w;rw[y]at k;cases k
theorem Inv.funs(I:Inv X f σ H s):s.1.FunFrames X.base X.outer:=by
 have all:∀(l:List Env),(∀b∈C1 l,b∈X.fs)->X.s₀.1.FunFrames X.base l->s.1.FunFrames X.base l:=by
  intro l;induction l with|nil=>intro _ _;trivial|cons p r w=>intro v hl;let#[hk,#[L,o,h,m,j,n],k]:=hl;have y:L∈X.fs:=v L (by unfold C1;rw[WN,h];exact QE);let#[q,e]:=I.base.slot L o j (I.ok.frf L y) y λz=>I.ok.exfs L z y;exact#[hk,#[L,_,h,m,e,n],w (λb hb=>v b (by unfold C1;rw[WN,h];exact QF _ hb)) k]
 exact all X.outer (λ_ hb=>hb) I.ok.funs
theorem Inv.stack(I:Inv X f σ H s):s.1.FunFrames X.base X.stack:=by
 rcases I.ok.stk with e|⟨e,y⟩
 rw[e];exact I.funs;rw[e];let#[m,h,_]:=I.loc;refine .cons (by rw[I.ok.kind];decide) y h ?_ I.funs;exact Heap.get?_none_of_le (QW I.ok.bsz I.ok.above)
theorem Inv.stkSub(I:Inv X f σ H s):∀b∈C1 X.stack,b∈X.env.locals::X.fs:=λb hb=>by
 rcases I.ok.stk with e|⟨e,h⟩
 rw[e]at hb;exact QF _ hb;rw[e]at hb;unfold C1 at hb;rw[WN,h]at hb;exact hb
theorem Inv.stkFree(I:Inv X f σ H s):∀b∈C1 X.stack,H b=none:=λb hb=>by rcases QK.mp (I.stkSub b hb) with e|hb;rw[e];exact I.free;let#[_,o,h,_]:=I.ok.funs.mem hb;exact I.base.free b o h (I.ok.frf b hb) λz=>I.ok.exfs b z hb
theorem Inv.step{t':Nat}{d':Drawn}(I:Inv X f σ H s)
  (j:∀b∈ch,(b∈X.ex∨X.s₀.1.1.size<=b)/\b≠X.env.locals/\(∀x c,X.env.cells.lookup x=jr c->c≠b)/\∀p∈X.pn++f,p.1≠b)
  (keep:∀b o,b≠X.env.locals->b∉X.fs->b∉ch->s.1.get? b=jr o->H b=kv->h'.get? b=jr o)
  (W:∀b o,b≠X.env.locals->b∈X.fs->b∉ch->s.1.get? b=jr o->H b=kv->∃R,h'.get? b=jr { o with slots:=R }) (free:∀b o,b∉ch->s.1.get? b=jr o->H b=kv->g b=kv)
  (K:∀b o,b∉ch->s.1.get? b=jr o->∃J,h'.get? b=jr J)
  (F:∀b xs,H b=jr (.tup xs)->g b=jr (.tup xs)) (N:∀b o u,H b=jr (.frz o u)->g b=jr (.frz o u)) (G:∀b O,H b=jr (.tbl O)->g b=jr (.tbl O))
  (ns:∀m,s.1.Ns X.env.locals m->h'.Ns X.env.locals m) (S:yP X.prog X.w g h') (hg:ax g') :
  Inv X f σ g { s with heap:=h',gens:=g',drawn:=d',toks:=t' }:=by
 have L:∀b o,X.s₀.1.get? b=jr o->b≠X.env.locals:=λb o e=>Qi (Qr (QV e) I.ok.above);have Z:∀b o,X.s₀.1.get? b=jr o->b∉X.ex->b∉ch:=λb o e h hb=>by rcases(j b hb).1 with z|z;exact h z;exact i3 (Qr (QV e) z) (qS _)
 have Y:∀x c,X.env.cells.lookup x=jr c->∀v,s.1.IsCell c v->h'.IsCell c v:=λx c e v #[o,C,hd]=>by have y:c∉ch:=λz=>(j c z).2.2.1 x c e rfl;by_cases hc:c∈X.fs;let#[R,q]:=W c o (I.cne x c e) hc y C (I.freeC x c e);exact#[_,q,hd];exact#[o,keep c o (I.cne x c e) hc y C (I.freeC x c e),hd]
 refine#[I.ok,I.os,hg,#[λb o e n hb h=>?_,λb o e n hb h=>?_,λb o e n h=>?_,λb o e h=>?_,λb xs e=>F b xs (I.base.tups b xs e),λb o xs e=>N b o xs (I.base.frzs b o xs e),λb O e=>?_],?_,λx c e=>?_,?_,λx c e=>?_,λp hp=>?_,S,I.len];exact keep b o (L b o e) hb (Z b o e h) (I.base.keep b o e n hb h) (I.base.free b o e n h);let#[R,B]:=I.base.slot b o e n hb h;let#[P,e2]:=W b _ (L b o e) hb (Z b o e h) B (I.base.free b o e n h);exact#[P,e2];let#[J,B]:=I.base.there b o e h;exact free b J (Z b o e h) B (I.base.free b o e n h);let#[J,B]:=I.base.there b o e h;exact K b J (Z b o e h) B;exact G b _ (I.base.tbls b O e);let#[m,hn,hl]:=I.loc;refine#[m,ns m hn,λi x v B e2 e3=>?_];let#[u,r,l]:=hl i x v B e2 e3;refine#[u,r,?_];rcases l with l|⟨k,c,e,z⟩
 exact .inl l;exact .inr #[k,c,e,Y x c e _ z];let#[v,z]:=I.cell x c e;exact#[v,Y x c e v z];let#[m,#[o,_,_,C,_],_]:=I.loc;exact free _ o (λz=>(j _ z).2.1 rfl) C I.free;let#[v,o,C,hd]:=I.cell x c e;exact free c o (λz=>(j c z).2.2.1 x c e rfl) C (I.freeC x c e);let#[e,n,ne,nf,d]:=I.pin p hp;have y:p.1∉ch:=λz=>(j p.1 z).2.2.2 p hp rfl;exact#[keep p.1 p.2 ne nf y e n,free p.1 p.2 y e n,ne,nf,d]
theorem Inv.un{t':Nat}(I:Inv X f σ H s)(u:Un X.fs [] H g s.1 h')(y:yP X.prog X.w g h'):Inv X f σ g { s with heap:=h',toks:=t' }:=by let#[m,#[o,K,B,j,r],_]:=id I.loc;let#[Y,q]:=u.any j I.free (by simp);exact I.step (g':=s.gens) (d':=s.drawn) (ch:=[]) (λ_ z=>nomatch z) (λb o _ hb _ e n=>u.keep b o e n hb (by simp)) (λb o _ hb _ e n=>u.slot b o e n hb (by simp)) (λb o _ e n=>u.free b o e n (by simp)) (λb o _ e=>u.there b o e (by simp)) u.tups u.frzs u.tbls (λW p=>by let#[Z,v,k,h,l]:=p;rw[j]at h;cases h;exact#[_,v,k,q,l]) y I.bare
theorem Inv.call{t':Nat}{d':Drawn}(I:Inv X f σ H s)(u:Un (C1 X.stack) ch H g s.1 h')(v:yP X.prog X.w g h')(W:ax g')
  (y:∀b∈ch,(b∈X.ex∨X.s₀.1.1.size<=b)/\b≠X.env.locals/\(∀x c,X.env.cells.lookup x=jr c->c≠b)/\∀p∈X.pn++f,p.1≠b) :
  Inv X f σ g { s with heap:=h',gens:=g',drawn:=d',toks:=t' }:=by
 let#[m,#[o,F,G,q,r],_]:=id I.loc;let#[K,k]:=u.any q I.free λz=>(y _ z).2.1 rfl;exact I.step (ch:=ch) y (λb o k hb hc e n=>u.keep b o e n (λz=>(QK.mp (I.stkSub b z)).elim k hb) hc) (λb o _ _ hc e n=>u.any e n hc) (λb o hc e n=>u.free b o e n hc) (λb o hc e=>u.there b o e hc) u.tups u.frzs u.tbls (λC Z=>by let#[B,j,l,h,Y]:=Z;rw[q]at h;cases h;exact#[_,j,l,k,Y]) v W
theorem Inv.turned{t':Nat}{it:ko}(I:Inv X f σ H s)(k:∀b o,b≠it->s.1.get? b=jr o->h'.get? b=jr o)(j:H it=kv)(y:it≠X.env.locals)
  (W:it∈X.ex∨X.s₀.1.1.size<=it) (Z:∀x c,X.env.cells.lookup x=jr c->c≠it) (Y:∀p∈X.pn++f,p.1≠it):Inv X f σ H { s with heap:=h',toks:=t' }:=by
 have h:∀b u,H b=jr u->b≠it:=λb u e z=>by rw[z,j]at e;cases e
 refine I.step (g':=s.gens) (d':=s.drawn) (ch:=[it]) (λb hb=>?_) (λb o _ _ hc e _=>k b o (λz=>hc (by simp[z])) e) (λb o _ _ hc e _=>#[o.slots,k b o (λz=>hc (by simp[z])) e]) (λ_ _ _ _ n=>n)
  (λb o hc e=>#[o,k b o (λz=>hc (by simp[z])) e]) (λ_ _ e=>e) (λ_ _ _ e=>e) (λ_ _ e=>e) (λm l=>?_) (λb u e=>?_) I.bare
 have e:b=it:=by simpa using hb
 subst e;exact#[W,y,Z,Y];let#[o,K,B,w,r]:=l;exact#[o,K,B,k _ o (qC y) w,r];refine(I.hok b u e).stay (λc v hc q=>k c v ?_ q) (λ_ q=>q) λ_ _ q=>q;rcases hc with z|z;rw[z];exact h b u e;exact h c _ z
theorem Inv.tok(I:Inv X f σ H s)(t:Nat):Inv X f σ H { s with toks:=t }:=I.un (h':=s.1) (t':=t) Un.refl I.hok
theorem Inv.kept{t':Nat}(I:Inv X f σ H s)(k:∀b u,s.1.get? b=jr u->h'.get? b=jr u):Inv X f σ H { s with heap:=h',toks:=t' }:=I.un (Un.kept k) (I.hok.kept k)
theorem Inv.laid{o:HO}{t':Nat}(I:Inv X f σ H s)(k:∀b u,s.1.get? b=jr u->h'.get? b=jr u)(h:s.1.1.size<=a)(new:fB X.prog X.w (FA H a o) h' a o) :
  Inv X f σ (FA H a o) { s with heap:=h',toks:=t' }:=I.un (Un.laid k h (I.hok.fresh h)) (I.hok.laid k h new)
theorem Inv.write{x e:ko}{o:HO}{t':Nat}(I:Inv X f σ H s)(y:Lq (H x))(z:e=x∨H e=jr (.own x))(k:∀b u,b≠e->s.1.get? b=jr u->h'.get? b=jr u)(h:∃u,h'.get? e=jr u)
  (new:fB X.prog X.w (FA H x o) h' x o):Inv X f σ (FA H x o) { s with heap:=h',toks:=t' }:=I.un (Un.write y z k h) (I.hok.write y z k h new)
theorem Inv.pins_of{y:IB}(I:Inv X f σ H s)(h:∀p∈y,s.1.get? p.1=jr p.2/\H p.1=kv/\p.1≠X.env.locals/\p.1∉X.fs/\∀v,p.2.data≠.cell v):Inv X y σ H s :=
 #[I.ok,I.os,I.bare,I.base,I.loc,I.cell,I.free,I.freeC,λp w=>(Qf.mp w).elim (λz=>I.pin p (Ql _ z)) (h p),I.hok,I.len]
theorem FU{N:LS}(h:N.Nodup){j:Nat}(a:N[i]?=jr x)(b:N[j]?=jr x):i=j:=by let#[w,z]:=Qh.mp a;let#[v,y]:=Qh.mp b;exact(List.getElem_inj h).mp (z.trans y.symm)
theorem LP{v:V}(I:Inv X f σ H s)(hN:X.N.Nodup)(O:X.N[i]?=jr x)(W:Mq X.env.scope x)(r:JA v u)
  (h:∀s',Inv X f (σ.set i (jr v)) H s'->(∃a,qa a s.1 s'.1/\(a=X.env.locals∨X.env.cells.lookup x=jr a))->Q Unit.unit s') (hf:X.fn x=kf∨X.env.scope.names.lookup x=jr .local):ku M A (storeName X.env x u) Q E s:=by
 let#[m,hn,hl]:=id I.loc;have P:(X.env.scope.kind==.class||(X.env.scope.kind==.module&&X.env.locals != X.env.globals))=false:=by rw[I.ok.kind];rfl
 have C:i<σ.length:=by rw[I.len];exact(Qh.mp O).1
 have cne:=I.cne;have Y:∀{a:ko}{h':vu},(∃o,s.1.get? a=jr o/\H a=kv)->qa a s.1 h'->yP X.prog X.w H h':=λ{a h'} ha l b ob e=>by let#[_,_,K]:=ha;refine(I.hok b ob e).stay (λc w' hc q=>(l.2 c ?_).trans q) (λ_ q=>q) λ_ _ q=>q;rintro rfl;rcases hc with rfl|hc;rw[K]at e;cases e;rw[K]at hc;cases hc
 rcases W with hk|hk;refine wpAny_storeName_local hk hn (λh' hn' l=>?_) P;let#[oL,_,_,hoL,_]:=id hn;refine h _ #[I.ok,I.os,I.bare,#[λb o e n hb W=>?_,λb o e n hb W=>?_,I.base.free,λb o e W=>?_,I.base.tups,I.base.frzs,I.base.tbls],#[_,hn',λj y v' Z B e3=>?_],λy c e=>?_,I.free,I.freeC,λp hp=>?_,Y #[oL,hoL,I.free] l,by simpa using I.len] #[_,l,.inl rfl];exact(l.2 b (Qi (Qr (QV e) I.ok.above))).trans (I.base.keep b o e n hb W);let#[sl,Z]:=I.base.slot b o e n hb W;exact#[sl,(l.2 b (Qi (Qr (QV e) I.ok.above))).trans Z];let#[o',Z]:=I.base.there b o e W;exact#[o',(l.2 b (Qi (Qr (QV e) I.ok.above))).trans Z];by_cases F:j=i
 ·subst F
  rw[O]at Z;cases Z;rw[qi C]at B;cases B;exact#[u,r,.inl #[hk,by simp]]
 rw[qV (qC F)]at B;let#[u',r',q]:=hl j y v' Z B e3;refine#[u',r',?_];rcases q with⟨k,e⟩| ⟨k,c,e,z⟩
 refine .inl #[k,?_];have:y≠x:=λe=>F (FU hN Z (e▸O));simp[this,e];exact .inr #[k,c,e,z.sameBut l (cne y c e)];let#[w',z]:=I.cell y c e;exact#[w',z.sameBut l (cne y c e)];let#[e,n,ne,nf,d]:=I.pin p hp;exact#[(l.2 p.1 ne).trans e,n,ne,nf,d];have G:X.fn x=true:=by rcases hf with z|z;exact z;rw[z]at hk;cases hk
 let#[c,hc]:=I.ok.has x (.inl hk);let#[w',z]:=I.cell x c hc;refine wpAny_storeName_cell I.ok.kind hk hc z (λh' S l=>?_);let#[oc,L,J]:=id z;refine h { s with heap:=h' } #[I.ok,I.os,I.bare,#[λb o e n hb W=>?_,λb o e n hb W=>?_,I.base.free,λb o e W=>?_,I.base.tups,I.base.frzs,I.base.tbls],#[m,hn.sameBut l (qC (cne x c hc)),λj y v' Z B e3=>?_],λy c' e=>?_,I.free,I.freeC,λp hp=>?_,Y #[oc,L,I.freeC x c hc] l,by simpa using I.len] #[c,l,.inr hc];exact(l.2 b (Qi (Qr (QV e) (I.ok.cab x c G hc)))).trans (I.base.keep b o e n hb W);let#[sl,Z]:=I.base.slot b o e n hb W;exact#[sl,(l.2 b (Qi (Qr (QV e) (I.ok.cab x c G hc)))).trans Z];let#[o',Z]:=I.base.there b o e W;exact#[o',(l.2 b (Qi (Qr (QV e) (I.ok.cab x c G hc)))).trans Z];by_cases F:j=i
 ·subst F
  rw[O]at Z;cases Z;rw[qi C]at B;cases B;exact#[u,r,.inr #[.inl hk,c,hc,S]]
 rw[qV (qC F)]at B;let#[u',r',q]:=hl j y v' Z B e3;refine#[u',r',?_];rcases q with q|⟨k,c',e,z'⟩
 exact .inl q;refine .inr #[k,c',e,z'.sameBut l ?_];rintro rfl;exact F (FU hN Z (I.ok.inj _ _ _ e hc▸O));by_cases R:c'=c
 ·subst R;exact#[_,S]
 let#[w2,z2]:=I.cell y c' e;exact#[w2,z2.sameBut l R];let#[e,n,ne,nf,d]:=I.pin p hp;refine#[(l.2 p.1 ?_).trans e,n,ne,nf,d];intro q;rw[q,L]at e;have q':oc=p.2:=Qm e;exact d w' (by rw[<- q'];exact J)
theorem zU{v:V}(I:Inv X f σ H s)(k:X.N.Nodup)(z:X.N[i]?=jr x)(y:Mq X.env.scope x)(r:JA v u)
  (h:∀s',Inv X f (σ.set i (jr v)) H s'->Q Unit.unit s') (w:X.fn x=kf∨X.env.scope.names.lookup x=jr .local):ku M A (storeName X.env x u) Q E s :=
 LP I k z y r (λs' b _=>h s' b) w
theorem Inv.call'{s':kt}(I:Inv X f σ H s)(v:s'.os=s.os)(u:Un (C1 X.stack) ch H g s.1 s'.1)(h:yP X.prog X.w g s'.1)(k:ax s'.gens)
  (y:∀b∈ch,(b∈X.ex∨X.s₀.1.1.size<=b)/\b≠X.env.locals/\(∀x c,X.env.cells.lookup x=jr c->c≠b)/\∀p∈X.pn++f,p.1≠b):Inv X f σ g s':=by
 let#[h',g',d',t',z]:=s';have e:z=s.os:=v;subst e;exact I.call (g':=g') (t':=t') (d':=d') u h k y
end
end
noncomputable abbrev XK:=kb->Option ko->Hp->Prop
noncomputable abbrev St:=List (Option V)
noncomputable abbrev VK:=V->Hp->Prop
noncomputable abbrev TE:=St->Hp->VK->Prop
noncomputable abbrev TT:=St->Hp->(Bool->Hp->Prop)->Prop
noncomputable abbrev TA:=St->Hp->(LV->Hp->Prop)->Prop
structure Ends where
 nx:St->Hp->Prop
 rt:VK
 bk:St->Hp->Prop:=λ_ _=>False
 ct:St->Hp->Prop:=λ_ _=>False
noncomputable abbrev TS:=Ends->St->Hp->Prop
def EP(X:Cx)(h:IB)(σ:St)(Q:VK)(u:kb)(s':kt):Prop:=∃v x,Inv X h σ x s'/\JA v u/\Q v x
def TP(X:Cx)(h:IB)(σ:St)(Q:Bool->Hp->Prop)(b:Bool)(s':kt):Prop:=∃x,Inv X h σ x s'/\Q b x
def AP(X:Cx)(h:IB)(σ:St)(Q:LV->Hp->Prop)(us:LW)(s':kt):Prop:=∃x y,Inv X h σ y s'/\oA x us/\Q x y
def SP(X:Cx)(x:IB)(D:Ends)(f:Flow)(s':kt):Prop :=
 match f with
 | .next=>∃h y,Inv X x h y s'/\D.nx h y|.brk=>∃h y,Inv X x h y s'/\D.bk h y|.cont=>∃h y,Inv X x h y s'/\D.ct h y|.ret u=>∃v h y,Inv X x h y s'/\JA v u/\D.rt v y
def PE(X:Cx)(e:Expr)(t:TE):Prop :=
 ∀(h:IB) (s:kt) (x:St) (H:Hp) (Q:VK),Inv X h x H s->t x H Q->ku (k0 X.prog X.w) X.A (g6 e X.env) (EP X h x Q) X.xe s
def PT(X:Cx)(e:Expr)(t:TT):Prop :=
 ∀(h:IB) (s:kt) (x:St) (H:Hp) (Q:Bool->Hp->Prop),Inv X h x H s->t x H Q->ku (k0 X.prog X.w) X.A (isTrue e X.env (g6 e X.env)) (TP X h x Q) X.xe s
def PW(X:Cx)(e:Expr)(t:TT):Prop :=
 ∀(x:Sem kb) (h:IB) (s:kt) (y:St) (H:Hp) (Q:Bool->Hp->Prop),Inv X h y H s->t y H Q->ku (k0 X.prog X.w) X.A (isTrue e X.env x) (TP X h y Q) X.xe s
theorem PW.pt{X:Cx}{e:Expr}{t:TT}(h:PW X e t):PT X e t:=h _
def PA(X:Cx)(es:List Expr)(t:TA):Prop :=
 ∀(y:Pos) (h:IB) (s:kt) (x:St) (H:Hp) (Q:LV->Hp->Prop),Inv X h x H s->t x H Q->ku (k0 X.prog X.w) X.A (ew (fv y (xk es X.env))) (AP X h x Q) X.xe s
def PS(X:Cx)(st:gV)(t:TS):Prop :=
 ∀(h:IB) (s:kt) (x:St) (H:Hp) (D:Ends),Inv X h x H s->t D x H->ku (k0 X.prog X.w) X.A (exec st X.env) (SP X h D) X.xe s
def bZ(X:Cx)(st:List gV)(t:TS):Prop :=
 ∀(h:IB) (s:kt) (x:St) (H:Hp) (D:Ends),Inv X h x H s->t D x H->ku (k0 X.prog X.w) X.A (execs st X.env) (SP X h D) X.xe s
theorem DB{α:Type}{t:Sem α}{Q y:α->kt->Prop}{M:Model}{A:x0}{E:dC}{s:kt}(h:ku M A t Q E s)(z:∀a s,Q a s->y a s):ku M A t y E s:=qm h z λ_ _ x=>x
section
variable{X:Cx}
section
variable{z:IB}{s:kt}{σ:St}{H:Hp}{x:Str}{pos:Pos}{E Q:dC}{u:kb}
theorem bin{a b:Expr}{ta tb:TE}(r:PE X a ta)(hb:PE X b tb){R:V->V->Hp->Prop}(I:Inv X z σ H s)(h:ta σ H λx j=>tb σ j λy k=>R x y k)
  {α:Type}{Q:α->kt->Prop}{f:kb->kb->Sem α}
  (q:∀v u i x y k,Inv X z σ k i->JA x v->JA y u->R x y k->ku (k0 X.prog X.w) X.A (f v u) Q X.xe i) :
  ku (k0 X.prog X.w) X.A (g6 a X.env) (λv g=>ku (k0 X.prog X.w) X.A (g6 b X.env) (λu e=>ku (k0 X.prog X.w) X.A (f v u) Q X.xe e) X.xe g) X.xe s:=by
 refine DB (r z s σ H _ I h) λv l #[x,j,Z,n,p]=>?_;refine DB (hb z l σ j _ Z p) λu i #[y,k,Y,m,o]=>?_;exact q v u i x y k Y n m o
def jy(i:Nat):TE:=λσ H Q=>∃v,σ[i]?=jr (jr v)/\Q v H
def tC(v:V):TE:=λ_ H Q=>Q v H
theorem m8{i:Nat}(f:X.N[i]?=jr x)(hv:Rv X.env.scope x)(w:(x==("__debug__":Str))=false:=by decide)(k:(x==("__classdict__":Str))=false:=by decide):PE X (.Name x pos) (jy i):=by
 intro z s σ H Q I h;let#[v,e,h]:=h;let#[m,a,hl]:=I.loc;let#[u,r,l]:=hl i x v f e hv;have fin:EP X z σ Q u s:=#[v,H,I,r,h]
 rcases l with⟨hk,b⟩| ⟨hk,c,hc,y⟩
 exact QBS (QBV I.ok.kind hk a b fin) w;rcases hk with hk|hk
 ·exact QBS (wpAny_loadName_cell I.ok.kind hk hc y fin) w
 exact QBS (QBh I.ok.kind hk hc y fin k) w
theorem rX{i j pos}:PE X (.Constant (.int i) j pos) (tC (.int i)):=λ_ _ _ H _ I h=>QBv #[.int i,H,I.tok _,#[_,rfl],h]
theorem nh{b j pos}:PE X (.Constant (.bool b) j pos) (tC (.bl b)):=λ_ _ _ H _ I h=>Constant_bool #[.bl b,H,I,rfl,h]
theorem t8{j pos}:PE X (.Constant .none j pos) (tC .non):=λ_ _ _ H _ I h=>Constant_none #[.non,H,I,rfl,h]
theorem Ol{x j pos}:PE X (.Constant (.str x) j pos) (tC (.str x)):=λ_ _ _ H _ I h=>Calls.Constant_str #[.str x,H,I.tok _,#[_,rfl],h]
def Gl(X:Cx)(x:Str):Prop:=X.env.kindOf x=jr .globalImplicit
theorem oS(I:Inv X z σ H s)(v:Gl X x)(y:X.mg x=jr u)(h:Q u s)
  (k:(x==("__debug__":Str))=false:=by decide):ku (k0 X.prog X.w) X.A (g6 (.Name x pos) X.env) Q E s :=
 QAL I.ok.kind v (Calls.loadGlobal_global (by rw[I.ok.glob];exact I.mod.glob.keeps I.bk) y h) k
theorem nE(I:Inv X z σ H s)(k:Gl X x)(v:X.mg x=kv)(hv:g7 x=jr u)(h:Q u s)
  (y:x≠"__name__":=by decide) (a:(x==("__debug__":Str))=false:=by decide):ku (k0 X.prog X.w) X.A (g6 (.Name x pos) X.env) Q E s:=by
 let#[f,e,b]:=I.mod.blt;exact QAL I.ok.kind k (Calls.loadGlobal_builtin (by rw[I.ok.glob];exact I.mod.glob.keeps I.bk) v (by rw[I.ok.blt];exact e.keeps I.bk) ((b x y).trans hv) h) a
theorem Td{v:V}(w:Gl X x)(y:X.mg x=jr u)(r:JA v u)(k:(x==("__debug__":Str))=false:=by decide):PE X (.Name x pos) (tC v) :=
 λ_ _ _ H _ I h=>oS I w y #[v,H,I,r,h] k
end
variable{a b:Expr}{ta tb:TE}{pos:Pos}
variable{g n:TT}{k:List Expr}
noncomputable def oy(t u:TT):TT:=λh H Q=>t h H λc x=>if c=kf then u h x Q else Q kd x
noncomputable def jBo(t u:TT):TT:=λh H Q=>t h H λc x=>if c=kf then Q kf x else u h x Q
def uy(t:TT):TT:=λh H Q=>t h H λc x=>Q (!c) x
theorem Kd(z:PT X a g):PW X (.BoolOp .And [a] pos) g:=by
 intro u x s y H Q I h;refine isTrue_and (DB (z x s y H Q I h) λc v e=>?_);cases c with|true=>exact isTrue_and_nil e|false=>exact e
theorem Yl(z:PT X a g):PW X (.BoolOp .Or [a] pos) g:=by
 intro u x s y H Q I h;refine isTrue_or (DB (z x s y H Q I h) λc v e=>?_);cases c with|false=>exact isTrue_or_nil e|true=>exact e
theorem j8(f:PT X a g)(hb:PW X (.BoolOp .And (b::k) pos) n):PW X (.BoolOp .And (a::b::k) pos) (oy g n):=by
 intro w x s y H Q I h;refine isTrue_and (DB (f x s y H _ I h) λc e #[v,u,z]=>?_);cases c with|true=>exact hb w x e y v Q u z|false=>exact#[v,u,z]
theorem dh(f:PT X a g)(hb:PW X (.BoolOp .Or (b::k) pos) n):PW X (.BoolOp .Or (a::b::k) pos) (jBo g n):=by
 intro w x s y H Q I h;refine isTrue_or (DB (f x s y H _ I h) λc e #[v,u,z]=>?_);cases c with|true=>exact#[v,u,z]|false=>exact hb w x e y v Q u z
theorem Zl(z:PT X a g):PT X (.UnaryOp .Not a pos) (uy g):=by intro x s y H Q I h;exact isTrue_not (z x s y H (λc u=>Q (!c) u) I h)
noncomputable def Rr(ta tb:TE):TE:=λh H Q=>ta h H λx y=>∃c,x=.bl c/\if c=kf then tb h y Q else Q (.bl kd) y
noncomputable def xy(ta tb:TE):TE:=λh H Q=>ta h H λx y=>∃c,x=.bl c/\if c=kf then Q (.bl kf) y else tb h y Q
theorem r8{op}{t:TE}(h:PE X a t):PE X (.BoolOp op [a] pos) t:=λx s y H Q I z=>BoolOp_one (h x s y H Q I z)
theorem Y8(j:PE X a ta)(hb:PE X (.BoolOp .And (b::k) pos) tb):PE X (.BoolOp .And (a::b::k) pos) (Rr ta tb):=by
 intro y s u H Q I h;refine BoolOp_and (DB (j y s u H _ I h) λv f #[x,e,w,i,z]=>?_);let#[c,rfl,z]:=z;cases i;refine wH ?_;cases c with|true=>exact hb y f u e Q w z|false=>exact#[.bl kd,e,w,rfl,z]
theorem mh(j:PE X a ta)(hb:PE X (.BoolOp .Or (b::k) pos) tb):PE X (.BoolOp .Or (a::b::k) pos) (xy ta tb):=by
 intro y s u H Q I h;refine BoolOp_or (DB (j y s u H _ I h) λv f #[x,e,w,i,z]=>?_);let#[c,rfl,z]:=z;cases i;refine wH ?_;cases c with|false=>exact hb y f u e Q w z|true=>exact#[.bl kf,e,w,rfl,z]
noncomputable def jBp(t:TT)(ta tb:TE):TE:=λh H Q=>t h H λc x=>if c=kf then ta h x Q else tb h x Q
theorem i8{c:Expr}(hc:PT X c g)(e:PE X a ta)(hb:PE X b tb):PE X (.IfExp c a b pos) (jBp g ta tb):=by
 intro x s y H Q I h;refine wpAny_IfExp (DB (hc x s y H _ I h) λd z #[w,v,u]=>?_);cases d with|true=>exact e x z y w Q v u|false=>exact hb x z y w Q v u
end
def YC(K:QC)(H:Hp)(a:ko)(xs:LV):Prop :=
 Rd H a (.lst xs) ∨
  ∃(o:Obj) (h:Array kb) (n:Nat),K.lookup a=jr o/\o.cls=.type "list"/\o.dict=kv/\o.data=.seq h n/\h.size<=kn/\oA xs h.toList
def LD(K:QC)(H:Hp)(a:ko)(xs:LV):Prop :=
 Rd H a (.tup xs) ∨
  ∃(o:Obj) (h:Array kb) (n:Nat),K.lookup a=jr o/\o.cls=.type "tuple"/\o.data=.seq h n/\h.size<=kn/\oA xs h.toList
noncomputable def XO:kb->Option V
 | .none=>jr .non|.bool b=>jr (.bl b)|.int i _=>jr (.int i)|.str x _=>jr (.str x)|.bytes b _=>jr (.byt b)|.float b _=>jr (.flt b)|.ref a=>jr (.ref a)|.type n=>jr (.ty n)|_=>kv
theorem JA.abs{x:V}{u:kb}(r:JA x u):XO u=jr x:=by
 cases x with|non=>cases r;rfl|bl _=>cases r;rfl|int _=>let#[t,rfl]:=r;rfl|str _=>let#[t,rfl]:=r;rfl|byt _=>let#[t,rfl]:=r;rfl|flt _=>let#[t,rfl]:=r;rfl|ref _=>cases r;rfl|ty _=>cases r;rfl
theorem JA.inj{x y:V}{u:kb}(r:JA x u)(q:JA y u):x=y:=Qm (r.abs.symm.trans q.abs)
theorem oA.inj:∀{xs h:LV}{us:LW},oA xs us->oA h us->xs=h
 |_,_,_,.nil,.nil=>rfl|_,_,_,.cons r t,.cons r' t'=>by rw[r.inj r',oA.inj t t']
section
variable{X:Cx}{x:IB}{σ:St}{H:Hp}{s:kt}{a:ko}{xs y:LV}
theorem YC.of{K:QC}(h:H a=jr (.lst xs)):YC K H a xs:=.inl (.inl h)
theorem LD.of{K:QC}(h:H a=jr (.tup xs)):LD K H a xs:=.inl (.inl h)
theorem Inv.list(I:Inv X x σ H s)(h:YC X.K H a xs):∃its:LW,oA xs its/\PlainL s.1 a its.toArray/\xs.9<=sizeLine:=by
 rcases h with h|⟨o,its,n,hk,hc,v,u,w,r⟩
 let#[z,its,n,r,e]:=h.ok I.hok;exact#[its,r,#[_,n,e,rfl,rfl,rfl],z];refine#[its.toList,r,#[o,n,I.kIn a o hk,hc,v,by simpa using u],?_];have e:=r.9;simp only[Q2]at e;omega
theorem Inv.tuple(I:Inv X x σ H s)(h:LD X.K H a xs):∃its:LW,oA xs its/\a8 s.1 a its.toArray/\xs.9<=sizeLine:=by
 rcases h with h|⟨o,its,n,hk,hc,u,v,r⟩
 let#[z,its,r,p]:=h.ok I.hok;exact#[its,r,p,z];refine#[its.toList,r,#[o,I.kIn a o hk,hc,n,by simpa using u],?_];have e:=r.9;simp only[Q2]at e;omega
theorem Inv.list_inj(I:Inv X x σ H s)(h:YC X.K H a xs)(h':YC X.K H a y):xs=y:=by
 let#[u,r,#[o,n,e,_,_,d],_]:=I.list h;let#[z,k,#[b,f,v,_,_,w],_]:=I.list h';rw[e]at v;cases v;rw[d]at w;injection w with d1 _;have:u=z:=by simpa using o9 Array.toList d1
 subst this;exact r.inj k
theorem Inv.tuple_inj(I:Inv X x σ H s)(h:LD X.K H a xs)(h':LD X.K H a y):xs=y:=by
 let#[u,r,#[o,e,_,n,d],_]:=I.tuple h;let#[z,k,#[b,v,_,f,w],_]:=I.tuple h';rw[e]at v;cases v;rw[d]at w;injection w with d1 _;have:u=z:=by simpa using o9 Array.toList d1
 subst this;exact r.inj k
end
noncomputable abbrev Cx.wish(X:Cx)(E:dC):Cx:={ X with xe:=E }
noncomputable abbrev Cx.nox(X:Cx):Cx:=X.wish λ_ _=>False
theorem Cx.Ok.wish{X:Cx}(ok:X.Ok)(E:dC):(X.wish E).Ok :=
 #[ok.mod,ok.kind,ok.glob,ok.blt,ok.above,ok.inj,ok.has,ok.cab,ok.hd,ok.frames,ok.stk,ok.exf,ok.bs,ok.bsz,ok.noex,ok.exfs,ok.funs,ok.frf,ok.tb]
theorem Cx.Ok.unwish{X:Cx}{E:dC}(ok:(X.wish E).Ok):X.Ok :=
 #[ok.mod,ok.kind,ok.glob,ok.blt,ok.above,ok.inj,ok.has,ok.cab,ok.hd,ok.frames,ok.stk,ok.exf,ok.bs,ok.bsz,ok.noex,ok.exfs,ok.funs,ok.frf,ok.tb]
section
variable{X:Cx}{x:IB}{σ:St}{H:Hp}{s:kt}{E:dC}
theorem Inv.wish(I:Inv X x σ H s)(E:dC):Inv (X.wish E) x σ H s:=#[I.ok.wish E,I.os,I.bare,I.base,I.loc,I.cell,I.free,I.freeC,I.pin,I.hok,I.len]
theorem Inv.unwish(I:Inv (X.wish E) x σ H s):Inv X x σ H s:=#[I.ok.unwish,I.os,I.bare,I.base,I.loc,I.cell,I.free,I.freeC,I.pin,I.hok,I.len]
theorem SP.unwish{D:Ends}{f:Flow}{s':kt}(h:SP (X.wish E) x D f s'):SP X x D f s':=by
 cases f with|next=>let#[y,z,I,q]:=h;exact#[y,z,I.unwish,q]|brk=>let#[y,z,I,q]:=h;exact#[y,z,I.unwish,q]|cont=>let#[y,z,I,q]:=h;exact#[y,z,I.unwish,q]|ret u=>let#[v,y,z,I,r,q]:=h;exact#[v,y,z,I.unwish,r,q]
theorem bZ.nox{st:List gV}{t:TS}(h:bZ X.nox st t):bZ X st t:=λx s σ H D I y =>
 qm (h x s σ H D (I.wish _) y) (λ_ _ q=>q.unwish) λ_ _ z=>Qg z
end
section
variable{X:Cx}{st:gV}{y:List gV}{t u:TS}{e:Expr}{te:TE}{pos:Pos}
def Mr:TS:=λD h H=>D.nx h H
def zy(t u:TS):TS:=λD h H=>t { D with nx:=u D } h H
theorem Ud:bZ X [] Mr:=λ_ _ x H _ I h=>QAD #[x,H,I,h]
theorem y8(b:PS X st t)(a:bZ X y u):bZ X (st::y) (zy t u):=by
 intro x s w H D I h;refine QCQ (DB (b x s w H { D with nx:=u D } I h) λf k q=>?_);cases f with|next=>let#[z,i,g,q]:=q;exact a x k z i D g q|ret v=>exact q|brk=>exact q|cont=>exact q
theorem HZ(w:PS X st t):bZ X [st] t:=by
 intro x s z H D I h;refine QCQ (DB (w x s z H D I h) λf k q=>?_);cases f with|next=>exact QAD q|ret v=>exact q|brk=>exact q|cont=>exact q
theorem Inv.quiet{h:IB}{σ:St}{H:Hp}{s:kt}(I:Inv X h σ H s):interactive X.env=false:=by simp[interactive,I.ok.kind]
def Nr(te:TE):TS:=λD h H=>te h H λ_ x=>D.nx h x
theorem MZ(b:PE X e te)(a:ej e kv pos.line X.env=ti false:=by rfl):PS X (.Expr e pos) (Nr te):=by intro z s w H D I h;exact wpAny_Expr_any (DB (b z s w H _ I h) λv i #[x,g,f,j,k]=>#[w,g,f,k]) I.quiet a
def ky(te:TE):TS:=λD h H=>te h H D.rt
theorem k8(b:PE X e te):PS X (.Return (jr e) pos) (ky te):=by intro z s w H D I h;exact wpAny_Return_some (DB (b z s w H _ I h) λv i #[x,g,f,k,a]=>#[x,w,g,f,k,a])
noncomputable def ly(c:TT)(t u:TS):TS:=λD h H=>c h H λb x=>if b=kf then t D h x else u D h x
theorem yt{c:Expr}{a b:List gV}{tc:TT}(hc:PT X c tc)(g:bZ X a t)(hb:bZ X b u):PS X (.If c a b pos) (ly tc t u):=by
 intro x s z H D I h;refine wpAny_If (DB (hc x s z H _ I h) λd v #[f,k,w]=>?_);cases d with|true=>exact g x v z f D k w|false=>exact hb x v z f D k w
end
noncomputable abbrev TG:=V->St->Hp->(St->Hp->Prop)->Prop
noncomputable abbrev jAW:=LV->St->Hp->(St->Hp->Prop)->Prop
def PG(X:Cx)(h:Expr)(t:TG):Prop :=
 ∀(x:IB) (s:kt) (z:St) (H:Hp) (v:V) (u:kb) (Q:St->Hp->Prop),Inv X x z H s->JA v u->t v z H Q ->
  ku (k0 X.prog X.w) X.A (ll h X.env u) (λ_ a=>∃y k,Inv X x y k a/\Q y k) X.xe s
def jBC(X:Cx)(ts:List Expr)(t:jAW):Prop :=
 ∀(h:IB) (s:kt) (y:St) (H:Hp) (z:LV) (u:LW) (Q:St->Hp->Prop),Inv X h y H s->oA z u->t z y H Q ->
  ku (k0 X.prog X.w) X.A (pR ((h7 ts X.env).map (·.2)) u) (λ_ k=>∃x v,Inv X h x v k/\Q x v) X.xe s
noncomputable abbrev vq:=V->V->V->Hp->(Hp->Prop)->Prop
def Xg(X:Cx)(t:vq):Prop :=
 ∀(h:IB) (s:kt) (x:St) (H:Hp) (o i v:V) (y z u:kb) (Q:Hp->Prop),Inv X h x H s->JA o y->JA i z->JA v u->t o i v H Q ->
  ku (k0 X.prog X.w) X.A (setItem y z u) (λ_ a=>∃k,Inv X h x k a/\Q k) X.xe s
section
variable{X:Cx}{pos:Pos}
section
variable{i:Nat}{x:Str}{e:Expr}{te:TE}
def V1(i:Nat):TG:=λv h H Q=>Q (h.set i (jr v)) H
theorem SZ(a:X.N.Nodup)(w:X.N[i]?=jr x)(z:Mq X.env.scope x)(k:X.fn x=kf∨X.env.scope.names.lookup x=jr .local):PG X (.Name x pos) (V1 i):=by intro y s f H v u Q I r h;exact QB5 (zU I a w z r (λg b=>#[_,H,b,h]) k)
noncomputable def Lz(K:QC)(n:Nat)(t:jAW):TG:=λv y H Q=>∃a h,v=.ref a/\LD K H a h/\h.9=n/\t h y H Q
theorem Hl{es:List Expr}{k:Nat}{t:jAW}{n:Nat}(hc:X.calm=kf)(h:jBC X es t)
  (Y:(h7 es X.env).9=n:=by rfl) (w:(h7 es X.env).findIdx? (·.1)=none:=by rfl):PG X (.Tuple es k pos) (Lz X.K n t):=by
 intro y s f H v u Q I r z;let#[a,j,W,q,hl,z]:=z;subst W;cases r;let#[l,g,p,B]:=I.tuple q;refine assign_Tuple_tuple (I.ok.hd hc) p (by simp[Y,<- hl,g.9]) w λZ m=>?_;have A:Inv X y f H { s with heap:=Z }:=I.kept (t':=s.toks) λb o e=>m b o (Qi (QV e)) e;exact h y _ f H j _ Q A (by simpa using g) z
noncomputable def Mz(y z:TE)(t:vq):TG:=λv h H Q=>y h H λo k=>z h k λi w=>t o i v w λu=>Q h u
theorem Ll{o i:Expr}{b f:TE}{t:vq}(Z:PE X o b)(W:PE X i f)(Y:Xg X t)
  (K:∀v,ll (.Subscript o i pos) X.env v=(do
   let w <- ro [v] (g6 o X.env)
   let k <- ro [v,w] (g6 i X.env)
   standAt pos
   ro [v,w,k] (setItem w k v)
   release [v,w,k] []):=by intro _;rfl):PG X (.Subscript o i pos) (Mz b f t):=by
 intro z s a H v u Q I r h;rw[K];refine QD (qY (DB (Z z s a H _ I h) λw j #[x,G,C,m,q]=>?_));refine QD (qY (DB (W z j a G _ C q) λk g #[y,F,B,l,p]=>?_));refine QD (QBw (QD (qY (DB (Y z g a F x y v w k u _ B m l r p) λ_ J #[E,A,n]=>?_))));exact wpAny_release #[a,E,A,n]
def Bk(te:TE)(g:TG):TS:=λD h H=>te h H λx y=>g x h y D.nx
theorem x8{z:Expr}{g:TG}(l:PE X e te)(j:PG X z g)(f:swapsWithSole [z] e pos.line X.env=ti false:=by rfl)(b:swappedStores [z] e X.env=ti none:=by rfl)
  (m:(h7 [z] X.env).map (·.2)=[ll z X.env]:=by rfl):PS X (.Assign [z] e pos) (Bk te g):=by
 intro y s u H D I h;refine wpAny_Assign_stores (DB (l y s u H _ I h) λv w #[x,o,n,k,a]=>?_) f b;rw[m];exact DB (j y w u o x v _ n k a) λ_ p q=>q
theorem Kl{pos':Pos}(l:X.N.Nodup)(f:X.N[i]?=jr x)(a:Mq X.env.scope x)(j:PE X e te)(b:ej e (jr (.Name x pos')) pos.line X.env=ti false:=by rfl)(g:X.fn x=kf∨X.env.scope.names.lookup x=jr .local) :
  PS X (.Assign [.Name x pos'] e pos) (Bk te (V1 i)):=by
 intro z s u H D I h;refine wpAny_Assign_Name (DB (j z s u H _ I h) λv q #[y,o,n,w,k]=>?_) b;exact zU n l f a w (λp m=>#[_,o,m,k]) g
end
end
section
variable{X:Cx}{pos:Pos}
def v7(c:TT)(tb:TS):TS:=λD h H=>∃W:Nat->St->Hp->Prop,(∃m,W m h H)/\∀m h H,W m h H ->
 c h H λb z=>if b=kf then ∃N:St->Hp->Prop,(∀x u,N x u->∃y,y < m/\W y x u)/\tb { D with nx:=N,ct:=N,bk:=D.nx } h z else D.nx h z
theorem z8{c:Expr}{body:List gV}{tc:TT}{tb:TS}(p:rk (k0 X.prog X.w) X.A X.env X.xe)(hc:PT X c tc)(hb:bZ X body tb):PS X (.While c body [] pos) (v7 tc tb):=by
 intro y s B H D I h;let#[W,#[L,E],k]:=h;refine wpAny_While (codeAny_whileLoop (λn J=>∃u K,Inv X y u K J/\W n u K) ?_ L #[B,H,I,E]);rintro n G ⟨z,Z,M,C⟩;refine wZ p (DB (hc y G z Z _ M (k n z Z C)) λb F #[Y,r,g]=>?_);cases b with
 |true =>
  let#[N,q,g]:=g;rw[i0 rfl];refine wZ p (DB (hb y F z Y _ r g) λf O e=>?_);cases f with|next=>let#[x,a,o,j]:=e;let#[l,m,i]:=q x a j;exact#[l,m,x,a,o,i]|cont=>let#[x,a,o,j]:=e;let#[l,m,i]:=q x a j;exact#[l,m,x,a,o,i]|brk=>exact e|ret v=>exact e
 |false=>rw[ii QG];exact QAD #[z,Y,r,g]
end
section
variable{s:kt}{y:Expr}{P:k5}{w:xb}{K:QC}
structure It where
 go:Nat->Hp->Prop
 yld:Nat->Hp->V->Hp->Prop
 stop:Nat->Hp->Prop
def vK(X:Cx)(h:IB)(H:Hp)(b:ko):Prop :=
 H b=kv/\b≠X.env.locals/\b∉X.fs/\(b∈X.ex∨X.s₀.1.1.size<=b)/\(∀x c,X.env.cells.lookup x=jr c->c≠b)/\∀p∈X.pn++h,p.1≠b
theorem Inv.fpOk{X:Cx}{h:IB}{σ:St}{H u:Hp}{b:ko}(I:Inv X h σ H s)(hb:s.1.1.size<=b)(a:u b=kv):vK X h u b:=by refine#[a,wR (Qr I.lt hb),I.nofs hb,.inr (QW I.sz hb),λx c e z=>?_,λp k z=>?_];let#[v,q]:=I.cell x c e;exact i3 (Qr q.lt (by rw[z];exact hb)) (qS _);exact i3 (Qr (QV (I.pin p k).1) (by rw[z];exact hb)) (qS _)
structure Turn0(P:k5)(w:xb)(K:QC)(y:Expr)(J:It)(fp:List ko)(it:ko)(tn:Nat->vu->Prop):Prop where
 mem:it∈fp
 obj:∀i h,tn i h->∀b∈fp,∃o,h.get? b=jr o/\∀v,o.data≠.cell v
 keep:∀i h h',tn i h->(∀b∈fp,∀o,h.get? b=jr o->h'.get? b=jr o)->tn i h'
 item:∀(X:Cx),X.prog=P->X.w=w->X.K=K->X.calm=kf->∀(i:Nat) (pins:IB) (s:kt) (σ:St) (H:Hp) (E:dC),Inv X pins σ H s->(∀b∈fp,vK X pins H b)->tn i s.1->J.go i H ->
  ku (k0 P w) X.A (ln (.ref it)) (λr s1=>∃u,r=jr u /\
   ku (k0 P w) X.A (bb y (.ref it) u) (λ_ s2=>∃x H',Inv X pins σ H' s2/\JA x u/\J.yld i H x H'/\tn (i+1) s2.1/\∀b∈fp,H' b=kv) E s1) E s
 done:∀(X:Cx),X.prog=P->X.w=w->X.K=K->X.calm=kf->∀(i:Nat) (pins:IB) (s:kt) (σ:St) (H:Hp) (E:dC),Inv X pins σ H s->(∀b∈fp,vK X pins H b)->tn i s.1->J.stop i H ->
  ku (k0 P w) X.A (ln (.ref it)) (λr s1=>r=kv/\Inv X pins σ H s1) E s
structure Turn(P:k5)(w:xb)(K:QC)(y:Expr)(J:It)(fp:List ko)(it:ko)(tn:Nat->vu->Prop):Prop extends Turn0 P w K y J fp it tn where
 self:∀(A:x0) (i:Nat) (s:kt) (Q:dC) (E:dC),tn i s.1->Q (.ref it) s->ku (k0 P w) A (l5 (.ref it)) Q E s
noncomputable abbrev TI:=St->Hp->(It->Hp->Prop)->Prop
def jAb(X:Cx)(h:IB)(σ:St)(y:Expr)(R:It->Hp->Prop)(x:kb)(u:kt):Prop :=
 ∃(it:ko) (v:List ko) (tn:Nat->vu->Prop) (J:It) (z:Hp),x=.ref it/\Inv X h σ z u/\Turn X.prog X.w X.K y J v it tn/\tn 0 u.1/\(∀b∈v,vK X h z b)/\R J z
def PI(X:Cx)(y x:Expr)(u:TI):Prop :=
 ∀(h:IB) (s:kt) (z:St) (H:Hp) (R:It->Hp->Prop),Inv X h z H s->u z H R ->
  ku (k0 X.prog X.w) X.A (g6 x X.env) (λv k=>ku (k0 X.prog X.w) X.A (l5 v) (jAb X h z y R) X.xe k) X.xe s
def jAa(X:Cx)(h:IB)(σ:St)(y:Expr)(R:It->Hp->Prop)(x:kb)(u:kt):Prop :=
 ∃(it:ko) (v:List ko) (tn:Nat->vu->Prop) (J:It) (z:Hp),x=.ref it/\Inv X h σ z u/\Turn0 X.prog X.w X.K y J v it tn/\tn 0 u.1/\(∀b∈v,vK X h z b)/\R J z
def bx(X:Cx)(y x:Expr)(u:TI):Prop :=
 ∀(h:IB) (s:kt) (z:St) (H:Hp) (R:It->Hp->Prop),Inv X h z H s->u z H R ->
  ku (k0 X.prog X.w) X.A (g6 x X.env) (λv k=>ku (k0 X.prog X.w) X.A (l5 v) (jAa X h z y R) X.xe k) X.xe s
theorem PI.to0{X:Cx}{z:Expr}{k:TI}(h:PI X y z k):bx X y z k:=λu s a H R I q =>
 qm (h u s a H R I q) (λv m f=>qm f (λb l #[it,g,tn,J,j,e,i,T,r]=>#[it,g,tn,J,j,e,i,T.toTurn0,r]) λ_ _ x=>x) λ_ _ x=>x
theorem go_of{M:Model}{A:x0}{E:dC}{it:ko}{u:kb}{o:Obj}{n:String}{vs:Array kb}{Q:Unit->kt->Prop}(z:s.1.get? it=jr o)(hc:o.cls=.type n)(k:o.data=.fields vs)
    (v:["enumerate","zip","dict_itemiterator","dict_reverseitemiterator","odict_iterator","itertools.zip_longest","itertools.pairwise"].contains n=kd) (x:Q Unit.unit s):ku M A (bb y (.ref it) u) Q E s:=by
  unfold bb;cases y<;>first
    |exact QL x
    | (cases u<;>first
        |exact QL x
        | (refine QD (wpAny_load z ?_)
           rw[hc,k];show ku M A (if(["enumerate","zip","dict_itemiterator","dict_reverseitemiterator","odict_iterator","itertools.zip_longest","itertools.pairwise"].contains n&&vs[0]?==jr (hB _))=kf then _ else _) Q E s;rw[ii (by intro h;rw[v,QAU]at h;cases h)];exact QL x))
noncomputable def jBY(K:QC)(a:ko):It :=
 #[λi H=>∃h x,YC K H a h/\h[i]?=jr x,λi H x z=>z=H/\∀h,YC K H a h->h[i]?=jr x,λi H=>∃h,YC K H a h/\h.9<=i]
noncomputable def jBW(K:QC)(a:ko):It :=
 #[λi H=>∃h x,LD K H a h/\h[i]?=jr x,λi H x z=>z=H/\∀h,LD K H a h->h[i]?=jr x,λi H=>∃h,LD K H a h/\h.9<=i]
noncomputable def jAl(h:Int)(n:Nat):It:=#[λi _=>i<n,λi H x z=>z=H/\x=.int (h+i),λi _=>n<=i]
theorem K3(a it:ko):Turn P w K y (jBY K a) [it] it (λi h=>h.IsListIter it a i) where
 mem:=by simp
 obj:=λi h st b hb=>by
  have e:b=it:=by simpa using hb
  subst e;let#[o,e,c,d]:=st;exact#[o,e,λv z=>by rw[d]at z;cases z]
 keep:=λi h m st k=>st.at λo e=>k it (by simp) o e
 item:=by intro X W Y A hc i f s L H E I l st Z;subst W Y A;let#[M,x,j,r]:=Z;let#[q,n,p,Q]:=I.list j;let#[u,S,O]:=n.get r;let#[J,G,f2,F,C,B]:=l it (by simp);refine wpAny_pyNext_list_item st p.isList (x:=u) (by simpa using S) λm g N=>?_;have I1:Inv X f L H { s with heap:=m }:=I.turned (t':=s.toks) (λb o hb e=>(N.2 b hb).trans e) J G F C B;let#[o,e,c,d]:=id g;exact#[u,rfl,go_of (s:={ s with heap:=m }) e c d (by decide) #[x,H,I1,O,#[rfl,λys R=>by rw[I.list_inj R j];exact r],g,λb hb=>(l b hb).1]]
 done:=by intro X W Y A hc i f s L H E I l st Z;subst W Y A;let#[M,j,r]:=Z;let#[q,n,p,Q]:=I.list j;let#[J,G,f2,F,C,B]:=l it (by simp);have hl:=n.9;exact wpAny_pyNext_list_end (I.ok.hd hc) st p.isList (by simp;omega) λm eb=>#[rfl,I.turned (t':=s.toks) (λb o hb e=>eb b o hb e) J G F C B]
 self:=λ_ _ _ _ _ st h=>wpAny_pyIter_listiter st h
theorem RW(a it:ko):Turn P w K y (jBW K a) [it] it (λi h=>h.IsTupleIter it a i) where
 mem:=by simp
 obj:=λi h st b hb=>by
  have e:b=it:=by simpa using hb
  subst e;let#[o,e,c,d]:=st;exact#[o,e,λv z=>by rw[d]at z;cases z]
 keep:=λi h n st k=>st.at λo e=>k it (by simp) o e
 item:=by intro X W Y A hc i f s L H E I m st Z;subst W Y A;let#[M,x,l,r]:=Z;let#[g,q,p,Q]:=I.tuple l;let#[u,S,O]:=q.get r;let#[J,G,f2,F,C,B]:=m it (by simp);refine wpAny_pyNext_tuple_item st (show s.1.IsTuple a g.toArray from p) (x:=u) (by simpa using S) λn j N=>?_;have I1:Inv X f L H { s with heap:=n }:=I.turned (t':=s.toks) (λb o hb e=>(N.2 b hb).trans e) J G F C B;let#[o,e,c,d]:=id j;exact#[u,rfl,go_of (s:={ s with heap:=n }) e c d (by decide) #[x,H,I1,O,#[rfl,λys R=>by rw[I.tuple_inj R l];exact r],j,λb hb=>(m b hb).1]]
 done:=by intro X W Y A hc i f s L H E I m st Z;subst W Y A;let#[M,l,r]:=Z;let#[g,q,p,Q]:=I.tuple l;let#[J,G,f2,F,C,B]:=m it (by simp);have hl:=q.9;exact wpAny_pyNext_tuple_end (I.ok.hd hc) st (show s.1.IsTuple a g.toArray from p) (by simp;omega) λn eb=>#[rfl,I.turned (t':=s.toks) (λb o hb e=>eb b o hb e) J G F C B]
 self:=λ_ _ _ _ _ st h=>wpAny_pyIter_tupleiter st h
theorem SW(it:ko)(a:Int)(n:Nat):Turn P w K y (jAl a n) [it] it (λi h=>IsRangeIter h it (a+(i:Nat) * 1) ((n:Int) - (i:Nat)) 1) where
 mem:=by simp
 obj:=λi h st b hb=>by
  have e:b=it:=by simpa using hb
  subst e;exact#[_,st,λv z=>by have F:Data.fields _=Data.cell v:=z;cases F]
 keep:=λi h g st k=>k it (by simp) _ st
 item:=by intro X m j p hc i x s B H E I f st l;subst m j p;let#[A,Z,J,Y,r,q]:=f it (by simp);have W:=Walks.range (prog:=X.prog) (w:=X.w) (I.ok.hd hc) it a 1 n;refine W.item i s _ _ l st λv g C hv u G=>?_;let#[t,rfl]:=hv;have M:Inv X x B H { s with heap:=g,toks:=C }:=I.turned (λb o hb e=>G b o (by simpa using hb) e) A Z Y r q;refine#[_,rfl,go_of (s:={ s with heap:=g,toks:=C }) (n:="range_iterator") u rfl rfl (by decide) #[.int (a+i),H,M,#[t,?_],#[rfl,rfl],u,λb hb=>(f b hb).1]];rw[Int.mul_one]
 done:=by intro X m j p hc i x s B H E I f st l;subst m j p;let#[A,Z,J,Y,r,q]:=f it (by simp);exact wpAny_pyNext_range_end (I.ok.hd hc) st (by have:n<=i:=l;omega) λg L=>#[rfl,I.turned (t':=s.toks) (λb o hb e=>L b o hb e) A Z Y r q]
 self:=λ_ _ _ _ _ st h=>wpAny_pyIter_rangeiter st h
end
section
variable{X:Cx}{a:Expr}
section
variable{y:IB}{σ:St}{H:Hp}{s:kt}{k:List ko}{h:vu}
theorem R7{R:It->Hp->Prop}{E:dC}{x z:Int}{t u v:Tok}{f:Nat}(I:Inv X y σ H s)(m:-(2 ^ 62)<=x)(l:x<2 ^ 62)(j:-(2 ^ 62)<=z)(i:z<2 ^ 62)
  (q:R (jAl x (z - x).toNat) H):ku (k0 X.prog X.w) X.A (l5 (.ref s.1.1.size)) (jAb X y σ a R) E { s with heap:=s.1.push { cls:=.type "range",data:=.fields (qG [.int x t,.int z u,.int 1 v]) },toks:=f }:=by
 refine wpAny_pyIter_range (IsRange.new ..) (small_one m l j i) ?_;have g:Inv X y σ H { s with heap:=s.1.push { cls:=.type "range",data:=.fields (qG [.int x t,.int z u,.int 1 v]) },toks:=f }:=I.kept λb o e=>QH _ e;refine#[(s.1.push { cls:=.type "range",data:=.fields (qG [.int x t,.int z u,.int 1 v]) }).1.size,[(s.1.push { cls:=.type "range",data:=.fields (qG [.int x t,.int z u,.int 1 v]) }).1.size],_,_,H,rfl,
  g.kept (t':=f) λb o e=>QH _ e,SW _ x (z - x).toNat,?_,λb hb=>?_,q]
 have p:x+((0:Nat):Int) * 1=x:=by simp
 have n:(((z - x).toNat:Nat):Int) - ((0:Nat):Int)=WV x z 1:=by rw[pu];split<;>omega
 show IsRangeIter _ _ (x+((0:Nat):Int) * 1) ((((z - x).toNat:Nat):Int) - ((0:Nat):Int)) 1;rw[p,n];exact QS _ rfl;have e:b=(s.1.push { cls:=.type "range",data:=.fields (qG [.int x t,.int z u,.int 1 v]) }).1.size:=by simpa using hb
 subst e;exact g.fpOk (QY _) (g.hok.fresh (QY _))
def my(b:TI)(g:TG)(tb:TS):TS:=λD σ H=>b σ H λJ f=>∃W:Nat->Nat->St->Hp->Prop,(∃m,W 0 m σ f)/\∀i m σ H,W i m σ H ->
 (J.stop i H/\D.nx σ H)∨(J.go i H/\∃N:St->Hp->Prop,(∀z u,N z u->∃w,w < m/\W (i+1) w z u)/\∀x u,J.yld i H x u->g x σ u λv e=>tb { D with nx:=N,ct:=N,bk:=D.nx } v e)
noncomputable def eN(k:List ko)(h:vu):IB:=k.filterMap λb=>(h.get? b).map λo=>(b,o)
theorem lF{b:ko}{o:Obj}(hb:b∈k)(e:h.get? b=jr o):(b,o)∈eN k h:=QBx.mpr #[b,hb,by rw[e];rfl]
theorem J4{p:ko×Obj}(x:p∈eN k h):p.1∈k/\h.get? p.1=jr p.2:=by
 let#[b,hb,e]:=QBx.mp x;cases q:h.get? b with|none=>rw[q]at e;cases e|some o=>rw[q]at e;have z:(b,o)=p:=Qm e;subst z;exact#[hb,q]
theorem Inv.pinned(I:Inv X y σ H s)(f:∀b∈k,vK X y H b)(w:∀b∈k,∃o,s.1.get? b=jr o/\∀v,o.data≠.cell v):Inv X (y++eN k s.1) σ H s :=
 I.pins_of λp u=>(Qf.mp u).elim (λz=>I.pin p (QZ _ z)) λz=>by let#[hb,e]:=J4 z;let#[j,i,g,_]:=f p.1 hb;let#[o,x,d]:=w p.1 hb;rw[e]at x;cases x;exact#[e,j,i,g,d]
theorem Inv.unpinned{x:IB}(I:Inv X (y++x) σ H s):Inv X y σ H s:=I.pins_of λp z=>I.pin p (QZ _ (Ql _ z))
theorem Vl{q:Expr}{body:List gV}{wi:TI}{g:TG}{tb:TS}{pos:Pos}(O:rk (k0 X.prog X.w) X.A X.env X.xe)(hc:X.calm=kf)(hi:bx X a q wi)(hg:PG X a g)(hb:bZ X body tb)
  (hs:∀x,hQ q X.env x=ti x:=by intro _;rfl):PS X (.For a q body [] pos) (my wi g tb):=by
 intro y s σ H D I h;refine wpAny_For (DB (hi y s σ H _ I h) λv s1 h1=>DB h1 λitv s2 h2=>?_) hs;let#[it,k,tn,J,H2,e,I2,T,S,f2,W,#[m0,w0],F]:=h2;subst e;have p:∀{B:Hp},(∀b∈k,B b=kv)->∀b∈k,vK X y B b:=λhn b hb=>#[hn b hb,(f2 b hb).2]
 refine codeAny_forLoop_any (λn s'=>∃i l B,Inv X y l B s'/\tn i s'.1/\(∀b∈k,B b=kv)/\W i n l B) ?_ m0 #[0,σ,H2,I2,S,λb hb=>(f2 b hb).1,w0];rintro n s3 ⟨i,j,Q,I3,L,P,w3⟩;rcases F i n j Q w3 with⟨G,qn⟩| ⟨go,N,hN,step⟩
 refine wZ O (DB (T.done X rfl rfl rfl hc i y s3 j Q X.xe I3 (p P) L G) λr s4 #[hr,I4]=>?_);subst hr;exact QAD #[j,Q,I4,qn];refine wZ O (DB (T.item X rfl rfl rfl hc i y s3 j Q X.xe I3 (p P) L go) λr s4 #[u,hr,h4]=>?_);subst hr;refine wZ O (DB h4 λ_ s5 #[x,H5,I5,r5,y5,E,fr5]=>?_);have I5':=I5.pinned (p fr5) (T.obj _ _ E);refine wZ O (DB (hg _ s5 j H5 x u _ I5' r5 (step x H5 y5)) λ_ s6 #[R,H6,I6,q6]=>?_);refine wZ O (DB (hb _ s6 R H6 _ I6 q6) λf s7 C=>?_);have Y:∀{z:St}{K:Hp},Inv X (y++eN k s5.1) z K s7->N z K->∃m,m<n/\∃i l B,Inv X y l B s7/\tn i s7.1/\(∀b∈k,B b=kv)/\W i m l B:=λ{z K} Z M=>by let#[m',hm,w7]:=hN z K M;refine#[m',hm,i+1,z,K,Z.unpinned,T.keep _ _ _ E λb hb o e=>(Z.pin (b,o) (QZ _ (QZ _ (lF hb e)))).1,λb hb=>?_,w7];let#[o,e,d]:=T.obj _ _ E b hb;exact(Z.pin (b,o) (QZ _ (QZ _ (lF hb e)))).2.1
 cases f with|next=>let#[z,K,Z,M]:=C;exact Y Z M|cont=>let#[z,K,Z,M]:=C;exact Y Z M|brk=>let#[z,K,Z,C]:=C;exact#[z,K,Z.unpinned,C]|ret v=>let#[x7,z,K,Z,r7,C]:=C;exact#[x7,z,K,Z.unpinned,r7,C]
end
end
noncomputable abbrev R2:=V->V->Hp->VK->Prop
def yF(X:Cx)(f:kb->kb->Sem kb)(r:R2):Prop :=
 ∀(h:IB) (s:kt) (z:St) (H:Hp) (x y:V) (v u:kb) (Q:VK),Inv X h z H s->JA x v->JA y u->r x y H Q ->
  ku (k0 X.prog X.w) X.A (f v u) (EP X h z Q) X.xe s
def jAT(X:Cx)(f:kb->Sem kb)(r:V->Hp->VK->Prop):Prop :=
 ∀(h:IB) (s:kt) (y:St) (H:Hp) (x:V) (v:kb) (Q:VK),Inv X h y H s->JA x v->r x H Q ->
  ku (k0 X.prog X.w) X.A (f v) (EP X h y Q) X.xe s
def XC(X:Cx)(f:kb)(r:LV->Hp->VK->Prop):Prop :=
 ∀(h:IB) (s:kt) (x:St) (H:Hp) (y:LV) (z:LW) (Q:VK),Inv X h x H s->oA y z->r y H Q ->
  ku (k0 X.prog X.w) X.A (Er f z) (EP X h x Q) X.xe s
def jAU(X:Cx)(r:V->Hp->(Bool->Hp->Prop)->Prop):Prop :=
 ∀(h:IB) (s:kt) (y:St) (H:Hp) (x:V) (v:kb) (Q:Bool->Hp->Prop),Inv X h y H s->JA x v->r x H Q ->
  ku (k0 X.prog X.w) X.A (truthy v) (TP X h y Q) X.xe s
noncomputable def Hr(r:R2)(ta tb:TE):TE:=λh H Q=>ta h H λx u=>tb h u λy z=>r x y z Q
noncomputable def jBm(r:V->Hp->VK->Prop)(ta:TE):TE:=λh H Q=>ta h H λx y=>r x y Q
noncomputable def rI(C:Int->Int->Prop)(g:Int->Int->V):R2:=λx y H Q=>∃i j,x=.int i/\y=.int j/\C i j/\Q (g i j) H
noncomputable def Jd(g:Int->Int->V):R2:=λx y H Q=>∃i j,x=.int i/\y=.int j/\Q (g i j) H
def rU(g:Int->V):V->Hp->VK->Prop:=λx H Q=>∃i,x=.int i/\Q (g i) H
section
variable{X:Cx}{a b c:Expr}{ta tb tc:TE}{pos:Pos}
section
variable{f:kb->kb->Sem kb}{g:Int->Int->Int}
theorem binT(Y:PE X a ta)(hb:PE X b tb){z:IB}{s:kt}{σ:St}{H:Hp}{R:V->V->Hp->Prop}(I:Inv X z σ H s)
  (h:ta σ H λx l=>tb σ l λy k=>R x y k) {Q:dC}
  (r:∀v u j x y k,Inv X z σ k j->JA x v->JA y u->R x y k->ku (k0 X.prog X.w) X.A (f v u) Q X.xe j) :
  ku (k0 X.prog X.w) X.A (g6 a X.env) (λv i=>ku (k0 X.prog X.w) X.A (g6 b X.env) (λu e=>ku (k0 X.prog X.w) X.A (f v u) Q X.xe e) X.xe i) X.xe s:=by
 refine DB (Y z s σ H _ I h) λv m #[x,l,W,o,q]=>?_;refine DB (hb z m σ l _ W q) λu j #[y,k,Z,n,p]=>?_;exact r v u j x y k Z o n p
theorem vt{w:hZ}{r:R2}(l:yF X (hG w) r)(m:PE X a ta)(hb:PE X b tb):PE X (.BinOp a w b pos) (Hr r ta tb):=by intro z s k H Q I h;exact wpAny_BinOp (binT m hb I h λv u e x y o n j i q=>l z e k o x y v u Q n j i q)
theorem zt{u:sh}{r:V->Hp->VK->Prop}(i:jAT X (unaryOp u) r)(j:PE X a ta):PE X (.UnaryOp u a pos) (jBm r ta):=by intro y s z H Q I h;exact UnaryOp_ (DB (j y s z H _ I h) λv w #[x,m,l,k,e]=>i y w z m x v Q l k e)
theorem jBv{C:Int->Int->Prop}
  (z:∀(i j:Int) (t u:Tok) (s:kt) (Q:dC) (E:dC),C i j->Q (.int (g i j) s.toks) { s with toks:=s.toks+1 }->ku (k0 X.prog X.w) X.A (f (.int i t) (.int j u)) Q E s) :
  yF X f (rI C λi j=>.int (g i j)):=by
 intro k s n H x y v u Q I m l h;let#[i,j,rfl,rfl,hc,q]:=h;let#[t,rfl]:=m;let#[e,rfl]:=l;exact z i j t e s _ _ hc #[.int (g i j),H,I.tok _,#[_,rfl],q]
theorem Zt
  (z:∀(i j:Int) (t u:Tok) (s:kt) (Q:dC) (E:dC),Q (.int (g i j) s.toks) { s with toks:=s.toks+1 }->ku (k0 X.prog X.w) X.A (f (.int i t) (.int j u)) Q E s) :
  yF X f (Jd λi j=>.int (g i j)):=by
 intro k s n H x y v u Q I m l h;let#[i,j,rfl,rfl,q]:=h;let#[t,rfl]:=m;let#[e,rfl]:=l;exact z i j t e s _ _ #[.int (g i j),H,I.tok _,#[_,rfl],q]
theorem oe{g:Int->Int->Bool}
  (z:∀(i j:Int) (t u:Tok) (s:kt) (Q:dC) (E:dC),Q (.bool (g i j)) s->ku (k0 X.prog X.w) X.A (f (.int i t) (.int j u)) Q E s) :
  yF X f (Jd λi j=>.bl (g i j)):=by
 intro k s n H x y v u Q I m l h;let#[i,j,rfl,rfl,q]:=h;let#[t,rfl]:=m;let#[e,rfl]:=l;exact z i j t e s _ _ #[.bl (g i j),H,I,rfl,q]
def YT(i j:Int):Prop:=(-(2 ^ 64)<i/\i<2 ^ 64)∨(-(2 ^ 64)<j/\j<2 ^ 64)
theorem YT.ok{i j:Int}(h:YT i j):mu i j:=by
 rcases h with⟨y,x⟩| ⟨y,x⟩
 exact .of_left (pq y x);exact .of_right (pq y x)
theorem op_add:yF X (hG .Add) (Jd λi j=>.int (i+j)):=Zt λ_ _ _ _ _ _ _ q=>add_int q
theorem op_sub:yF X (hG .Sub) (Jd λi j=>.int (i - j)):=Zt λ_ _ _ _ _ _ _ q=>sub_int q
theorem op_mod:yF X (hG .Mod) (rI (λ_ j=>0<j) λi j=>.int (i % j)):=jBv λi j _ _ _ _ _ hc q=>by have h:(0:Int)<j:=hc;exact mod_int' () (by rw[Int.fmod_eq_emod_of_nonneg i ()];exact q)
theorem jBl{f:kb->Sem kb}{g:Int->Int}
  (y:∀(i:Int) (t:Tok) (s:kt) (Q:dC) (E:dC),Q (.int (g i) s.toks) { s with toks:=s.toks+1 }->ku (k0 X.prog X.w) X.A (f (.int i t)) Q E s) :
  jAT X f (rU λi=>.int (g i)):=by
 intro z s k H x v Q I u h;let#[i,rfl,q]:=h;let#[t,rfl]:=u;exact y i t s _ _ #[.int (g i),H,I.tok _,#[_,rfl],q]
theorem Xk:jAT X (unaryOp .USub) (rU λi=>.int (-i)):=jBl λ_ _ _ _ _ q=>neg_int q
end
end
noncomputable def vd:V->V->Bool
 | .non,.non=>kf | .non,.int _=>kf | .int _,.non=>kf | .non,.bl _=>kf | .bl _,.non=>kf | .non,.str _=>kf | .str _,.non=>kf
 | .int _,.int _=>kf | .bl _,.bl _=>kf | .str _,.str _=>kf | .byt _,.byt _=>kf
 | .int _,.str _=>kf | .str _,.int _=>kf | .bl _,.str _=>kf | .str _,.bl _=>kf
 |_,_=>kd
def rEq:R2:=λx y H Q=>vd x y=kf/\Q (.bl (decide (x=y))) H
def jBt:R2:=λx y H Q=>vd x y=kf/\Q (.bl (!decide (x=y))) H
theorem E1{i j:Int}:decide (V.int i=V.int j)=(i==j):=by rw[Qz];simp
theorem Aa{i j:Bool}:decide (V.bl i=V.bl j)=(i==j):=by rw[Qz];simp
theorem A1{i j:Str}:decide (V.str i=V.str j)=(i==j):=by rw[Qz];simp
theorem y2{i j:Array UInt8}:decide (V.byt i=V.byt j)=(i.toList==j.toList):=by rw[Qz];cases i;cases j;simp
section
variable{X:Cx}{a b c:Expr}{ta tb tc:TE}{pos:Pos}
section
variable{r:R2}{d:dy}{us:LW}
theorem iA{h:IB}{σ:St}{H:Hp}{s:kt}{Q:VK}{k x:Bool}(I:Inv X h σ H s)(q:Q (.bl k) H)(e:k=x):EP X h σ Q (.bool x) s:=by subst e;exact#[.bl k,H,I,rfl,q]
theorem op_eq:yF X (vx .Eq) rEq:=by
 intro f s g H x y v u Q I e z h;let#[k,q]:=h;cases x with
 |non =>
  cases e;cases y with|non=>cases z;exact PySem.EqNone.eq_none_none (iA I q (by simp))|bl j=>cases z;exact PySem.EqNone.eq_none_bool (iA I q (by simp))|int j=>let#[w,rfl]:=z;exact PySem.EqNone.eq_none_int (iA I q (by simp))|str j=>let#[w,rfl]:=z;exact PySem.EqNone.eq_none_str (iA I q (by simp))|_=>exact i3 (show kd=kf from k) QG
 |bl i =>
  cases e;cases y with|non=>cases z;exact PySem.EqNone.eq_bool_none (iA I q (by simp))|bl j=>cases z;exact eq_bool (iA I q Aa)|str j=>let#[w,rfl]:=z;exact PySem.EqMixed.eq_bool_str (iA I q (by simp))|_=>exact i3 (show kd=kf from k) QG
 |int i =>
  let#[t,rfl]:=e;cases y with|non=>cases z;exact PySem.EqNone.eq_int_none (iA I q (by simp))|int j=>let#[w,rfl]:=z;exact eq_int (iA I q E1)|str j=>let#[w,rfl]:=z;exact PySem.EqMixed.eq_int_str (iA I q (by simp))|_=>exact i3 (show kd=kf from k) QG
 |str i =>
  let#[t,rfl]:=e;cases y with|non=>cases z;exact PySem.EqNone.eq_str_none (iA I q (by simp))|bl j=>cases z;exact PySem.EqMixed.eq_str_bool (iA I q (by simp))|int j=>let#[w,rfl]:=z;exact PySem.EqMixed.eq_str_int (iA I q (by simp))|str j=>let#[w,rfl]:=z;exact eq_str (iA I q A1)|_=>exact i3 (show kd=kf from k) QG
 |byt i =>
  let#[t,rfl]:=e;cases y with|byt j=>let#[w,rfl]:=z;exact PySem.W.eq_bytes (iA I q y2)|_=>exact i3 (show kd=kf from k) QG
 |_=>cases y<;>exact i3 (show kd=kf from k) QG
theorem op_ne:yF X (vx .NotEq) jBt:=by
 intro f s g H x y v u Q I e z h;let#[k,q]:=h;cases x with
 |non =>
  cases e;cases y with|non=>cases z;exact PySem.EqNone.ne_none_none (iA I q (by simp))|bl j=>cases z;exact PySem.EqNone.ne_none_bool (iA I q (by simp))|int j=>let#[w,rfl]:=z;exact PySem.EqNone.ne_none_int (iA I q (by simp))|str j=>let#[w,rfl]:=z;exact PySem.EqNone.ne_none_str (iA I q (by simp))|_=>exact i3 (show kd=kf from k) QG
 |bl i =>
  cases e;cases y with|non=>cases z;exact PySem.EqNone.ne_bool_none (iA I q (by simp))|bl j=>cases z;exact ne_bool (iA I q (o9 not Aa))|str j=>let#[w,rfl]:=z;exact PySem.EqMixed.ne_bool_str (iA I q (by simp))|_=>exact i3 (show kd=kf from k) QG
 |int i =>
  let#[t,rfl]:=e;cases y with|non=>cases z;exact PySem.EqNone.ne_int_none (iA I q (by simp))|int j=>let#[w,rfl]:=z;exact ne_int (iA I q (o9 not E1))|str j=>let#[w,rfl]:=z;exact PySem.EqMixed.ne_int_str (iA I q (by simp))|_=>exact i3 (show kd=kf from k) QG
 |str i =>
  let#[t,rfl]:=e;cases y with|non=>cases z;exact PySem.EqNone.ne_str_none (iA I q (by simp))|bl j=>cases z;exact PySem.EqMixed.ne_str_bool (iA I q (by simp))|int j=>let#[w,rfl]:=z;exact PySem.EqMixed.ne_str_int (iA I q (by simp))|str j=>let#[w,rfl]:=z;exact ne_str (iA I q (o9 not A1))|_=>exact i3 (show kd=kf from k) QG
 |byt i =>
  let#[t,rfl]:=e;cases y with|byt j=>let#[w,rfl]:=z;exact PySem.W.ne_bytes (iA I q (o9 not y2))|_=>exact i3 (show kd=kf from k) QG
 |_=>cases y<;>exact i3 (show kd=kf from k) QG
theorem op_lt:yF X (vx .Lt) (Jd λi j=>.bl (decide (i<j))):=oe λ_ _ _ _ _ _ _ q=>lt_int q
theorem op_le:yF X (vx .LtE) (Jd λi j=>.bl (decide (i<=j))):=oe λ_ _ _ _ _ _ _ q=>le_int q
theorem op_gt:yF X (vx .Gt) (Jd λi j=>.bl (decide (j<i))):=oe λ_ _ _ _ _ _ _ q=>gt_int q
theorem op_ge:yF X (vx .GtE) (Jd λi j=>.bl (decide (j<=i))):=oe λ_ _ _ _ _ _ _ q=>ge_int q
theorem v4:yF X (vx .In) (λx y H Q=>∃i j,x=.str i/\y=.str j/\Q (.bl (!(qF j i 0 j.9 1).isEmpty)) H):=by intro z s e H x y v u Q I k w h;let#[i,j,rfl,rfl,q]:=h;let#[t,rfl]:=k;let#[f,rfl]:=w;exact in_str (iA I q rfl)
theorem km:yF X (vx .Is) (λx y H Q=>y=.non/\Q (.bl (decide (x=.non))) H):=by
 intro w s e H x y v u Q I z k h;let#[rfl,q]:=h;cases k;refine is_none_gen (iA I q ?_);cases x<;>first
  | (cases z;rfl)
  | (let#[t,rfl]:=z;rfl)
theorem de:yF X (vx .IsNot) (λx y H Q=>y=.non/\Q (.bl (!decide (x=.non))) H):=by
 intro w s e H x y v u Q I z k h;let#[rfl,q]:=h;cases k;refine isnot_none_gen (iA I q ?_);cases x<;>first
  | (cases z;rfl)
  | (let#[t,rfl]:=z;rfl)
theorem NR:yF X (vx .NotIn) (λx y H Q=>∃i j,x=.str i/\y=.str j/\Q (.bl (!(!(qF j i 0 j.9 1).isEmpty))) H):=by intro z s e H x y v u Q I k w h;let#[i,j,rfl,rfl,q]:=h;let#[t,rfl]:=k;let#[f,rfl]:=w;exact notIn_str (iA I q rfl)
theorem yF.or{f:kb->kb->Sem kb}{g:R2}(h:yF X f r)(h':yF X f g):yF X f (λx y H Q=>r x y H Q∨g x y H Q):=by intro z s w H x y v u Q I e k q;rcases q with q|q;exact h z s w H x y v u Q I e k q;exact h' z s w H x y v u Q I e k q
theorem ye(g:yF X (vx d) r)(j:PE X a ta)(hb:PE X b tb)(i:l4 d b=kd):PE X (.Compare a [d] [b] pos) (Hr r ta tb):=by intro z s w H Q I h;exact wpAny_Compare1 (binT j hb I h λv u k x y m l f e q=>g z k w m x y v u Q l f e q) i
def Dr(t:TE):TT:=λh H Q=>t h H λx y=>∃k,x=.bl k/\Q k y
theorem Xd(q:yF X (vx d) r)(Z:PE X a ta)(hb:PE X b tb)(Y:l4 d b=kd):PT X (.Compare a [d] [b] pos) (Dr (Hr r ta tb)):=by
 intro w s f H Q I h;refine wpAny_isTrue_Compare1 (DB (Z w s f H _ I h) λv i #[x,E,A,m,p]=>DB (hb w i f E _ A p) λu g #[y,C,K,l,o] =>
  DB (q w g f C x y v u _ K m l o) λc F #[z,B,W,j,k,e,n]=>?_) Y
 subst e;cases j;exact wH #[B,W,n]
def zq(K:QC)(x:V)(H:Hp)(k:Bool):Prop :=
 match x with
 | .non=>k=kd|.bl b=>k=b|.int i=>k=(i != 0)|.str y=>y.9<=kn/\k=((y.9:Int) != 0)|.byt y=>y.size<=kn/\k=((y.size:Int) != 0)|.ref p=>(∃h,YC K H p h/\k=!h.isEmpty)∨(∃h,LD K H p h/\k=!h.isEmpty)∨∃z,H p=jr (.dK z)/\k=!z.isEmpty|_=>False
theorem uY{h:Type}{kvs:List (h×V)}{vs:List (h×kb)}(r:KV kvs vs):(!vs.isEmpty)=!kvs.isEmpty:=by cases r<;>rfl
theorem EN{xs:LV}{its:LW}(r:oA xs its):(!its.toArray.isEmpty)=!xs.isEmpty:=by cases r<;>simp
theorem dI:(kn:Nat)<2 ^ 63:=by rw[qA];decide
theorem z7:jAU X (λx H Q=>∃k,zq X.K x H k/\Q k H):=by
 intro Z s E H x v Q I j h;let#[k,e,q]:=h;have hl:=dI;have F:kn=16777216:=qA;cases x with
 |non=>cases j;have z:k=false:=e;subst z;exact truthy_none #[H,I,q]|bl b=>cases j;have z:k=b:=e;subst z;exact wH #[H,I,q]|int i=>let#[t,rfl]:=j;have z:k=(i != 0):=e;subst z;exact PySem.P.truthy_int #[H,I,q]|str y=>let#[t,rfl]:=j;obtain⟨B,z⟩:y.9<=kn/\k=((y.9:Int) != 0):=e;subst z;exact PySem.P.truthy_str () #[H,I.tok _,q]|byt y=>let#[t,rfl]:=j;obtain⟨B,z⟩:y.size<=kn/\k=((y.size:Int) != 0):=e;subst z;exact PySem.W.truthy_bytes () #[H,I.tok _,q]|ref p =>
  cases j;have z:(∃g,YC X.K H p g/\k=!g.isEmpty)∨(∃g,LD X.K H p g/\k=!g.isEmpty)∨∃u,H p=jr (.dK u)/\k=!u.isEmpty:=e;rcases z with⟨g,l,z⟩| ⟨g,l,z⟩| ⟨u,l,z⟩
  subst z;let#[Y,r,o,A]:=I.list l;have f:=r.9;exact wpAny_truthy_list o.isList (by simp only[QN];omega) #[H,I.tok _,by rw[EN r];exact q];subst z;let#[Y,r,o,A]:=I.tuple l;have f:=r.9;exact truthy_tuple o (by simp only[QN];omega) #[H,I.tok _,by rw[EN r];exact q];subst z;obtain⟨A,C,n,r,m⟩:u.9<=kn/\(p==y1)=kd/\∃n,KV u n/\s.1.DictOf (mC X.prog X.w) p n:=I.hok p _ l;have f:u.9=n.length:=qE r;exact wpAny_truthy_dict C m () #[H,I.tok _,by rw[uY r];exact q]
 |_=>exact(show False from e).elim
theorem aX:yF X (hG .Add) (λx y H Q=>∃i j,x=.str i/\y=.str j/\i.9+j.9<=kn/\Q (.str (i++j)) H):=by intro z s g H x y v u Q I e k h;let#[i,j,rfl,rfl,f,q]:=h;let#[t,rfl]:=e;let#[w,rfl]:=k;exact add_str (λw l=>#[.str (i++j),H,I.tok _,#[_,rfl],q]) f
theorem FH{x:V}(r:oA [x] us):∃u,us=[u]/\JA x u:=by
 cases r with|cons y h=>cases h;exact#[_,rfl,y]
theorem Lg{x y:V}(r:oA [x,y] us):∃u h,us=[u,h]/\JA x u/\JA y h:=by
 cases r with
 |cons k w =>
  cases w with|cons v z=>cases z;exact#[_,_,rfl,k,v]
theorem S5(hc:X.calm=kf):XC X (.builtin "min") (λxs H Q=>∃i j,xs=[.int i,.int j]/\Q (.int (if j<i then j else i)) H):=by
 intro y s z H xs us Q I r h;let#[i,j,rfl,q]:=h;let#[u,v,rfl,#[t,rfl],#[e,rfl]]:=Lg r;refine min_two_ints (I.ok.hd hc) λf w k=>#[_,H,I.kept k,?_,q]
 by_cases x:j<i;rw[i0 x,i0 x];exact#[_,rfl];rw[ii x,ii x];exact#[_,rfl]
end
end
section
variable{k:Nat}{A:x0}
structure Room(k:Nat)(A:x0):Prop where
 hd:A.handled=kv
 dp:A.depth+3 * k+5<c0
 un:A.units+16 * k+200<gp
theorem Room.mono{j:Nat}(r:Room k A)(h:j<=k):Room j A:=#[r.hd,by have:=r.dp;omega,by have:=r.un;omega]
theorem Room.deeper(r:Room (k+1) A)(env:Env):Room k (A.deeper env) :=
 #[r.hd,by have:=r.dp;show A.depth+1+3 * k+5<_;omega,by have:=r.un;show A.units+3+16 * k+200<_;omega]
theorem Room.depth(r:Room k A):A.depth<recursionLimit:=by have:=r.dp;omega
def Lr:TA:=λ_ H Q=>Q [] H
noncomputable def Pr(ta:TE)(z:TA):TA:=λh H Q=>ta h H λx v=>z h v λy u=>Q (x::y) u
end
section
variable{X:Cx}{e:Expr}{es:List Expr}{te:TE}{t:TA}{pos:Pos}
theorem sX:PA X [] Lr:=λ_ _ _ _ H Q I h=>wa #[[],H,I,.nil,h]
theorem HR(j:PE X e te)(i:PA X es t)(g:xk (e::es) X.env=(kd,g6 e X.env)::xk es X.env:=by rfl):PA X (e::es) (Pr te t):=by intro pos y s z H Q I h;rw[g];show ku _ _ (ew ((kd,g6 e X.env)::fv pos (xk es X.env))) _ _ s;refine wA (DB (j y s z H _ I h) λu w #[x,o,m,a,f]=>?_);exact DB (i pos y w z o _ m f) λp q #[v,n,l,k,b]=>#[x::v,n,l,.cons a k,b]
def yy(t:TA):TE:=λy H Q=>t y H λh x=>h.9<=kn/\∀p,x p=kv->Q (.ref p) (FA x p (.tup h))
def gy(t:TA):TE:=λy H Q=>t y H λh x=>h.9<=kn/\∀p,x p=kv->Q (.ref p) (FA x p (.lst h))
theorem Nl{x1}(h:PA X es t):PE X (.Tuple es x1 pos) (yy t):=by intro x s k H Q I g;refine QBi (DB (h pos x s k H _ I g) λf y #[a,w,v,r,z,q]=>#[by rw[<- r.9];exact z,?_]);have i:w y.1.1.size=none:=v.hok.fresh (QY _);refine#[.ref y.1.1.size,FA w y.1.1.size (.tup a),v.laid (t':=y.toks) (λb u e=>QH _ e) (QY _) ?_,rfl,q _ i];exact#[z,f,r,#[_,QS _ rfl,rfl,_,rfl]]
theorem Pl(h:PA X es t):PE X (.List es pos) (gy t):=by intro x s k H Q I g;refine wpAny_List_spliced (DB (h pos x s k H _ I g) λf y #[a,w,v,r,z,q]=>#[by rw[<- r.9];exact z,?_]);have i:w y.1.1.size=none:=v.hok.fresh (QY _);refine#[.ref y.1.1.size,FA w y.1.1.size (.lst a),v.laid (t':=y.toks) (λb u e=>QH _ e) (QY _) ?_,rfl,q _ i];exact#[z,f,0,r,QS _ rfl]
end
noncomputable abbrev Sp:=LV->Hp->VK->XK->Prop
noncomputable abbrev uc:=List Env->Hp->kt->XK->kb->kt->Prop
structure Env0(P:k5)(w:xb)(K:QC)(mg:Str->Option kb)(base:vu)(A:x0)(outer:List Env)(s:kt)(H:Hp):Prop where
 frames:A.frames=jr outer
 mod:Mod K mg base
 bs:∀b o,base.get? b=jr o->s.1.get? b=jr o/\H b=kv
 bsz:base.1.size<=s.1.1.size
 funs:s.1.FunFrames base outer
 frf:∀b∈C1 outer,H b=kv
 tb:∀P q,FQ mg base P q->H P=jr (.tbl q)
 hok:yP P w H s.1
 bare:ax s.gens
def CE(outer:List Env)(P:k5)(w:xb)(H:Hp)(s:kt)(Q:VK)(u:kb)(s':kt):Prop :=
 ∃v h,s'.os=s.os/\ax s'.gens/\Un (C1 outer) [] H h s.1 s'.1/\yP P w h s'.1/\JA v u/\Q v h
def CR(h:uc)(outer:List Env)(P:k5)(w:xb)(H:Hp)(s:kt)(Q:VK)(E:XK)(r:Result)(s':kt):Prop :=
 match r with
 | .ok (.ret u)=>CE outer P w H s Q u s'|.ok _=>False|.error e=>h outer H s E e s'
structure FnOk(P:k5)(w:xb)(K:QC)(mg:Str->Option kb)(base:vu)(CX:uc)(k:Nat)(f:ko)(fd:zl)(ps:LS)(sp:Sp):Prop where
 len:∀vs H Q E,sp vs H Q E->vs.9=ps.9
 run:∀(A:x0) (outer:List Env) (s:kt) (H:Hp) (args:Args) (us:LW) (vs:LV) (Q:VK) (E:XK),Room k A->Env0 P w K mg base A outer s H->mA s fd args (ps.zip us)->oA vs us->sp vs H Q E ->
  mi (k0 P w) A (.call (.ref f) args) (CR CX outer P w H s Q E) s
theorem FnOk.mono{P:k5}{w:xb}{K:QC}{mg:Str->Option kb}{x:vu}{a:uc}{j k:Nat}{f:ko}{v:zl}{u:LS}{z:Sp}(F:FnOk P w K mg x a j f v u z)(h:j<=k) :
  FnOk P w K mg x a k f v u z:=#[F.len,λA y s H args e b Q E g=>F.run A y s H args e b Q E (g.mono h)]
section
variable{X:Cx}{x:IB}{σ:St}{H:Hp}{s s':kt}
theorem Inv.env0(I:Inv X x σ H s):Env0 X.prog X.w X.K X.mg X.base X.A X.stack s H :=
 #[I.ok.frames,I.ok.mod,I.bs,QW I.ok.bsz I.sz,I.stack,I.stkFree,I.tb,I.hok,I.bare]
theorem Inv.after{Q:VK}{u:kb}(I:Inv X x σ H s)(h:CE X.stack X.prog X.w H s Q u s'):EP X x σ Q u s':=by let#[v,f,a,bare,un,k,r,q]:=h;let#[e,g,d,t,y]:=s';obtain rfl:y=s.os:=a;exact#[v,f,I.call (h':=e) (g':=g) (d':=d) (t':=t) (ch:=[]) un k bare (λb z=>i3 z (by simp)),r,q]
end
noncomputable def Rg(z:Sp)(h:LV)(E:XK)(t:TA):TE:=λx H Q=>t x H λy u=>z (y++h) u Q E
def xK(K:QC)(y:zl)(x:LS)(ds:LW):Prop :=
 ∀(s:kt) (h:LW),K.In s.1->(h++ds).9=x.9->mA s y #[h,[]] (x.zip (h++ds))
theorem xK.all{K:QC}{y:zl}{x:LS}(h:∀us:LW,us.9=x.9->lp y #[us,[]]=ti (x.zip us)):xK K y x []:=λs us _ hl=>by rw[qI]at hl ⊢;exact .of_eq (h us hl)
def BO(z:uc)(X:Cx)(E:XK):Prop:=∀(h:IB) (y:St) (H:Hp) (s:kt) (e:kb) (x:kt),Inv X h y H s->z X.stack H s E e x->X.xe e x
section
variable{X:Cx}{b:uc}{k:Nat}{f C:ko}{a:zl}{z:LS}{v:Sp}{y:LV}{ds:LW}{E:XK}{x m:Str}{p pos apos:Pos}{e o:Expr}{es:List Expr}{ta:TE}{t:TA}
theorem G7{g:IB}{σ:St}{H:Hp}{s:kt}{Q:VK}{us:LW}{vs:LV}(F:FnOk X.prog X.w X.K X.mg X.base b k f a z v)(q:Room k X.A)(hb:xK X.K a z ds)(Y:oA y ds)(n:BO b X E)
  (I:Inv X g σ H s) (r:oA vs us) (h:v (vs++y) H Q E):ku (k0 X.prog X.w) X.A (Er (.ref f) us) (EP X g σ Q) X.xe s:=by
 have j:oA (vs++y) (us++ds):=r.append Y;have hl:(us++ds).9=z.length:=by rw[<- j.9];exact F.len _ _ _ _ h
 refine wpAny_call (QCI (F.run X.A X.stack s H #[us,[]] (us++ds) (vs++y) Q E q I.env0 (hb s us I.kIn hl) j h) λr l i=>?_);cases r with
 |error e=>exact n g σ H s e l I i|ok fl =>
  cases fl with|ret u=>exact I.after i|next=>exact Qg i|brk=>exact Qg i|cont=>exact Qg i
theorem ze(F:FnOk X.prog X.w X.K X.mg X.base b k f a z v)(Y:Room k X.A)(B:Gl X x)(Z:X.mg x=jr (.ref f))(hk:wW X.K (.ref f)=kf)(hb:xK X.K a z ds)(J:oA y ds)(n:BO b X E)
  (L:PA X (e::es) t) (i:(x==("__debug__":Str))=false:=by decide) (G:xk (e::es) X.env=(kd,g6 e X.env)::xk es X.env:=by rfl) (g:(fv pos (xk es X.env)).any (·.1)=false:=by rfl) :
  PE X (.Call (.Name x p) (e::es) [] pos) (Rg v y E t):=by
 intro u s l H Q I h;refine qe (oS I B Z ?_ i);refine PySem.W.callWith_K (h₀:=X.base) I.ok.mod.kin hk (DB (L pos u s l H _ I h) λN O #[M,P,j,r,q]=>#[j.kIn,?_]) G g;exact G7 F Y hb J n j r q
theorem J8(F:FnOk X.prog X.w X.K X.mg X.base b k f a z v)(j:Room k X.A)(n:Gl X x)(l:X.mg x=jr (.ref f))(hk:wW X.K (.ref f)=kf)(hb:xK X.K a z ds)(q:oA y ds)(i:BO b X E)
  (u:(x==("__debug__":Str))=false:=by decide):PE X (.Call (.Name x p) [] [] pos) (Rg v y E Lr):=by
 intro g s r H Q I h;refine qe (oS I n l ?_ u);exact PySem.W.callWith_K0 I.kIn hk (G7 (us:=[]) F j hb q i I .nil h)
end
section
variable{X:Cx}{c:uc}{k:Nat}{f C:ko}{b:zl}{v ks:LS}{u:Sp}{E:XK}{x m:Str}{p pos apos h:Pos}{e o:Expr}{es:List Expr}{y:List la}{te ta:TE}{t z:TA}{w:Option Str}
variable{g:LW->LW->LW}{a:LV->LV->LV}
end
section
variable{l:uc}{P:k5}{w:xb}{mg:Str->Option kb}{base:vu}{j:LS}{g:Str}{d:hE}{f:ko}
structure FnScope(N P:LS)(sc:hE):Prop where
 kind:sc.kind=.function
 co:sc.isCoroutine=kd
 gen:sc.isGenerator=kd
 nd:N.Nodup
 pre:N.take P.9=P
 par:∀x∈P,sc.names.lookup x=jr .local∨sc.names.lookup x=jr .cell
 nofree:∀y∈sc.names,y.2≠.free
theorem VQ{y:Str->Option fb}{x:Str}:∀{binds:List (Str×kb)}{m:Str->Option kb},(∀v,(x,v)∉binds)->nP y binds m x=m x
 |[],_,_=>rfl|(n,v)::r,m,h=>by
  unfold nP;rw[VQ λw z=>h w (QF _ z)];split;have:x≠n:=by rintro rfl;exact h v QE
  simp[this];rfl
theorem UQ{y:Str->Option fb}{x:Str}:∀{binds:List (Str×kb)}{m:Str->Option kb},(∀v,(x,v)∉binds)->nS y binds m x=m x
 |[],_,_=>rfl|(n,v)::r,m,h=>by
  unfold nS;rw[UQ λw z=>h w (QF _ z)];split;rfl;have:x≠n:=by rintro rfl;exact h v QE
  simp[this]
theorem XQ{y:Str->Option fb}{x:Str}{v:kb}:∀{P:LS}{vs:LW}{i:Nat}{m:Str->Option kb},P.Nodup->P[i]?=jr x->vs[i]?=jr v->y x=jr .local ->
  nP y (P.zip vs) m x=jr v
 |[],_,_,_,_,h,_,_=>by simp at h|_::_,[],_,_,_,_,h,_=>by simp at h|p::P,w::vs,0,m,nd,h1,h2,hk=>by simp at h1 h2;subst h1;subst h2;show nP y ((p,w)::P.zip vs) m p=_;unfold nP;rw[VQ λv hv=>(Qj.mp nd).1 (QBG hv).1,i0 hk];simp|p::P,w::vs,i+1,m,nd,h1,h2,hk=>by show nP y ((p,w)::P.zip vs) m x=_;unfold nP;exact XQ (i:=i) (Qj.mp nd).2 (by simpa using h1) (by simpa using h2) hk
theorem BQ{y:Str->Option fb}{x:Str}{v:kb}:∀{P:LS}{vs:LW}{i:Nat}{m:Str->Option kb},P.Nodup->P[i]?=jr x->vs[i]?=jr v->y x≠jr .local ->
  nS y (P.zip vs) m x=jr v
 |[],_,_,_,_,h,_,_=>by simp at h|_::_,[],_,_,_,_,h,_=>by simp at h|p::P,w::vs,0,m,nd,h1,h2,hk=>by simp at h1 h2;subst h1;subst h2;show nS y ((p,w)::P.zip vs) m p=_;unfold nS;rw[UQ λv hv=>(Qj.mp nd).1 (QBG hv).1,ii hk];simp|p::P,w::vs,i+1,m,nd,h1,h2,hk=>by show nS y ((p,w)::P.zip vs) m x=_;unfold nS;exact BQ (i:=i) (Qj.mp nd).2 (by simpa using h1) (by simpa using h2) hk
noncomputable def sD(N:LS)(vs:LV):St:=vs.map jr++QAW (N.9 - vs.9) kv
noncomputable def YY(l:uc)(P:k5)(w:xb)(K:QC)(mg:Str->Option kb)(base:vu)(N:LS)(g:Str)(d:hE)(f:ko)(x:kb)(A:x0)(outer:List Env)(s:kt)(H:Hp)(E:XK):Cx where
 prog:=P
 w:=w
 K:=K
 mg:=mg
 base:=base
 A:=A.deeper (ak g d s.1.1.size f x)
 N:=N
 s₀:=s
 H₀:=H
 env:=ak g d s.1.1.size f x
 outer:=outer
 stack:=ak g d s.1.1.size f x::outer
 ex:=[]
 calm:=kf
 fn:=λ_=>kf
 pn:=[]
 xe:=λe y=>ku (k0 P w) (A.deeper (ak g d s.1.1.size f x)) (leaving (ak g d s.1.1.size f x) e) (λ_ h=>l outer H s E e h) (λz h=>l outer H s E z h) y
theorem NV{sc:hE}{n:Nat}{x:Str}(h:sc.names.lookup x=jr .cell):∃c,(rn n sc.names []).lookup x=jr c:=by have q:=QA3 sc.names n [] (.inl h);exact Option.isSome_iff_exists.mp q
theorem i5{K:QC}{N:LS}{F:kb}{A:x0}{outer:List Env}{s G:kt}{H:Hp}{E:XK}{us:LW}{vs:LV}
  (S:FnScope N j d) (M:A.handled=kv) (o:Env0 P w K mg base A outer s H) (hl:vs.9=j.9) (r:oA vs us)
  (x:InCallC s s.1.1.size (nP (ak g d s.1.1.size f F).kindOf (j.zip us) λ_=>kv) (rn (s.1.1.size+1) d.names []) (nS (ak g d s.1.1.size f F).kindOf (j.zip us) λ_=>kv) G) :
  Inv (YY l P w K mg base N g d f F A outer s H E) [] (sD N vs) H G:=by
 have L:j.9<=N.length:=by have:=o9 qO S.pre;rw[qH]at this;omega
 let#[C,Q,rfl,hk]:=x.done;have X:∀b:ko,b∉(YY l P w K mg base N g d f F A outer s H E).ex:=λb z=>i3 (show b∈([]:List ko) from z) (by simp);refine#[#[o.mod,S.kind,rfl,rfl,QY _,λy z c C m=>?_,λy Y=>?_,λy c _ h=>?_,λ_=>M,Around.frames_deeper o.frames,.inr #[rfl,rfl],λb z=>i3 z (X b),o.bs,o.bsz,λb _ _=>X b,λb z=>i3 z (X b),o.funs,o.frf,o.tb],
  rfl,o.bare,Un.kept hk,#[_,x.toInCall.ns,λi y v C m R=>?_],λy c h=>#[_,x.cell y c h],o.hok.fresh (QY _),λy c h=>?_,λp W=>i3 (show p∈([]:IB) from W) (by simp),o.hok.kept hk,?_]
 exact name_of_addr x.apart (qQ C) (qQ m);have Y:d.names.lookup y=jr .cell∨d.names.lookup y=jr .free:=Y;rcases Y with Y|Y;exact NV Y;exact i3 rfl (S.nofree _ (qQ Y));exact QBF (x.above y c (qQ h));have B:i<vs.length:=by unfold sD at m;by_cases B:i<vs.9;exact B;rw[Qy (by simpa using B)]at m;rw[wk]at m;split at m<;>cases m
 have O:vs[i]?=jr v:=by
  unfold sD at m;rw[qL (by simpa using B),Qc]at m;cases e:vs[i]? with|none=>rw[e]at m;cases m|some a=>rw[e]at m;cases m;rfl
 let#[u,I,J]:=r.get O;have W:j[i]?=jr y:=by rw[<- S.pre,List.getElem?_take_of_lt ()];exact C
 have Z:j.Nodup:=by rw[<- S.pre];exact S.nd.sublist (QB6 _ _)
 refine#[u,J,?_];rcases S.par y (qN W) with k|k;exact .inl #[k,XQ Z W I k];let#[c,e]:=NV (n:=s.1.1.size+1) k;refine .inr #[.inl k,c,e,?_];have q:=x.cell y c e;rw[BQ Z W I (by show d.names.lookup y≠_;rw[k];decide)]at q;exact q;exact o.hok.fresh (QBF (x.above y c (qQ h)));unfold sD;show _=N.9;rw[QJ,QA,qz];omega
theorem Ah{K:QC}{k:Nat}{name:Str}{z:Rt}{body:List gV}{dV kV B pm h ct oc:kb}{an od:Option ko}
  {L:Array (Option kb)}{N:LS}{C:Sp}(lk:K.lookup f=jr #[oc,od,.func (qy name g z body d dV kV B pm an h ct),L]) (R:Wp K h g=kf) (S:FnScope N j d)
  (len:∀vs H Q E,C vs H Q E->vs.9=j.9)
  (p:∀(A:x0) (outer:List Env) (s:kt) (H:Hp) (vs:LV) (Q:VK) (E:XK),Room k (A.deeper (ak g d s.1.1.size f h))->C vs H Q E ->
   ∃t,bZ (YY l P w K mg base N g d f h A outer s H E) body t/\t { nx:=λ_ i=>Q .non i,rt:=Q } (sD N vs) H) :
  FnOk P w K mg base l (k+1) f (qy name g z body d dV kV B pm an h ct) j C:=by
 refine#[len,λA outer s H args us vs Q E O Z hb r Y=>?_];have hl:=len _ _ _ _ Y;have KX:K.In s.heap:=Z.mod.kin.keeps λb o e=>(Z.bs b o e).1;have M:s.1.NoLimit:=Z.mod.nolimit.keeps λb o e=>(Z.bs b o e).1;have m:∀y∈j.zip us,d.names.lookup y.1=jr .local∨(d.names.lookup y.1=jr .cell/\((rn (s.1.1.size+1) d.names []).lookup y.1).isSome=kf):=λ#[n,v] hy=>by rcases S.par n (QBG hy).1 with q|q;exact .inl q;exact .inr #[q,QA3 _ _ _ (.inl q)]
 refine codeAny_call_function O.depth (KX _ _ lk) rfl S.co S.gen rfl (PySem.W.codeRec_of KX R) (hb _ _ _ _ ?_);refine wpAny_newFunctionEnv_cells S.kind m λenv he s1 x=>?_;subst he;refine#[M.keeps x.toInCall.keep,codeAny_func ?_];let#[t,ht,hq]:=p A outer s H vs Q E (O.deeper _) Y;have I:Inv (YY l P w K mg base N g d f h A outer s H E) [] (sD N vs) H s1:=i5 S O.hd Z hl r x;refine qm (ht [] s1 (sD N vs) H _ I hq) (λfl F X=>?_) λe F X=>X;have fin:∀{a:St}{i:Hp}{v:V}{u:kb},Inv (YY l P w K mg base N g d f h A outer s H E) [] a i F->JA v u->Q v i->CE outer P w H s Q u F :=
  λ{a i v u} J G q=>#[v,i,J.os,J.bare,J.base,J.hok,G,q]
 cases fl with|ret u=>let#[v,a,i,J,G,q]:=X;exact fin J G q|next=>let#[a,i,J,q]:=X;exact fin (v:=V.non) (u:=j2) J rfl q|brk=>let#[_,_,_,q]:=X;exact Qg q|cont=>let#[_,_,_,q]:=X;exact Qg q
end
section
variable{X:Cx}{x:Str}{p pos:Pos}{e:Expr}{es:List Expr}{t:TA}{y T:String}{r:LV->Hp->VK->Prop}
noncomputable def jAt(r:LV->Hp->VK->Prop)(t:TA):TE:=λh H Q=>t h H λz u=>r z u Q
theorem JU(hc:XC X (.builtin y) r)(l:Gl X x)(j:X.mg x=kv)(hv:g7 x=jr (.builtin y))(n:PA X (e::es) t)(i:x≠"__name__":=by decide)(v:(x==("__debug__":Str))=false:=by decide)
  (m:xk (e::es) X.env=(kd,g6 e X.env)::xk es X.env:=by rfl) (u:(fv pos (xk es X.env)).any (·.1)=false:=by rfl):PE X (.Call (.Name x p) (e::es) [] pos) (jAt r t):=by
 intro z s w H Q I h;refine qe (nE I l j hv ?_ i v);exact PyProof.Rows.callWith_builtin1 (DB (n pos z s w H _ I h) λa b #[k,q,o,f,g]=>hc z b w q k a Q o f g) m u
theorem y4(hc:XC X (.type T) r)(l:Gl X x)(j:X.mg x=kv)(hv:g7 x=jr (.type T))(n:PA X (e::es) t)(i:x≠"__name__":=by decide)(v:(x==("__debug__":Str))=false:=by decide)
  (m:xk (e::es) X.env=(kd,g6 e X.env)::xk es X.env:=by rfl) (u:(fv pos (xk es X.env)).any (·.1)=false:=by rfl):PE X (.Call (.Name x p) (e::es) [] pos) (jAt r t):=by
 intro z s w H Q I h;refine qe (nE I l j hv ?_ i v);exact qJ (DB (n pos z s w H _ I h) λa b #[k,q,o,f,g]=>hc z b w q k a Q o f g) m u
end
end L2
namespace HT
open PySem PyProof.Rows
section
open PySem.SeqAt
open PySem.AutoSeq1 (wpAny_loadPart')
open PySem.MeetsSeq PySem.MeetsSeq2 PySem.MeetsSeq3
end
section
variable{prog:k5}{w:xb}{A:x0}{E:dC}{s:kt}
theorem cat_tup{t b:ko}{vs ws:LW}{Q:dC}(m:a8 s.1 t vs.toArray)(hb:a8 s.1 b ws.toArray)(hv:vs≠[])
  (p:ws=[]->Q (.ref t) s) (o:ws≠[]->Q (.ref s.1.1.size) { s with heap:=s.1.push { cls:=.type "tuple",data:=.seq (vs++ws).toArray } })
  (hsz:vs.9+ws.length<=kn):ku (k0 prog w) A (hG .Add (.ref t) (.ref b)) Q E s:=by
 let#[#[cls,j,data,f],k,hc,n,i]:=id m;let#[#[l,u,a,x],h,z,g,y]:=id hb;simp only at hc i z y;subst hc i z y;have e:vs.toArray++ws.toArray=(vs++ws).toArray:=by simp
 by_cases v:ws=[];exact QCJ #[_,k,rfl] #[_,h,rfl] QCR p0 QA4 QAo (QAf _ _)
  (tuple_addW1 t b vs.toArray ws.toArray n g j u f x (by simpa using hv) (by simp[v])) #[k,h,p v]
 refine QCJ #[_,k,rfl] #[_,h,rfl] QCR p0 QA4 QAo (QAf _ _)
  (tuple_addW2 t b vs.toArray ws.toArray n g j u f x (by simpa using hv) (by simpa using v) (by rw[QN,QN];exact hsz)) #[k,h,?_]
 rw[e];exact o v
noncomputable def sIx(n d:Nat):Option Int->Nat
 |none=>d|some v=>if v<0 then(v+(n:Int)).toNat else min v.toNat n
end
end HT
namespace L2
open PySem PySem.Spec PyProof.Rows
noncomputable abbrev TO:=St->Hp->(Option Int->Hp->Prop)->Prop
def PO(X:Cx)(e:Option Expr)(t:TO):Prop :=
 ∀(h:IB) (s:kt) (x:St) (H:Hp) (Q:Option Int->Hp->Prop),Inv X h x H s->t x H Q ->
  ku (k0 X.prog X.w) X.A (evalPart e X.env) (λu z=>∃o y,Inv X h x y z/\IsPart u o/\Q o y) X.xe s
def Pc:TO:=λ_ H Q=>Q kv H
noncomputable def Gr(t:TE):TO:=λh H Q=>t h H λx y=>∃i,x=.int i/\Q (jr i) y
theorem bY{ns:LJ}:∀{us:LW},oA (ns.map V.int) us->ac us ns:=by
 induction ns with
 |nil=>intro us r;rw[wT]at r;cases r;exact .nil|cons n ns y =>
  intro us r;rw[QU]at r;cases r with|cons x h=>let#[t,e]:=x;subst e;exact .cons n t (y h)
section
variable{X:Cx}{e:Expr}{te:TE}{k c:Option Expr}{d f:TO}{pos p2:Pos}
theorem Gd:PO X kv Pc:=by intro x s y H Q I h;rw[p5];exact QL #[kv,H,I,.none,h]
theorem Fd(h:PE X e te):PO X (jr e) (Gr te):=by intro y s z H Q I a;rw[evalPart_some];refine DB (h y s z H _ I a) λu j #[x,g,b,v,w]=>?_;let#[i,rfl,q]:=w;let#[t,rfl]:=v;exact#[jr i,g,b,.int i t,q]
def xq(X:Cx)(r:V->Option Int->Option Int->Hp->VK->Prop):Prop :=
 ∀(h:IB) (s:kt) (y:St) (H:Hp) (x:V) (v u z:kb) (k c:Option Int) (a:ko) (Q:VK),Inv X h y H s->JA x v->s.1.IsSliceOf a u z .none->IsPart u k->IsPart z c->r x k c H Q ->
  ∃T id,l8 (.type T) "__getitem__"=ti (jr (.builtin id))/\s.TypeIs v T/\ku (k0 X.prog X.w) X.A (sn v (.ref a)) (EP X h y Q) X.xe s
theorem xq.or{r g:V->Option Int->Option Int->Hp->VK->Prop}(h:xq X r)(h':xq X g):xq X (λx k c H Q=>r x k c H Q∨g x k c H Q):=by intro y s z H x v w u k c a Q I b l j i q;rcases q with q|q;exact h y s z H x v w u k c a Q I b l j i q;exact h' y s z H x v w u k c a Q I b l j i q
noncomputable def jBn(r:V->Option Int->Option Int->Hp->VK->Prop)(te:TE)(d f:TO):TE:=λh H Q=>te h H λx v=>d h v λl z=>f h z λu y=>r x l u y Q
theorem n8{r:V->Option Int->Option Int->Hp->VK->Prop}(E:xq X r)(G:PE X e te)(hl:PO X k d)(B:PO X c f):PE X (.Subscript e (.Slice k c kv p2) pos) (jBn r te d f):=by intro y s a H Q I h;refine QB7 (DB (G y s a H _ I h) λv n #[x,R,O,o,Z]=>?_);refine wpAny_Slice (DB (hl y n a R _ O Z) λi m #[l,P,N,K,Y]=>DB (B y m a P _ N Y) λg z #[u,j,M,W,p]=>?_);rw[p5];refine QL ?_;have L:Inv X y a j { z with heap:=z.1.push { cls:=.type "slice",data:=.fields (qG [i,g,.none]) } }:=M.kept (t':=z.toks) λb ob q=>QH _ q;let#[T,id,J,C,F]:=E y { z with heap:=z.1.push { cls:=.type "slice",data:=.fields (qG [i,g,.none]) } } a j x v i g l u z.1.1.size Q L o (Heap.IsSliceOf.new ..) K W p;show ku (k0 X.prog X.w) X.A (ab e (.Slice k c kv p2) v (.ref z.1.1.size)) (EP X y a Q) X.xe { z with heap:=z.1.push { cls:=.type "slice",data:=.fields (qG [i,g,.none]) } };exact tail_any (ops:=[.ref z.1.1.size,v]) C J F (by with_unfolding_all rfl)
noncomputable def G5(xs:LV)(k c:Option Int):LV:=(xs.drop (HT.sIx xs.9 0 k)).take (HT.sIx xs.9 xs.9 c - HT.sIx xs.9 0 k)
theorem FV(xs:LV)(k c:Option Int):(G5 xs k c).9<=xs.length:=by unfold G5;rw[qH,QA1];omega
def uh(K:QC):R2:=λx y H Q=>∃a b z h,x=.ref a/\y=.ref b/\LD K H a z/\LD K H b h/\z≠[]/\z.9+h.9<=kn /\
 (h=[]->Q (.ref a) H)/\(h≠[]->∀p,H p=kv->Q (.ref p) (FA H p (.tup (z++h))))
theorem oA.nil_iff{xs:LV}{us:LW}(r:oA xs us):us=[]↔xs=[]:=by
 cases r with|nil=>simp|cons _ _=>simp
theorem ge:yF X (hG .Add) (uh X.K):=by intro j s F H x y v u Q I Y r h;let#[a,b,p,n,rfl,rfl,E,hb,C,m,W,Z]:=h;cases Y;cases r;let#[B,i,A,_]:=I.tuple E;let#[l,g,p2,_]:=I.tuple hb;refine HT.cat_tup A p2 (λz=>C (i.nil_iff.mp z)) (λz=>#[.ref a,H,I,rfl,W (g.nil_iff.mp z)]) (λz=>?_) (by rw[<- i.9,<- g.9];exact m);refine#[.ref s.1.1.size,_,I.laid (t':=s.toks) (o:=.tup (p++n)) (λb ob q=>QH _ q) (QY _) ?_,rfl,Z (λw=>z (g.nil_iff.mpr w)) _ (I.hok.fresh (QY _))];exact#[by rw[QJ];exact m,_,i.append g,IsTup.new _ _]
end
noncomputable def UT(n:Nat)(i:Int):Option Nat:=if 0<=i then(if i<n then jr i.toNat else kv) else if -(n:Int)<=i then jr (i+n).toNat else kv
def vD{α:Type}(xs:List α)(i:Int):Option α:=(UT xs.9 i).bind λj=>xs[j]?
theorem aS{n:Nat}{i:Int}{j:Nat}(h:UT n i=jr j):seqIndex? i n=jr j/\j<n/\-(n:Int)<=i/\i<n:=by unfold UT at h;by_cases y:0<=i;rw[i0 y]at h;by_cases x:i<n;rw[i0 x]at h;have e:i.toNat=j:=Qm h;exact#[by rw[QAp y x,e],(),(),x];rw[ii x]at h;cases h;rw[ii y]at h;by_cases x:-(n:Int)<=i;rw[i0 x]at h;have e:(i+n).toNat=j:=Qm h;exact#[by rw[QCK () x,e],(),x,()];rw[ii x]at h;cases h
theorem gT{α:Type}{xs:List α}{i:Int}{v:α}(h:vD xs i=jr v):∃j,seqIndex? i xs.9=jr j/\xs[j]?=jr v/\j<xs.9/\-(xs.9:Int)<=i/\i<xs.length:=by
 unfold vD at h;cases e:UT xs.9 i with|none=>rw[e]at h;cases h|some j=>rw[e]at h;let#[u,z,y,x]:=aS e;exact#[j,u,h,z,y,x]
theorem FF{α:Type}{xs:List α}{j:Nat}{v:α}(h:xs[j]?=jr v):vD xs (j:Int)=jr v:=by
 have x:j<xs.length:=(Qh.mp h).1;have e:UT xs.9 (j:Int)=jr j:=by unfold UT;rw[i0 (),i0 ()];simp
 unfold vD;rw[e];exact h
def A2(b:Expr):Prop:=∀o i,subscripted b kd o i=operate [o,i] (sn o i)
def zc(X:Cx)(r:R2):Prop :=
 ∀(k h:Expr) (z:IB) (s:kt) (a:St) (H:Hp) (x y:V) (v u:kb) (Q:VK),Inv X z a H s->JA x v->JA y u->r x y H Q ->
  subscripted h kd v u=operate [v,u] (sn v u)->ku (k0 X.prog X.w) X.A (ab k h v u) (EP X z a Q) X.xe s
def jc(X:Cx)(id:String)(r:V->LV->Hp->VK->Prop):Prop :=
 ∀(h:IB) (s:kt) (y:St) (H:Hp) (x:V) (z:LV) (v:kb) (u:LW) (Q:VK),Inv X h y H s->JA x v->oA z u->r x z H Q ->
  ku (k0 X.prog X.w) X.A (Er (.builtin id) (v::u)) (EP X h y Q) X.xe s
section
variable{X:Cx}{a b:Expr}{ta tb:TE}{pos:Pos}
section
variable{d:IB}{s:kt}{x:V}{u v:kb}
theorem zc.or{r g:R2}(h:zc X r)(h':zc X g):zc X (λx y H Q=>r x y H Q∨g x y H Q):=by intro z w d s k H x y v u Q I f e q i;rcases q with q|q;exact h z w d s k H x y v u Q I f e q i;exact h' z w d s k H x y v u Q I f e q i
theorem jc.or{g:String}{r e:V->LV->Hp->VK->Prop}(h:jc X g r)(h':jc X g e):jc X g (λx xs H Q=>r x xs H Q∨e x xs H Q):=by intro d s y H x xs v z Q I w k q;rcases q with q|q;exact h d s y H x xs v z Q I w k q;exact h' d s y H x xs v z Q I w k q
theorem ut{r:R2}(g:zc X r)(i:PE X a ta)(hb:PE X b tb)(f:A2 b):PE X (.Subscript a b pos) (Hr r ta tb):=by intro d s z H Q I h;exact QB7 (binT i hb I h λv u w x y l j e k q=>g a b d w z l x y v u Q j e k q (f _ _))
def Ts(K:QC):R2:=λx y H Q=>∃p h i v,x=.ref p/\y=.int i/\YC K H p h/\vD h i=jr v/\Q v H
def Rs(K:QC):R2:=λx y H Q=>∃p h i v,x=.ref p/\y=.int i/\LD K H p h/\vD h i=jr v/\Q v H
def Ss:R2:=λx y H Q=>∃z i c,x=.str z/\y=.int i/\z.9<=kn/\vD z.cps.toList i=jr c/\Q (.str #[(qG [c])]) H
theorem Kf:zc X (Ts X.K):=by
 intro e f d s o H x y v u Q I C B h Y;let#[p,M,i,z,rfl,rfl,E,F,q]:=h;cases C;let#[t,rfl]:=B;let#[m,r,l,N]:=I.list E;let#[j,k,L,P,J,G]:=gT F;let#[w,W,g]:=r.get L;have hl:=r.9;have O:=dI;have fin:EP X d o Q w s:=#[z,H,I,g,q]
 by_cases Z:0<=i;have n:i.toNat=j:=by rw[QAp Z G]at k;exact Qm k
 exact item_listR l.isList Z () (by rw[n];simpa using W) fin Y;have n:(i+(m.toArray.size:Int)).toNat=j:=by rw[QCK () J]at k;rw[QN,<- hl];exact Qm k
 exact qj (x:=w) l.isList.typeIs QB8.lookup
  (wpAny_getItem_list_neg (Q:=λr A=>r=w/\EP X d o Q r A) l.isList () (by rw[QN]<;>omega) () (by rw[n];simpa using W) #[rfl,fin]) Y
theorem vo:zc X (Rs X.K):=by
 intro k e d s g H x y v u Q I o n h Z;let#[p,F,i,z,rfl,rfl,W,A,q]:=h;cases o;let#[t,rfl]:=n;let#[Y,r,l,G]:=I.tuple W;let#[j,C,B,N,M,L]:=gT A;let#[w,E,f]:=r.get B;have hl:=r.9;have J:=dI;have fin:EP X d g Q w s:=#[z,H,I,f,q]
 exact qj (x:=w) l.typeIs QAO.lookup
  (QBy (j:=j) (Q:=λr m=>r=w/\EP X d g Q r m) l () () (by rw[QN,<- hl];exact C) (by simpa using E) #[rfl,fin]) Z
theorem uo:zc X Ss:=by
 intro w k d s Z H x y v u Q I g f h l;let#[z,i,c,rfl,rfl,K,m,q]:=h;let#[t,rfl]:=g;let#[W,rfl]:=f;let#[j,e,p,B,o,n]:=gT m;have hl:z.cps.toList.9=z.length:=by simp[Str.length]
 rw[hl]at e o n;have A:=dI;exact tail_any (QCk s z t) slot_str_getitem.lookup (getItem_str (c:=c) (by have Y:decide (i < -(2 ^ 63:Int))=false:=dF ();have r:decide (i ≥ 2 ^ 63)=false:=dF ();rw[Y,r,QBr]) (by rw[e];simpa using p) #[.str #[(qG [c])],H,I.tok _,#[_,rfl],q]) l
def jBu(K:QC):R2:=λx y H Q=>Ts K x y H Q∨Rs K x y H Q∨Ss x y H Q
theorem fo:zc X (jBu X.K):=Kf.or (vo.or uo)
theorem IX(its:LW)(n j:Nat)(u:kb):Q4 (·.setIfInBounds j u) { cls:=.type "list",data:=.seq its.toArray n }={ cls:=.type "list",data:=.seq (its.set j u).toArray n }:=by simp[Q4]
theorem Inv.lst{d:IB}{σ:St}{H:Hp}{s:kt}{p:ko}{xs:LV}(I:Inv X d σ H s)(h:H p=jr (.lst xs)) :
  ∃(its:LW) (n:Nat),oA xs its/\s.1.get? p=jr { cls:=.type "list",data:=.seq its.toArray n }/\xs.9<=sizeLine:=by
 let#[z,its,n,r,e]:=I.hok p _ h;exact#[its,n,r,e,z]
theorem Inv.lstUpd{σ:St}{H:Hp}{p:ko}{xs y:LV}{its its':LW}{n z:Nat}{f:Obj->Obj}(I:Inv X d σ H s)(h:H p=jr (.lst xs))
  (g:s.1.get? p=jr { cls:=.type "list",data:=.seq its.toArray n }) (w:f { cls:=.type "list",data:=.seq its.toArray n }={ cls:=.type "list",data:=.seq its'.toArray z }) (r:oA y its') (k:y.9<=kn) (t:Nat) :
  Inv X d σ (FA H p (.lst y)) { s with heap:=s.1.update p f,toks:=t }:=by
 have e:(s.1.update p f).get? p=jr { cls:=.type "list",data:=.seq its'.toArray z }:=by rw[wU f g (by rw[w]<;>rfl),w]
 refine I.write (x:=p) (e:=p) (by rw[h];trivial) (.inl rfl) (λb u hb q=>(Wi _ _ (qC hb)).trans q) #[_,e] ?_;exact#[k,its',z,r,e]
def Ls:V->V->V->Hp->(Hp->Prop)->Prop:=λo i v H Q=>∃p h k j,o=.ref p/\i=.int k/\H p=jr (.lst h)/\UT h.9 k=jr j/\Q (FA H p (.lst (h.set j v)))
theorem U7:Xg X Ls:=by
 intro d s Y H o i v F G u Q I A B K h;let#[p,Z,k,j,rfl,rfl,e,E,q]:=h;cases A;let#[t,rfl]:=B;let#[y,n,r,w,C]:=I.lst e;let#[z,L,g,f]:=aS E;have hl:=r.9;have J:=dI;have m:Inv X d Y (FA H p (.lst (Z.set j v))) { s with heap:=s.1.update p (Q4 (·.setIfInBounds j u)) } :=
  I.lstUpd e w (IX y n j u) (r.set K j) (by rw[wL];exact C) s.toks
 by_cases l:0<=k;have hk:k.toNat=j:=by rw[QAp l f]at z;exact Qm z
 exact PySem.W.ki_setAt w l () (by rw[QN,<- hl];exact f) (by rw[hk];exact#[_,m,q]);have hk:(k+(y.toArray.size:Int)).toNat=j:=by rw[QCK () g]at z;rw[QN,<- hl];exact Qm z
 exact PySem.W.ki_setBack w () (by rw[QN,<- hl];exact g) () (by rw[hk];exact#[_,m,q])
theorem JR(y z:Option Int)(n:Nat):(fk y z kv n).1=((HT.sIx n 0 y:Nat):Int)/\(fk y z kv n).2.1=((HT.sIx n n z:Nat):Int)/\(fk y z kv n).2.2=1:=by
 refine#[?_,?_,rfl];cases y with|none=>simp[fk,HT.sIx]|some i=>simp only[fk,HT.sIx,QCS,show(1:Int) > 0 by decide,if_true];by_cases h:i<0;simp only[h,if_true]<;>omega;simp only[h,if_false]<;>omega
 cases z with|none=>simp[fk,HT.sIx]|some i=>simp only[fk,HT.sIx,QCS,show(1:Int) > 0 by decide,if_true];by_cases h:i<0;simp only[h,if_true]<;>omega;simp only[h,if_false]<;>omega
theorem bP(its:LW)(h y:Option Int):slicePick its.toArray h y kv=((its.drop (HT.sIx its.9 0 h)).take (HT.sIx its.9 its.9 y - HT.sIx its.9 0 h)).toArray:=by let#[k,w,z]:=JR h y its.toArray.size;unfold slicePick;rw[k,w,z];simp only[sliceRange_one,pick_run,QN]<;>rfl
def Hs(K:QC):V->Option Int->Option Int->Hp->VK->Prop:=λx y z H Q=>∃a h,x=.ref a/\YC K H a h/\∀p,H p=kv->Q (.ref p) (FA H p (.lst (G5 h y z)))
theorem jd:xq X (Hs X.K):=by intro d s p H x v Z Y w k W Q I f n i g h;let#[a,y,rfl,m,q]:=h;cases f;let#[j,r,e,l]:=I.list m;have z:=r.9;refine#["list",_,QB8.lookup,e.isList.typeIs,?_];refine wpAny_getItem_list_slice e.isList n i g .none (by simp) ?_ (by rw[QN]<;>omega);rw[bP,<- z];refine#[.ref s.1.1.size,_,I.laid (t':=s.toks) (o:=.lst (G5 y w k)) (λb ob q=>QH _ q) (QY _) ?_,rfl,q _ (I.hok.fresh (QY _))];exact#[QW (FV y w k) l,_,0,(r.drop (HT.sIx y.9 0 w)).take (HT.sIx y.9 y.9 k - HT.sIx y.9 0 w),QS _ rfl]
noncomputable def JG:V->Bool
 | .non=>kf|.bl _=>kf|.int _=>kf|.str _=>kf|_=>kd
noncomputable def Rf:V->V->Bool
 | .non,.non=>kf|.bl a,.bl b=>a==b|.bl a,.int b=>(if a then 1 else 0)==b|.int a,.bl b=>a==(if b then 1 else 0)|.int a,.int b=>a==b|.str a,.str b=>a==b|_,_=>kd
theorem Mo{A:x0}{y:V}(w:JA y u)(h:JA x v)(k:JG y=kf)(fx:JG x=kf):qp A s u v (Rf y x):=by
 cases y with
 |non =>
  cases w;cases x with|non=>cases h;exact qp.same _|bl b=>cases h;exact qp.none_bool b|int b=>let#[t,rfl]:=h;exact qp.none_int b t|str b=>let#[t,rfl]:=h;exact qp.none_str b t|_=>exact i3 (show kd=kf from fx) QG
 |bl a =>
  cases w;cases x with|non=>cases h;exact qp.bool_none a|bl b=>cases h;exact qp.bool_bool a b|int b=>let#[t,rfl]:=h;exact qp.bool_int a b t|str b=>let#[t,rfl]:=h;exact qp.bool_str a b t|_=>exact i3 (show kd=kf from fx) QG
 |int a =>
  let#[z,rfl]:=w;cases x with|non=>cases h;exact qp.int_none a z|bl b=>cases h;exact qp.int_bool a z b|int b=>let#[t,rfl]:=h;exact qp.int_int a z b t|str b=>let#[t,rfl]:=h;exact QBt a z b t|_=>exact i3 (show kd=kf from fx) QG
 |str a =>
  let#[z,rfl]:=w;cases x with|non=>cases h;exact qp.str_none a z|bl b=>cases h;exact qp.str_bool a z b|int b=>let#[t,rfl]:=h;exact QBu a z b t|str b=>let#[t,rfl]:=h;exact qp.str_str a z b t|_=>exact i3 (show kd=kf from fx) QG
 |_=>exact i3 (show kd=kf from k) QG
def eY(x:V)(u:kb):Bool:=match u with
 | .none=>Rf .non x|.bool b=>Rf (.bl b) x|.int i _=>Rf (.int i) x|.str z _=>Rf (.str z) x|_=>kd
theorem Oa{y:V}(r:JA y u)(f:JG y=kf):eY x u=Rf y x:=by
 cases y with|non=>cases r;rfl|bl b=>cases r;rfl|int i=>let#[t,rfl]:=r;rfl|str z=>let#[t,rfl]:=r;rfl|_=>exact i3 (show kd=kf from f) QG
theorem PJ{x:V}:∀{xs:LV}{us:LW},oA xs us->xs.all JG=kf->us.any (eY x)=xs.any λy=>Rf y x
 |_,_,.nil,_=>rfl|y::xs,u::us,.cons r t,f=>by rw[qt,Qb]at f;rw[WA,WA,Oa r f.1,PJ t f.2]
theorem pG{A:x0}{s:kt}{x:V}{v:kb}(z:JA x v)(fx:JG x=kf):∀{xs:LV}{us:LW},oA xs us->xs.all JG=kf->∀u∈us,qp A s u v (eY x u)
 |_,_,.nil,_=>λu h=>by cases h|y::xs,u::us,.cons r t,f=>λw h=>by rw[qt,Qb]at f;rcases QK.mp h with rfl|h;rw[Oa r f.1];exact Mo r z f.1 fx;exact pG z fx t f.2 w h
def inV(x:V)(xs:LV):Bool:=xs.any λy=>Rf y x
def Gy(K:QC)(neg:Bool):R2:=λx y H Q=>∃p h,y=.ref p/\(YC K H p h∨LD K H p h)/\JG x=kf/\h.all JG=kf/\Q (.bl (if neg then !inV x h else inV x h)) H
theorem x4:yF X (vx .In) (Gy X.K kd):=by intro d s l H x y v u Q I g i h;let#[p,m,rfl,k,fx,fs,q]:=h;cases i;rcases k with k|k;let#[z,r,e,j]:=I.list k;refine SeqAt.in_listAt (eY x) e.isList (λw f=>pG g fx r fs w (by simpa using f)) #[.bl _,H,I,rfl,?_];rw[show z.toArray.any (eY x)=z.any (eY x) by simp,PJ r fs];exact q;let#[z,r,e,j]:=I.tuple k;refine SeqAt.in_tupleAt (eY x) e (λw f=>pG g fx r fs w (by simpa using f)) #[.bl _,H,I,rfl,?_];rw[show z.toArray.any (eY x)=z.any (eY x) by simp,PJ r fs];exact q
theorem OR:yF X (vx .NotIn) (Gy X.K kf):=by intro d s l H x y v u Q I g i h;let#[p,m,rfl,k,fx,fs,q]:=h;cases i;rcases k with k|k;let#[z,r,e,j]:=I.list k;refine SeqAt.notIn_listAt (eY x) e.isList (λw f=>pG g fx r fs w (by simpa using f)) #[.bl _,H,I,rfl,?_];rw[show z.toArray.any (eY x)=z.any (eY x) by simp,PJ r fs];exact q;let#[z,r,e,j]:=I.tuple k;refine SeqAt.notIn_tupleAt (eY x) e (λw f=>pG g fx r fs w (by simpa using f)) #[.bl _,H,I,rfl,?_];rw[show z.toArray.any (eY x)=z.any (eY x) by simp,PJ r fs];exact q
theorem MJ:XC X (.builtin "len") (λxs H Q=>∃p z,xs=[.ref p]/\(YC X.K H p z∨LD X.K H p z)/\Q (.int z.9) H):=by intro d s j H xs l Q I r h;let#[p,z,rfl,w,q]:=h;let#[u,rfl,g]:=FH r;cases g;have m:=dI;rcases w with w|w;let#[f,k,e,i]:=I.list w;have y:=k.9;exact Calls.call_len_list e.isList (by simp only[QN]<;>omega) #[.int z.9,H,I.tok _,#[s.toks+1,by rw[QN,y]],q];let#[f,k,e,i]:=I.tuple w;have y:=k.9;exact len_tuple e (by simp only[QN]<;>omega) #[.int z.9,H,I.tok _,#[s.toks+1,by rw[QN,y]],q]
theorem xT:XC X (.builtin "len") (λxs H Q=>∃z,xs=[.str z]/\z.9<=kn/\Q (.int z.9) H):=by intro d s y H xs w Q I r h;let#[z,rfl,k,q]:=h;let#[u,rfl,t,rfl]:=FH r;have e:=dI;exact len_str () #[.int z.9,H,I.tok _,#[_,rfl],q]
theorem XC.or{f:kb}{r k:LV->Hp->VK->Prop}(h:XC X f r)(h':XC X f k):XC X f (λxs H Q=>r xs H Q∨k xs H Q):=by intro d s y H xs z Q I w q;rcases q with q|q;exact h d s y H xs z Q I w q;exact h' d s y H xs z Q I w q
theorem VP:XC X (.type "tuple") (λxs H Q=>∃p z,xs=[.ref p]/\((YC X.K H p z/\∀l,H l=kv->Q (.ref l) (FA H l (.tup z)))∨(LD X.K H p z/\Q (.ref p) H))):=by
 intro d s j H xs B Q I r h;let#[p,z,rfl,h]:=h;let#[u,rfl,Z]:=FH r;cases Z;rcases h with⟨i,q⟩| ⟨i,q⟩
 let#[y,f,g,m]:=I.list i;have n:=f.9;refine call_tuple_list g.isList (λk W=>?_) (by simp only[QN]<;>omega);have Y:Inv X d j H { s with heap:=k }:=I.kept (t':=s.toks) W;have A:Inv X d j (FA H k.1.size (.tup z)) { s with heap:=k.push { cls:=.type "tuple",data:=.seq y.toArray } } :=
  Y.laid (t':=s.toks) (λb o e=>QH _ e) (QY _) (show fB X.prog X.w _ _ _ (.tup z) from#[m,y,f,IsTup.new _ _])
 exact#[.ref k.1.size,_,A,rfl,q _ (Y.hok.fresh (QY _))];let#[y,f,g,m]:=I.tuple i;exact call_tuple_same g #[.ref p,H,I,rfl,q]
def f6(K:QC)(T:String)(x:V)(H:Hp):Prop:=match x with
 | .str _=>T="str"|.int _=>T="int"|.ref p=>(T="list"/\∃y,YC K H p y)∨(T="tuple"/\∃o,K.lookup p=jr o/\o.cls=.type "tuple"/\o.dict=kv) ∨
   (T="dict"/\((∃h,H p=jr (.dK h))∨∃z h,H p=jr (.dT z h)))∨(T="set"/\∃S n,H p=jr (.set S n))
 |_=>False
theorem T6{σ:St}{H:Hp}{T:String}(I:Inv X d σ H s)(r:JA x v)(ty:f6 X.K T x H) :
  s.TypeIs v T/\∀a,v=.ref a->∃ob,s.1.get? a=jr ob/\ob.dict=none:=by
 cases x with
 |str z=>let#[t,rfl]:=r;cases(show T="str" from ty);exact#[QCk s z t,λ_ e=>nomatch e]
 |int i=>let#[t,rfl]:=r;cases(show T="int" from ty);exact#[typeIs_int s i t,λ_ e=>nomatch e]
 |ref p =>
  cases r;rcases ty with⟨rfl,l,j⟩| ⟨rfl,o,hk,hc,w⟩| ⟨rfl,hk⟩| ⟨rfl,S,n,hk⟩
  let#[g,_,f,_]:=I.list j;refine#[f.isList.typeIs,λa e=>?_];cases e;let#[o,n,e,c,w,_]:=f;exact#[o,e,w];refine#[#[o,I.kIn p o hk,hc],λa e=>?_];cases e;exact#[o,I.kIn _ o hk,w];have z:∃o,s.1.get? p=jr o/\o.ExactDict:=by
   rcases hk with⟨y,hk⟩| ⟨m,y,hk⟩
   let#[_,_,_,_,o,_,_,e,h,_]:=I.hok p _ hk;exact#[o,e,h];let#[_,_,_,_,o,_,e,h,_]:=I.hok p _ hk;exact#[o,e,h]
  let#[o,e,h]:=z;refine#[#[o,e,h.1],λa k=>?_];cases k;exact#[o,e,h.2.1];let#[o,_,_,_,e,h,_]:=I.hok p _ hk;refine#[#[o,e,h.1],λa k=>?_];cases k;exact#[o,e,h.2.1]
 |_=>exact Qg ty
noncomputable def ny(K:QC)(T:String)(r:V->LV->Hp->VK->Prop)(m:TE):TE:=λy H Q=>m y H λx h=>f6 K T x h/\r x [] h Q
noncomputable def jBq(K:QC)(T:String)(r:V->LV->Hp->VK->Prop)(m:TE)(t:TA):TE:=λh H Q=>m h H λx y=>f6 K T x y/\t h y λz w=>r x z w Q
end
variable{o e:Expr}{es:List Expr}{m:TE}{t:TA}{name:Str}{apos cpos:Pos}{T g:String}{r:V->LV->Hp->VK->Prop}
theorem Il(p:nt T)(w:Slot T name g)(k:typeOf (.builtin g)=ti (.type "method_descriptor"))(Y:jc X g r)(q:PE X o m)
  (u:DC o name X.env (g6 o X.env)=g6 o X.env:=by rfl) (z:(apos.endLine==cpos.line)=true:=by rfl):PE X (.Call (.Attribute o name apos) [] [] cpos) (ny X.K T r m):=by
 intro y s f H Q I h;refine QAq u z (DB (q y s f H _ I h) λv l #[x,A,j,i,ty,n]=>?_);let#[W,Z]:=T6 j i ty;exact#[T,g,p,w,k,W,Z,Wj rfl (QBj (Y y l f A x [] v [] Q j i .nil n))]
theorem bt(E:nt T)(k:Slot T name g)(j:typeOf (.builtin g)=ti (.type "method_descriptor"))(J:jc X g r)(G:PE X o m)(L:PA X (e::es) t)
  (w:DC o name X.env (g6 o X.env)=g6 o X.env:=by rfl)
  (f:((fv cpos (xk (e::es) X.env)).all (λx=>!x.1)&&(backToKw cpos (keywordEach [] X.env)).all (λx=>x.1.isSome)
   && decide ((e::es).9+([]:List la).9+(if([]:List la).isEmpty then 0 else 1)<30))=true:=by rfl)
  (u:(apos.endLine==cpos.line)=true:=by rfl) (F:xk (e::es) X.env=(kd,g6 e X.env)::xk es X.env:=by rfl) (z:(fv cpos (xk es X.env)).any (·.1)=false:=by rfl) :
  PE X (.Call (.Attribute o name apos) (e::es) [] cpos) (jBq X.K T r m t):=by
 intro y s i H Q I h;refine wpAny_Call_method_late w f u rfl (DB (G y s i H _ I h) λv W #[x,R,p,l,ty,C]=>?_);let#[N,M]:=T6 p l ty;refine#[T,g,E,k,j,N,M,?_];have n:=L cpos y W i R _ p C;rw[F]at n ⊢;refine Wj (by show(kd||(fv cpos (xk es X.env)).any (·.1))=kd;rw[z]<;>rfl) (Calls.evalArgs_plain ?_);exact DB n λY Z #[q,P,O,A,B]=>J y Z i P x q v Y Q O l A B
end
def jAc(X:Cx)(id:String)(r:V->LV->Hp->VK->Prop):Prop :=
 ∀(h:IB) (s:kt) (y:St) (H:Hp) (x:V) (z:LV) (v:kb) (u:LW) (Q:VK),Inv X h y H s->JA x v->oA z u->r x z H Q ->
  ku (k0 X.prog X.w) X.A (Er (.builtin id) (v::u)) (EP X h y Q) X.xe s
theorem oA.one:∀{x:V}{us:LW},oA [x] us->∃u,us=[u]/\JA x u
 |_,_,.cons r .nil=>#[_,rfl,r]
theorem oA.eraseIdx:∀{xs:LV}{us:LW}(i:Nat),oA xs us->oA (xs.eraseIdx i) (us.eraseIdx i)
 |_,_,_,.nil=>.nil|_,_,0,.cons _ t=>t|_,_,i+1,.cons r t=>.cons r (oA.eraseIdx i t)
theorem oA.reverse{xs:LV}{us:LW}(h:oA xs us):oA xs.reverse us.reverse:=by
 induction h with|nil=>exact .nil|cons r t x=>rw[wb,wb];exact oA.append x (.cons r .nil)
theorem rQ{α:Type}:∀(l:List α) (i:Nat),(l.eraseIdx i).9<=l.9
 |[],_=>QY _|_::_,0=>qq _|_::r,i+1=>WI (rQ r i)
section
variable{X:Cx}{y:IB}{σ:St}{H:Hp}{s:kt}{l b:ko}{xs v w:LV}
theorem Inv.lset{its its':LW}{n:Nat}{f:Array kb->Array kb}{t':Nat}(I:Inv X y σ H s)(a:H l=jr (.lst xs))
  (e:s.1.get? l=jr { cls:=.type "list",data:=.seq its.toArray n }) (k:f its.toArray=its'.toArray) (hv:oA v its') (h:v.9<=kn) :
  Inv X y σ (FA H l (.lst v)) { s with heap:=s.1.update l (Q4 f),toks:=t' }:=by
 have q:=PySem.IsL.update e f;rw[k]at q;refine I.write (x:=l) (e:=l) (by rw[a];exact trivial) (.inl rfl) (λg u hb z=>(Wi s.1 (Q4 f) (qC hb)).trans z) #[_,q] ?_;exact#[h,its',_,hv,q]
theorem Inv.lnew{its:LW}{t':Nat}(I:Inv X y σ H s)(hv:oA v its)(h:v.9<=kn) :
  Inv X y σ (FA H s.1.1.size (.lst v)) { s with heap:=s.1.push { cls:=.type "list",data:=.seq its.toArray },toks:=t' } :=
 I.laid (λ_ _ q=>QH _ q) (QY _) #[h,its,0,hv,QS _ rfl]
theorem Inv.fresh(I:Inv X y σ H s):H s.1.1.size=none:=I.hok.fresh (QY _)
theorem Inv.lstM(I:Inv X y σ H s)(h:H l=jr (.lst xs)):xs.9<=kn/\∃(its:LW) (n:Nat),oA xs its/\xs.9=its.9/\s.1.get? l=jr { cls:=.type "list",data:=.seq its.toArray n }:=by let#[z,its,n,r,e]:=I.hok l _ h;exact#[z,its,n,r,r.9,e]
theorem b9{n:Nat}(h:n<=kn):WQ n=false:=by unfold WQ;exact dF ()
end
section
variable{X:Cx}
def FZ:V->LV->Hp->VK->Prop:=λx z H Q=>∃l h y,x=.ref l/\z=[y]/\H l=jr (.lst h)/\h.9<kn/\Q .non (FA H l (.lst (h++[y])))
theorem A4:jAc X "list.append" FZ:=by intro k s i H x m v o Q I b f h;let#[l,j,y,rfl,rfl,a,p,q]:=h;cases b;let#[u,rfl,g]:=f.one;let#[z,w,n,r,hl,e]:=I.lstM a;refine QBT F.slot_list_append #[_,e,rfl] F.entry_list_append (F.args_list_append_2 _ _) (PySem.list_append l w.toArray n u (by rw[QN];omega)) #[e,?_];refine#[.non,_,I.lset (its':=w++[u]) a e (by simp) (r.append (.cons g .nil)) ?_,rfl,q];rw[QJ,Q5];omega
def Yd:V->LV->Hp->VK->Prop:=λx z H Q=>∃l b y h,x=.ref l/\z=[.ref b]/\H l=jr (.lst y)/\H b=jr (.lst h)/\y.9+h.9<=kn/\Q .non (FA H l (.lst (y++h)))
theorem T4:jAc X "list.extend" Yd:=by
 intro f s K H x E v G Q I i j h;let#[l,b,C,A,rfl,rfl,g,Z,J,q]:=h;cases i;let#[u,rfl,m]:=j.one;cases m;let#[z,w,n,r,hl,e]:=I.lstM g;let#[B,y,p,o,Y,W]:=I.lstM Z;have a:w.toArray.size+y.toArray.size<=sizeLine:=by rw[QN,QN];omega
 have k:¬ (!w.toArray.isEmpty&&WQ (w.toArray.size+y.toArray.size))=true:=by rw[b9 a,QBc];exact QG
 refine QBT F.slot_list_extend #[_,e,rfl] F.entry_list_extend (F.args_list_extend_2 _ _)
  (AutoSeq1.list_extend_list_list_0 l w.toArray n b y.toArray p k (by rw[QN];omega) ()) #[e,W,?_]
 refine#[.non,_,I.lset (its':=w++y) g e (by simp) (r.append o) ?_,rfl,q];rw[QJ];omega
def il:V->LV->Hp->VK->Prop:=λx z H Q=>∃l h i k y,x=.ref l/\z=[.int i]/\H l=jr (.lst h)/\-(2 ^ 63)<=i/\i<2 ^ 63/\seqIndex? i h.9=jr k/\h[k]?=jr y/\Q y (FA H l (.lst (h.eraseIdx k)))
theorem Y9:jAc X "list.pop" il:=by
 intro f s A H x B v C Q I m o h;let#[l,j,i,k,y,rfl,rfl,g,K,W,hk,Y,q]:=h;cases m;let#[u,rfl,p]:=o.one;let#[t,rfl]:=p;let#[z,a,n,r,hl,e]:=I.lstM g;let#[w,Z,b]:=r.get Y;refine QBT F.slot_list_pop #[_,e,rfl] F.entry_list_pop (F.args_list_pop_2 _ _)
  (MeetsSeq.list_pop_at l a.toArray n i t k w (fitsIndex_both K W) (by rw[QN,<- hl];exact hk) (by rw[<- Ws];exact Z) (by rw[QN];omega)) #[e,?_]
 refine#[y,_,I.lset (its':=a.eraseIdx k) g e ?_ (r.eraseIdx k) ?_,b,q];show a.toArray.eraseIdxIfInBounds k=(a.eraseIdx k).toArray;rw[List.eraseIdxIfInBounds_toArray];have:=rQ j k;omega
end
end L2
namespace Att
open PySem PySem.W PySem.Calls PyProof.Rows
theorem kM{P:Params}{h:vu}:∀(ns:LJ) (vs:LW),WellAll P h vs (ns.map WData.int)->ac vs ns:=by
 intro ns;induction ns with
 |nil=>intro vs w;rw[wT]at w;cases w;exact .nil|cons n ns x =>
  intro vs w;rw[QU]at w;cases w with|cons a b=>cases a;exact .cons _ _ (x _ b)
theorem script_of{l:OpenLaw}{n:Nat}(j:l.most=jr n){P:Params}{h:vu}{args:List WData}{x:LW}
  (y:l.row.toRowW.claim.pre args=kf) (k:WellAll P h x args) :
  ∃a vs ns,x=[kx a]/\args=[WData.list (ns.map WData.int)]/\h.get? a=jr { cls:=.type "list",data:=.seq vs.toArray }/\ac vs ns/\ns.9<=n:=by
 have b:WShape.hasAll [] args [.list .int]=true:=(pre_splitW y).1;have hc:l.pre.holds [] { args:=args }=true:=(pre_splitW y).2;let#[d,r,rfl,p,o]:=hasAllW_cons b;obtain rfl:=hasAllW_nil o;let#[s,rfl,m]:=hasW_list p;let#[ns,rfl]:=items_int m;have z:ns.9<=n:=by
  unfold OpenLaw.pre at hc;have w:(WTm.not (.lt (.lit (.int (n:Int))) (.len (.arg 0)))).holds [] { args:=[.list (ns.map .int)] }=true:=by have w:=(holds_andW hc).1;rw[j]at w;exact w
  have v:=condW_of w (w_not (w_lt w_lit (w_len_list (w_arg rfl))));rw[QA]at v;refine Nat.le_of_not_lt λq=>?_;have g:(n:Int)<((ns.9:Nat):Int):=()
  first
   | (rw[dT g]at v;exact i3 v (by decide))
   | (simp at v;omega)
 cases k with
 |cons f e =>
  cases e;cases f with|list i u=>exact#[_,_,ns,rfl,rfl,i,kM ns _ u,z]
theorem post_true(l:OpenLaw)(args:List WData):l.row.toRowW.claim.post args (.bool kf) args=kf :=
 postW_of (r:=l.row.toRowW) (X:=(kf==kf))
  (show WShape.has [] (.bool kf) .bool=kf by first|rfl|decide|simp[WShape.has,WShape.arms,WShape.armsAll])
  (show(WTm.eq .res (.lit (.bool kf))).value [] { args:=args,res:=jr (.bool kf),after:=args }=jr (.bool (kf==kf)) from w_eq_bool (w_res rfl) w_lit) rfl
end Att
namespace L2
open PySem PySem.Spec PyProof.Rows
theorem GP:∀{vs:LW}{ns:LJ},ac vs ns->oA (ns.map V.int) vs
 |_,_,.nil=>.nil|_,_,.cons n t h=>.cons #[t,rfl] (GP h)
def xw(H:Hp):Prop:=∀b,H b=kv∨(∃o h,H b=jr (.frz o (.lst h)))∨∃q,H b=jr (.tbl q)
theorem L9{P:k5}{w:xb}{K:QC}{mg mb:Str->Option kb}{CX:uc}{k:Nat}{fa a:ko}{fd:zl}{x:Str}{sp:Sp}{y:kt}{vs:LW}{ns:LJ}{T c:ko}{X:Str}(hT:∀f:vu,K.In f->∀P q,FQ mg f P q->P=T/\q=X)(j:y.1.TableAt c T #[])(hKT:K.lookup T=kv)
  (KX:K.In y.1) (Q:y.1.Ns k4 mg) (hb:y.1.Ns ef mb) (hbb:∀x:Str,x≠"__name__"->mb x=g7 x) (R:y.1.NoLimit) (hg:y.gens=#[])
  (J:y.1.get? a=jr { cls:=.type "list",data:=.seq vs.toArray }) (hi:ac vs ns) (hl:ns.9<=kn) (hr:Room k nj)
  (F:∀f:vu,K.In f->f.Ns k4 mg->FnOk P w K mg f CX k fa fd [x] sp) (B:∀(s:kt) (u:kb),mA s fd #[[u],[]] [(x,u)])
  (hsp:∀H:Hp,xw H->YC K H a (ns.map V.int)->sp [.ref a] H (λv _=>v=.bl kf) λ_ _ _=>False)
  (hCX:∀H e s',CX [] H y (λ_ _ _=>False) e s'->False) :
  mi (k0 P w) nj (.call (.ref fa) #[[.ref a],[]]) (λr s'=>r=.ok (.ret (.bool kf))/\OldK y.1 s'.1/\s'.os=y.os/\ax s'.gens) y:=by
 have rv:=GP hi;have O:=hi.9;have W:∀H:Hp,xw H->YC K H a (ns.map V.int)->yP P w H y.1->(∀b,H b≠kv->b=a∨b=T)->(H a≠kv->K.lookup a=kv)->H T=jr (.tbl X) ->
   mi (k0 P w) nj (.call (.ref fa) #[[.ref a],[]]) (λr s'=>r=.ok (.ret (.bool kf))/\OldK y.1 s'.1/\s'.os=y.os/\ax s'.gens) y:=by
  intro H hO hS A hA hK hP;have l:∀{b:ko}{o:Obj},y.1.get? b=jr o->H b=kv->(US y.1 H).get? b=jr o:=λe n=>Ja e n;have noA:∀{b:ko}{o:Obj}{L:Array eH}{M:Nat},y.1.get? b=jr o->o.data=.dict L M->H b=none:=λ{b o L M} e d=>by
   cases q:H b with|none=>rfl|some u=>rcases hA b (by rw[q];simp) with e'|e';subst e';rw[J]at e;cases e;have d':Data.seq vs.toArray _=Data.dict L M:=d;cases d';subst e';rw[j.2]at e;cases e;have d':Data.fields #[]=Data.dict L M:=d;cases d'
  have Y:∀{b:ko}{m:Str->Option kb},y.1.Ns b m->(US y.1 H).Ns b m:=λ{b m} #[o,L,M,e,d,r]=>#[o,L,M,l e (noA e d),d,r]
  have G:K.In (US y.1 H):=λb o e=>l (KX b o e) (by
   cases q:H b with|none=>rfl|some u=>rcases hA b (by rw[q];simp) with e'|e';subst e';rw[hK (by rw[q];simp)]at e;cases e;subst e';rw[hKT]at e;cases e)
  have hM:Mod K mg (US y.1 H):=#[G,Y Q,#[mb,Y hb,hbb],let#[mc,h1,h2]:=R;#[mc,Y h1,h2]]
  have e0:Env0 P w K mg (US y.1 H) nj [] y H:=#[rfl,hM,λb o e=>Se e,wx (Y5 _ _),trivial,λb hb=>i3 (show b∈([]:List ko) from hb) (by simp),λP q t=>(by let#[rfl,rfl]:=hT _ G P q t;exact hP),A,.of_eq hg]
  refine QCI ((F _ G (Y Q)).run nj [] y H #[[.ref a],[]] [.ref a] [.ref a] _ _ hr e0 (B y (.ref a)) (.cons rfl .nil) (hsp H hO hS)) λr s' h=>?_;cases r with
  |error e=>exact(hCX H e s' h).elim|ok fl =>
   cases fl with
   |next=>exact Qg h|brk=>exact Qg h|cont=>exact Qg h|ret u =>
    let#[v,H',os,bare,un,Z,r',q]:=h;have q':v=.bl true:=q;subst q';obtain rfl:u=Value.bool true:=r';have nx:∀b,b∉C1 []:=λb z=>i3 (show b∈([]:List ko) from z) (by simp);refine#[rfl,#[λb o e=>?_,λb o e=>un.there b o e (by simp)],os,bare];rcases hO b with z|⟨ob,xs,z⟩| ⟨tq',z⟩
    exact .inl (un.keep b o e z (nx b) (by simp));let#[S,_]:=A b _ z;let#[e2,_]:=Z b _ (un.frzs b ob _ z);rw[e]at S;cases S;exact .inl e2;have hb:b=T:=by rcases hA b (by rw[z];simp) with rfl|h;let#[ps,S,_]:=A b _ z;rw[J]at S;cases S;exact h
    subst hb;let#[ps,e2,_]:=Z b _ (un.tbls b _ z);have e0:=e.symm.trans j.2;cases e0;exact .inr (.inl #[j.isCodeTable,rfl,#[],ps,rfl,by simpa using e2])
 have aT:a≠T:=λz=>by have e:=j.2;rw[<- z,J]at e;cases e
 have N:∀H:Hp,fB P w H y.1 T (.tbl X):=λH=>#[#[],j.2,trivial,λpos cv g=>by cases g]
 cases hk:K.lookup a with
 |some o =>
  have e:=KX a o hk;rw[J]at e;cases e;refine W (λb=>if b=T then jr (.tbl X) else kv) (λb=>?_) (.inr #[_,vs.toArray,_,hk,rfl,rfl,rfl,by rw[QN,O];exact hl,by simpa using rv]) (λb u z=>?_) (λb z=>?_) (λz=>i3 (ii aT) z) (i0 rfl);by_cases hb:b=T
  ·exact .inr (.inr #[_,i0 hb])
  exact .inl (ii hb);by_cases hb:b=T
  ·have p:=(i0 hb).symm.trans z
   cases p;subst hb;exact N _
  have p:=(ii hb).symm.trans z;cases p;by_cases hb:b=T
  ·exact .inr hb
  exact i3 (ii hb) z
 |none =>
  have C:∀b,b=T->(if b=T then jr (.tbl X) else if b=a then jr (.frz { cls:=.type "list",data:=.seq vs.toArray } (.lst (ns.map V.int))) else none:Option HO)=jr (.tbl X):=λb h=>i0 h;have I:∀b,b=a->(if b=T then jr (.tbl X) else if b=a then jr (.frz { cls:=.type "list",data:=.seq vs.toArray } (.lst (ns.map V.int))) else none:Option HO)=jr (.frz { cls:=.type "list",data:=.seq vs.toArray } (.lst (ns.map V.int))):=λb h=>(ii (h▸aT)).trans (i0 h);have E:∀b,b≠T->b≠a->(if b=T then jr (.tbl X) else if b=a then jr (.frz { cls:=.type "list",data:=.seq vs.toArray } (.lst (ns.map V.int))) else none:Option HO)=none:=λb h h2=>(ii h).trans (ii h2);refine W (λb=>if b=T then jr (.tbl X) else if b=a then jr (.frz { cls:=.type "list",data:=.seq vs.toArray } (.lst (ns.map V.int))) else kv) (λb=>?_) (.inl (.inr #[{ cls:=.type "list",data:=.seq vs.toArray },I a rfl])) (λb u z=>?_) (λb z=>?_) (λ_=>hk) (C T rfl);by_cases hb:b=T
  ·exact .inr (.inr #[_,C b hb])
  by_cases i:b=a
  ·exact .inr (.inl #[_,_,I b i])
  exact .inl (E b hb i);by_cases hb:b=T
  ·have p:=(C b hb).symm.trans z
   cases p;subst hb;exact N _
  by_cases i:b=a
  ·have p:=(I b i).symm.trans z
   cases p;subst i;exact#[J,by rw[QA];exact hl,vs,_,rv,J]
  have p:=(E b hb i).symm.trans z;cases p;by_cases hb:b=T
  ·exact .inr hb
  by_cases i:b=a
  ·exact .inl i
  exact i3 (E b hb i) z
noncomputable def dD(s:gV):Arguments:=match s with
 | .FunctionDef _ a _ _ _ _ _ _ _ _=>a|_=>{ posonlyargs:=[],args:=[],vararg:=kv,kwonlyargs:=[],kw_defaults:=[],kwarg:=kv,defaults:=[] }
noncomputable def iC(s:gV):List Stmt:=match s with
 | .FunctionDef _ _ b _ _ _ _ _ _ _=>b|_=>[]
noncomputable def EA(s:gV):Scope:=match s with
 | .FunctionDef _ _ _ _ _ _ sc _ _ _=>sc|_=>{ kind:=.function,names:=[],isGenerator:=kd,isCoroutine:=kd }
noncomputable abbrev Z6:uc:=λ_ _ _ _ _ _=>False
noncomputable abbrev E0:XK:=λ_ _ _=>False
theorem ft{X:Cx}:BO Z6 X E0:=λ_ _ _ _ _ _ _ h=>h.elim
structure Fun(K:QC)(x qual:Str)(st:gV)(f:ko)(fd:zl):Prop where
 ex:∃(oc:kb) (od:Option ko) (kV doc pm:kb) (an:Option ko) (cdv ct:kb) (osl:Array (Option kb)),
  fd=qy x qual (dD st) (iC st) (EA st) .none kV doc pm an cdv ct/\K.lookup f=jr #[oc,od,.func fd,osl]/\Wp K cdv qual=kf
 kp:wW K (.ref f)=kf
section
variable{P:k5}{w:xb}{K:QC}{mg:Str->Option kb}{base:vu}
section
variable{x y:Str}{st:gV}{f:ko}{u:zl}{z:LS}
theorem Fun.ok{N:LS}{k:Nat}{b:Sp}(F:Fun K x y st f u)(S:FnScope N z (EA st))(len:∀vs H Q E,b vs H Q E->vs.9=z.9)
  (a:∀(v:kb) (A:x0) (outer:List Env) (s:kt) (H:Hp) (vs:LV) (Q:VK) (E:XK),Room k (A.deeper (ak y (EA st) s.1.1.size f v))->b vs H Q E ->
   ∃t,bZ (YY Z6 P w K mg base N y (EA st) f v A outer s H E).nox (iC st) t/\t { nx:=λ_ m=>Q .non m,rt:=Q } (sD N vs) H):FnOk P w K mg base Z6 (k+1) f u z b:=by
 let#[p,o,kV,l,n,X,v,r,i,rfl,lk,g]:=F.ex;refine Ah lk g S len λA outer s H vs Q E j e=>?_;let#[t,h,q]:=a v A outer s H vs Q E j e;exact#[t,h.nox,q]
theorem Fun.binds(F:Fun K x y st f u)
  (h:∀(kV v a:kb) (b:Option ko) (k ct:kb) (us:LW),us.9=z.9->lp (qy x y (dD st) (iC st) (EA st) .none kV v a b k ct) #[us,[]]=ti (z.zip us)):xK K u z []:=by
 let#[j,i,kV,v,a,b,k,ct,e,rfl,lk,g]:=F.ex;exact .all (h kV v a b k ct)
theorem Co{i:kb}{g e:Option ko}{a:Array (Option kb)}{kV v b h ct:kb}(l:K.lookup f=jr #[i,g,.func (qy x y (dD st) (iC st) (EA st) .none kV v b e h ct),a])
  (c:Wp K h y=kf) (k:wW K (.ref f)=kf):Fun K x y st f (qy x y (dD st) (iC st) (EA st) .none kV v b e h ct):=#[#[i,g,kV,v,b,e,h,ct,a,rfl,l,c],k]
end
end
def Same(H h:Hp):Prop:=∀b o,H b=jr o->h b=jr o
theorem Same.refl(H:Hp):Same H H:=λ_ _ h=>h
theorem Same.trans{H y x:Hp}(a:Same H y)(b:Same y x):Same H x:=λc o h=>b c o (a c o h)
theorem Same.free{H x:Hp}(e:Same H x){l:ko}(h:x l=Option.none):H l=Option.none:=by
 cases q:H l with|none=>rfl|some o=>rw[e l o q]at h;cases h
theorem Same.seq{K:QC}{H x:Hp}{a:ko}{xs:LV}(e:Same H x)(h:YC K H a xs):YC K x a xs:=by rcases h with(h|⟨o,h⟩)|h;exact .inl (.inl (e _ _ h));exact .inl (.inr #[o,e _ _ h]);exact .inr h
noncomputable def tP(env:Env):List (Str×fb)->List (Str×ko)->List (Str×ko)
 |[],cs=>cs|(n,k)::r,cs=>tP env r (if k==.free then(n,(env.cells.lookup n).getD 0)::cs else cs)
theorem XY{u:hE}{env:Env}(h:∀y∈u.names,y.2=.free->∃c,env.cells.lookup y.1=jr c):mx u env=ti (tP env u.names []):=by
 have key:∀(l:List (Str×fb)) (v:List (Str×ko)),(∀y∈l,y.2=.free->∃c,env.cells.lookup y.1=jr c) ->
   (forIn l v λ(x:Str×fb) (r:List (Str×ko))=>(if(x.2==NameKind.free)=kf then(do let c <- cellOf env x.1;ti (ForInStep.yield ((x.1,c)::r))) else ti (ForInStep.yield r):Sem (ForInStep (List (Str×ko)))))=ti (tP env l v):=by
  intro l;induction l with
  |nil=>intro v _;rfl|cons y l a =>
   intro v hl;let#[n,k]:=y;rw[QAC];by_cases hk:k=.free;subst hk;let#[c,hc]:=hl (n,.free) QE rfl;have hc:env.cells.lookup n=jr c:=hc;simp only[beq_self_eq_true,if_true,cellOf,hc,pure_bind,tP,QCT];exact a _ λz w=>hl z (QF _ w);have hb:(k==NameKind.free)=false:=by simpa using hk
   simp only[hb,Qu,if_false,pure_bind,tP];exact a _ λz w=>hl z (QF _ w)
 have e:=key u.names [] h;unfold mx;exact(o9 (· >>= ti) e).trans (pure_bind _ _)
theorem YQ{env:Env}{x:Str}{c:ko}:∀(l:List (Str×fb)) (cs:List (Str×ko)),(∀y∈l,y.2=.free->∃c,env.cells.lookup y.1=jr c)->(∀c,cs.lookup x=jr c->env.cells.lookup x=jr c) ->
  (tP env l cs).lookup x=jr c->env.cells.lookup x=jr c
 |[],cs,_,hc,h=>hc c h|(n,k)::r,cs,hl,hc,h=>by
  refine YQ r _ (λz a=>hl z (QF _ a)) (λd u=>?_) h;by_cases hk:k=.free;subst hk;let#[e,v]:=hl (n,.free) QE rfl;have v:env.cells.lookup n=jr e:=v;simp only[beq_self_eq_true,if_true,v,QCT,wu]at u;cases w:x==n with|true=>rw[w]at u;cases u;rw[qk w];exact v|false=>rw[w]at u;exact hc d u
  have hb:(k==NameKind.free)=false:=by simpa using hk
  simp only[hb,Qu,if_false]at u;exact hc d u
theorem cO{env:Env}{x:Str}:∀(l:List (Str×fb)) (cs:List (Str×ko)),((∃c,cs.lookup x=jr c)∨(x,NameKind.free)∈l)->∃c,(tP env l cs).lookup x=jr c
 |[],cs,h=>by rcases h with h|h;exact h;cases h
 | (n,k)::r,cs,h=>by
  refine cO r _ ?_;rcases h with⟨c,h⟩| h;refine .inl ?_;split;rw[wu];split;exact#[_,rfl];exact#[c,h];exact#[c,h];rcases QK.mp h with h|h
  ·cases h
   refine .inl ?_;simp
  exact .inr h
noncomputable def UB:List Bool->Nat->LS->LS
 |b::m,j,x::N=>(if b then#[(qG [46,j])] else x)::UB m (j+1) N|_,_,N=>N
noncomputable def PC:List Bool->St->St
 |b::m,v::σ=>(if b then kv else v)::PC m σ|_,σ=>σ
theorem JK:∀(m:List Bool) (σ:St),(PC m σ).9=σ.9
 |[],σ=>by unfold PC;rfl|_::_,[]=>by unfold PC;rfl|b::m,v::σ=>by unfold PC;rw[QM,QM,JK m σ]
theorem eQ:∀(m:List Bool) (j:Nat) (N:LS),(UB m j N).9=N.9
 |[],_,N=>by unfold UB;rfl|_::_,_,[]=>by unfold UB;rfl|b::m,j,x::N=>by unfold UB;rw[QM,QM,eQ m (j+1) N]
theorem HN:∀(m:List Bool) (j:Nat) (N:LS) (σ:St) (i:Nat) (v:V),(PC m σ)[i]?=jr (jr v)->σ[i]?=jr (jr v)/\(UB m j N)[i]?=N[i]?
 |[],_,N,σ,i,v,h=>by unfold PC at h;unfold UB;exact#[h,rfl]|_::_,_,N,[],i,v,h=>by unfold PC at h;simp at h|b::m,j,[],w::σ,i,v,h=>by
  unfold PC at h;cases i with
  |zero =>
   cases b with|true=>simp at h|false=>simp at h;subst h;exact#[by simp,by unfold UB;rfl]
  |succ i=>have q:=(HN m (j+1) [] σ i v (by simpa using h)).1;exact#[by simpa using q,by unfold UB;rfl]
 |b::m,j,x::N,w::σ,0,v,h=>by
  unfold PC at h;cases b with|true=>simp at h|false=>simp at h;subst h;exact#[by simp,by unfold UB;simp]
 |b::m,j,x::N,w::σ,i+1,v,h=>by unfold PC at h;have q:=HN m (j+1) N σ i v (by simpa using h);unfold UB;exact#[by simpa using q.1,by simpa using q.2]
noncomputable def zN(h sc:hE):hE :=
  { h with names:=h.names.map λ(n,k)=>if(k==.free&&sc.kind==.function&&sc.names.lookup n==jr .cell) then(n,.cell) else(n,k) }
theorem MC(sc:hE)(x:Str):∀(l:List (Str×fb)),
  (l.map λ(n,k)=>if(k==NameKind.free&&sc.kind==.function&&sc.names.lookup n==jr .cell) then(n,NameKind.cell) else(n,k)).lookup x =
   (l.lookup x).map λk=>if(k==NameKind.free&&sc.kind==.function&&sc.names.lookup x==jr .cell) then NameKind.cell else k
 |[]=>rfl|(n,k)::r=>by
  rw[QU];have e:(if(k==NameKind.free&&sc.kind==.function&&sc.names.lookup n==jr .cell)=kf then(n,NameKind.cell) else(n,k)) =
    (n,if(k==NameKind.free&&sc.kind==.function&&sc.names.lookup n==jr .cell)=kf then NameKind.cell else k):=by split<;>rfl
  show QCZ x ((if(k==NameKind.free&&sc.kind==.function&&sc.names.lookup n==jr .cell)=kf then(n,NameKind.cell) else(n,k))::_)=_;rw[e,wu,wu];cases h:x==n with|true=>rw[qk h];simp|false=>exact MC sc x r
structure CompSt(N:LS)(sc scope:hE)(tgs:LS)(mask:List Bool):Prop where
 kind:scope.kind=.function
 nocell:∀y∈scope.names,y.2≠.cell
 names:∀y∈scope.names,y.2=.local->scope.names.lookup y.1=jr .local
 free:∀y∈scope.names,y.2=.free->sc.names.lookup y.1=jr .cell∨sc.names.lookup y.1=jr .free
 loc:∀y∈scope.names,y.2=.local->y.1∈tgs∨y.1=(".0":Str)
 nd:(tgs++UB mask 0 N).Nodup
 no0:(".0":Str)∉tgs++UB mask 0 N
def IA(X:Cx)(h:hE)(y:LS)(x:List Bool)(s:kt)(H:Hp)(ex:List ko):Cx :=
  { X with N:=y++UB x 0 X.N,s₀:=s,H₀:=H,env:=compEnvC h (tP X.env h.names []) s.1.1.size X.env,outer:=X.stack,stack:=X.stack,ex:=ex,fn:=λ_=>kd,pn:=[],xe:=λ_ _=>False }
def DJ(k:Nat)(h:List Bool)(σ:St):St:=QAW k kv++PC h σ
section
variable{X:Cx}{f:IB}{σ:St}{H:Hp}{s:kt}{w:hE}{d:LS}{a:List Bool}{ex:List ko}
theorem CompSt.cells(C:CompSt X.N X.env.scope w d a)(ok:X.Ok):∀y∈w.names,y.2=.free->∃c,X.env.cells.lookup y.1=jr c:=λy h x =>
 ok.has y.1 (C.free y h x)
theorem CompSt.kindCF(C:CompSt X.N X.env.scope w d a){x:Str}(h:(li w X.env).names.lookup x=jr .cell∨(li w X.env).names.lookup x=jr .free):(x,NameKind.free)∈w.names:=by
 have e:=MC X.env.scope x w.names;have u:(li w X.env).names.lookup x=(w.names.lookup x).map λk=>if(k==NameKind.free&&X.env.scope.kind==.function&&X.env.scope.names.lookup x==jr .cell) then NameKind.cell else k:=e
 rw[u]at h;cases q:w.names.lookup x with
 |none=>rw[q]at h;simp at h|some k =>
  have y:=qQ q;have z:=C.nocell _ y;cases k with|free=>exact y|cell=>exact i3 rfl z|«local»=>rw[q]at h;simp at h|_=>rw[q]at h;simp at h
theorem ZY(I:Inv X f σ H s)(C:CompSt X.N X.env.scope w d a)(n:∀b∈ex,vK X f H b/\b<s.1.1.size){h':vu}{t':Nat}
  (hn:h'.Ns s.1.1.size (λ_=>kv)) (hs:qa s.1.1.size (s.1.push { cls:=.type "dict",data:=.dict #[] }) h') :
  Inv (IA X w d a s H ex) [] (DJ d.9 a σ) H { s with heap:=h',toks:=t' }:=by
 have kept:∀b u,s.1.get? b=jr u->h'.get? b=jr u:=λb u e=>hs.extBut b u (Qi (QV e)) (QH _ e);have look:∀x c,(tP X.env w.names []).lookup x=jr c->X.env.cells.lookup x=jr c:=λx c e=>YQ w.names [] (C.cells I.ok) (λc z=>by simp at z) e;have nofs:∀b∈ex,b∉C1 X.stack:=λb hb z=>by let#[#[_,f1,f2,_],_]:=n b hb;rcases QK.mp (I.stkSub b z) with e|e;exact f1 e;exact f2 e
 refine#[#[I.ok.mod,C.kind,I.ok.glob,I.ok.blt,QY _,λx y c E j=>I.ok.inj x y c (look x c E) (look y c j),λx hx=>?_,λx c hf _=>i3 (show kd=kf from hf) QG,I.ok.hd,I.ok.frames,.inl rfl,λb hb=>?_,I.bs,QW I.ok.bsz I.sz,λb o e hb=>?_,nofs,I.stack,I.stkFree,I.tb],
  rfl,I.bare,Un.kept kept,#[_,hn,λi x v E j h3=>?_],λx c h=>?_,I.hok.fresh (QY _),λx c h=>I.freeC x c (look x c h),λp hp=>i3 (show p∈([]:IB) from hp) (by simp),I.hok.kept kept,?_]
 exact cO w.names [] (.inr (C.kindCF hx));let#[#[_,_,_,_,f4,_],lt]:=n b hb;exact#[Qi lt,λx c e=>f4 x c (look x c e)];let#[#[_,_,_,f3,_],_]:=n b hb;rcases f3 with z|z;exact I.ok.noex b o e z;exact i3 (Qr (QV (I.ok.bs b o e).1) z) (qS _)
 ·
  have S:d.9<=i:=by rcases QBH i d.9 with z|z;unfold DJ at j;rw[qL (by simpa using z),wk]at j;split at j<;>cases j;exact z
  have Z:(UB a 0 X.N)[i - d.9]?=jr x:=by have:(d++UB a 0 X.N)[i]?=jr x:=E;rw[Qy S]at this;exact this
  have O:(PC a σ)[i - d.9]?=jr (jr v):=by unfold DJ at j;rw[Qy (by simpa using S)]at j;simpa using j
  let#[g1,g2]:=HN a 0 X.N σ _ v O;rw[g2]at Z;have A:x∈d++UB a 0 X.N:=qN (show(d++UB a 0 X.N)[i]?=jr x from E);have K:x∉d:=λz=>by have nd:=C.nd;rw[qT]at nd;exact nd.2.2 x z x (qN (by rw[g2];exact Z)) rfl
  have g:(x,NameKind.free)∈w.names:=by
   rcases h3 with z|z|z;exfalso;have e:(li w X.env).names.lookup x=jr .local:=z;have P:=MC X.env.scope x w.names;have e3:(li w X.env).names.lookup x=(w.names.lookup x).map λk=>if(k==NameKind.free&&X.env.scope.kind==.function&&X.env.scope.names.lookup x==jr .cell) then NameKind.cell else k:=P
   rw[e3]at e;cases q:w.names.lookup x with
   |none=>rw[q]at e;cases e|some k =>
    rw[q]at e;have L:=qQ q;have G:k=.local:=by
     cases k with|«local»=>rfl|free=>simp at e;split at e<;>cases e|_=>simp at e
    subst G;rcases C.loc _ L rfl with z|z;exact K z;exact C.no0 (z▸A)
   exact C.kindCF (.inl z);exact C.kindCF (.inr z)
  let#[m,hnm,hl]:=I.loc;have F:Rv X.env.scope x:=.inr (C.free _ g rfl);let#[u,r,l]:=hl _ x v Z g1 F;refine#[u,r,?_];rcases l with⟨k,_⟩| ⟨_,c,hc,Y⟩
  exfalso;have R:X.env.scope.names.lookup x=jr .local:=k;rcases C.free _ g rfl with z|z;have W:X.env.scope.names.lookup x=jr .cell:=z;rw[R]at W;cases W;have W:X.env.scope.names.lookup x=jr .free:=z;rw[R]at W;cases W;let#[Q,B]:=cO (env:=X.env) w.names [] (.inr g);have:Q=c:=by have:=look x Q B;rw[hc]at this;exact(Qm this).symm
  subst this;refine .inr #[?_,Q,B,?_];rcases h3 with z|z|z
  ·exfalso
   have e:(li w X.env).names.lookup x=jr .local:=z;have P:=MC X.env.scope x w.names;have e3:(li w X.env).names.lookup x=(w.names.lookup x).map λk=>if(k==NameKind.free&&X.env.scope.kind==.function&&X.env.scope.names.lookup x==jr .cell) then NameKind.cell else k:=P
   rw[e3]at e;cases q:w.names.lookup x with
   |none=>rw[q]at e;cases e|some k =>
    rw[q]at e;have L:=qQ q;have G:k=.local:=by
     cases k with|«local»=>rfl|free=>simp at e;split at e<;>cases e|_=>simp at e
    subst G;rcases C.loc _ L rfl with z|z;exact K z;exact C.no0 (z▸A)
  exact .inl z;exact .inr z;let#[o,J,M]:=Y;exact#[o,kept _ _ J,M]
 let#[v,o,J,M]:=I.cell x c (look x c h);exact#[v,o,kept _ _ J,M];show(DJ d.9 a σ).9=(d++UB a 0 X.N).9;unfold DJ;rw[QJ,QJ,qz,JK,eQ,I.len]
end
section
variable{X:Cx}{h:IB}{σ a:St}{H k:Hp}{s s':kt}{x:hE}{d:LS}{w:List Bool}{ex:List ko}{D:ko}{y:LV}{its:LW}
theorem KY(I:Inv X h σ H s)(l:∀b∈ex,vK X h H b/\b<s.1.1.size)(W:D∈ex)(J:Inv (IA X x d w s H ex) [] a k s')(f:k D=kv)(hv:oA y its)(B:y.9<=kn)
  (hl:s'.1.PlainList D its.toArray) {g:vu}(C:qa s.1.1.size s'.1 g):Inv X h σ (FA k D (.lst y)) { s' with heap:=g }:=by
 have un:Un (C1 X.stack) ex H k s.1 s'.heap:=J.base;have j:∀b o,s.1.get? b=jr o->b≠s.1.1.size:=λb o e=>Qi (QV e);have E:=l D W;have Z:k s.1.1.size=none:=J.free;have N:D≠s.1.1.size:=Qi E.2;have m:∀b u,b≠s.1.1.size->s'.1.get? b=jr u->g.get? b=jr u:=λb u A e=>C.extBut b u A e;refine I.call' (s':={ s' with heap:=g }) (ch:=ex) J.os #[λb o e n hb i=>?_,λb o e n hb i=>?_,λb o e n i=>?_,λb o e i=>?_,λb p e=>?_,λb o u e=>?_,λb r e=>?_] ?_ J.bare λb hb=>?_;exact m b o (j b o e) (un.keep b o e n hb i);let#[K,q]:=un.slot b o e n hb i;exact#[K,m b _ (j b o e) q];have q:=un.free b o e n i;rw[uA (λ(z:b=D)=>i (by rw[z];exact W))];exact q;let#[Y,q]:=un.there b o e i;exact#[Y,m b Y (j b o e) q];rw[uA (YA (un.tups b p e) f)];exact un.tups b p e;rw[uA (YA (un.frzs b o u e) f)];exact un.frzs b o u e;rw[uA (YA (un.tbls b r e) f)];exact un.tbls b r e;intro b u e;by_cases hb:b=D;subst hb;rw[ZA]at e;cases e;let#[n,q]:=hl;exact#[B,its,n,hv,m _ _ N q];rw[uA hb]at e;refine(J.hok b u e).stay (λc v hc q=>m c v ?_ q) (λc q=>?_) λc p q=>?_;rintro rfl;rcases hc with z|z;subst z;rw[Z]at e;cases e;rw[Z]at z;cases z;rw[uA (YA q f)];exact q;rw[uA (YA q f)];exact q;let#[#[P,M,O,L,G,F],_]:=l b hb;exact#[L,M,G,F]
end
section
variable{X:Cx}{s:kt}{V Z K:Expr}{U:List Expr}{d:hE}{pos:Pos}{B:TI}{g:TG}{tc:TT}{te:TE}{Y:LS}{j:List Bool}{l:IB}
def kw(X:Cx)(U:List Expr)(t:TT):Prop:=∀(l:IB) (s:kt) (h:St) (H:Hp) (Q:Bool->Hp->Prop),Inv X l h H s->t h H Q ->
 ku (k0 X.prog X.w) X.A (forIn U kf λc r=>if r=kf then do let ok <- isTrue c X.env (g6 c X.env);ti (ForInStep.yield ok) else ti (ForInStep.yield r)) (TP X l h Q) X.xe s
theorem PZ:kw X [] (λ_ H Q=>Q kf H):=λl s x H Q I h=>by rw[QBd];exact QL #[H,I,h]
theorem OZ{c:Expr}{t:TT}(hc:PT X c t):kw X [c] t:=λl s x H Q I h=>by rw[QAC];simp only[if_true];refine QD (QD (DB (hc l s x H Q I h) λb y q=>QL ?_));dsimp only;rw[QBd];exact QL q
theorem CH{prog:k5}{w:xb}{A:x0}{R:Result->kt->Prop}{y:Expr}{it q:kb}{env:Env}(I:Nat->kt->Prop)
  (W:∀n s,I n s->ku (k0 prog w) A (ln it) (λr k=>match r with
   |none=>R (.ok .next) k|some v=>ku (k0 prog w) A (bb y it v) (λ_ u=>ku (k0 prog w) A (ll y env v) (λ_ f =>
     ku (k0 prog w) A (forIn U kf λc r=>if r=kf then do let ok <- isTrue c env (g6 c env);ti (ForInStep.yield ok) else ti (ForInStep.yield r)) (λok z =>
      if ok=kf then ku (k0 prog w) A (g6 V env) (λx e =>
       ku (k0 prog w) A (Er (.builtin "list.append") [q,x]) (λ_ b=>∃m,m<n/\I m b) (λ_ _=>False) e) (λ_ _=>False) z
      else ∃m,m<n/\I m z) (λ_ _=>False) f) (λ_ _=>False) u) (λ_ _=>False) k) (λ_ _=>False) s)
  (n:Nat) (h:I n s) :
  mi (k0 prog w) A (.compLoop (.ListComp V [#[y,Z,U,0]] d pos) 0 it q env) R s:=by
 refine codeAny_loop rfl I (λn s G=>?_) n h;show ku _ A ((compTurn (.ListComp V [#[y,Z,U,0]] d pos) 0 it q env).onRaise (λx=>do noteFrame x env;theTreesLotGoes x)) _ _ s;refine wpAny_noted ?_;rw[compTurn_list];refine QD (QBw (QD (qm (W n s G) (λr k o=>?_) λ_ _ a=>a.elim)));cases r with
 |none=>exact QL o|some v =>
  refine QD (qm o (λ_ u p=>?_) λ_ _ a=>a.elim);refine QD (qm p (λ_ f F=>QD (qm F (λok z i=>?_) λ_ _ a=>a.elim)) λ_ _ a=>a.elim);cases ok with|false=>exact QL #[rfl,i]|true=>exact QD (QD (qm i (λx e E=>QD (qm E (λ_ b C=>QL (QL #[rfl,C])) λ_ _ a=>a.elim)) λ_ _ a=>a.elim))
def u7(B:TI)(g:TG)(tc:TT)(te:TE)(k:Nat)(j:List Bool):TE:=λa H Q=>B a H λJ q=>∃W:Nat->Nat->LV->St->Hp->Prop,(∃m,W 0 m [] (DJ k j a) q) /\
 ∀i m h v u,W i m h v u->(J.stop i u/\h.9<=kn/\∀p,u p=kv->Q (.ref p) (FA u p (.lst h))) ∨
  (J.go i u/\∀x f,J.yld i u x f->g x v f λz o=>tc z o λb e=>if b=kf then te z e λy n=>h.9<kn/\∃w,w < m/\W (i+1) w (h++[y]) z n else ∃w,w < m/\W (i+1) w h z e)
def Zw(X:Cx)(l:IB)(H:Hp)(s:kt)(C:ko):Prop :=
 H C=kv/\C≠X.env.locals/\X.s₀.1.1.size<=C/\(∀x c,X.env.cells.lookup x=jr c->c≠C)/\(∀p∈X.pn++l,p.1≠C)/\∃m,s.1.Ns C m
theorem GV{pos':Pos}{use:Option (kb->Sem Unit)}(hc:X.calm=kf)(hi:PI X K Z B)(C:CompSt X.N X.env.scope d Y j)
  (inner:∀s H ex,PG (IA X d Y j s H ex) K g/\kw (IA X d Y j s H ex) U tc/\PE (IA X d Y j s H ex) V te)
  (hs:∀x,hQ Z X.env x=ti x) {σ:St}{H:Hp}{Q:VK}{QQ:dC}(I:Inv X l σ H s) (h:u7 B g tc te Y.9 j σ H Q)
  (fin:∀(D:ko) (f:Hp) (s6:kt) (F:ko),Inv X l σ f s6->Zw X l f s6 F->Q (.ref D) f->compPost (k0 X.prog X.w) X.A X.xe use QQ (.ref D) F (.ok .next) s6) :
  ku (k0 X.prog X.w) X.A (p6 (.ListComp V [#[K,Z,U,0]] d pos) d X.env pos' (newList []) kd (g6 Z X.env) use) QQ X.xe s:=by
 refine wpAny_comprehension_free (use:=use) rfl hs (XY (C.cells I.ok)) C.kind C.names (DB (hi l s σ H _ I h) λv s1 h1=>DB h1 λitv s2 h2=>?_);let#[it,a,tn,J,E,e,I2,T,st2,f2,W,#[m0,w0],turn]:=h2;subst e;refine qM ?_;have I3:Inv X l σ E { s2 with heap:=s2.1.push { cls:=.type "list",data:=.seq ([]:LW).toArray } }:=I2.kept (t':=s2.toks) λb o e=>QH _ e;generalize hS:({ s2 with heap:=s2.1.push { cls:=.type "list",data:=.seq ([]:LW).toArray } }:kt)=s3 at I3;have sz3:s3.1.1.size=s2.1.1.size+1:=by rw[<- hS];exact WH ..
 have lst3:s3.1.PlainList s2.1.1.size ([]:LW).toArray:=#[0,by rw[<- hS];exact QS _ rfl]
 have old3:∀b o,s2.1.get? b=jr o->s3.1.get? b=jr o:=λb o e=>by rw[<- hS];exact QH _ e
 generalize hDd:s2.1.1.size=D at sz3 lst3;have fD:vK X l E D:=by rw[<- hDd];exact I2.fpOk (QY _) (I2.hok.fresh (QY _))
 have fpl:∀b∈a,b<D:=λb hb=>by let#[o,e,_]:=T.obj _ _ st2 b hb;rw[<- hDd];exact QV e
 have hex:∀b∈D::a,vK X l E b/\b<s3.1.1.size:=λb hb=>by rcases QK.mp hb with z|z;subst z;exact#[fD,by rw[sz3];exact QCO _];exact#[f2 b z,by rw[sz3];exact WB (fpl b z)]
 refine QBW C.nocell (by intro y hy;simp at hy) (λh' hn hsb=>?_) C.kind;have J0:Inv (IA X d Y j s3 E (D::a)) [] (DJ Y.9 j σ) E { s3 with heap:=h',toks:=s3.toks+([]:List (Str×kb)).9 }:=ZY I3 C hex hn hsb;have kept:∀b u,s3.1.get? b=jr u->h'.get? b=jr u:=λb u e=>hsb.extBut b u (Qi (QV e)) (QH _ e);let#[pg,pf,pl]:=inner s3 E (D::a);have loop:∀s4:kt,s4={ s3 with heap:=h',toks:=s3.toks+([]:List (Str×kb)).9 } ->
   mi (k0 X.prog X.w) X.A (.compLoop (.ListComp V [#[K,Z,U,0]] d pos) 0 (.ref it) (.ref D) (compEnvC d (tP X.env d.names []) s3.1.1.size X.env))
    (compPost (k0 X.prog X.w) X.A X.xe use QQ (.ref D) s3.1.1.size) s4:=by
  rintro s4 rfl;have exok:∀{f:Hp},(∀b∈D::a,f b=kv)->∀(pp:IB),(∀p∈pp,p.1∉a)->∀b∈a,vK (IA X d Y j s3 E (D::a)) pp f b:=λ{f} hn pp hpp b hb=>by have g:=J0.ok.exf b (QF _ hb);exact#[hn b (QF _ hb),g.1,J0.ok.exfs b (QF _ hb),.inl (QF _ hb),g.2,λp G z=>hpp p (by simpa[IA]using G) (z▸hb)]
  have DX:=J0.ok.exf D QE;have Dfp:D∉a:=λz=>qS _ (fpl D z);refine CH (λn M=>∃i m f L k,Inv (IA X d Y j s3 E (D::a)) [] m f M/\tn i M.1/\(∀b∈D::a,f b=kv)/\oA L k/\M.1.PlainList D k.toArray/\W i n L m f) ?_ m0
   #[0,_,E,[],[],J0,T.keep _ _ _ (T.keep _ _ _ st2 λb hb o e=>old3 b o e) λb hb o e=>kept b o e,λb hb=>((hex b hb).1).1,.nil,lst3.at λo e=>kept _ _ e,w0]
  rintro n s5 ⟨i,P,H5,L,k,I5,st5,fr5,va5,ls5,w5⟩;let#[R,lo]:=id ls5;have pinD:∀{m:St}{f:Hp}{M:kt},Inv (IA X d Y j s3 E (D::a)) [] m f M->(∀b∈D::a,f b=kv)->M.1.get? D=jr { cls:=.type "list",dict:=kv,data:=.seq k.toArray R } ->
    Inv (IA X d Y j s3 E (D::a)) [(D,{ cls:=.type "list",dict:=kv,data:=.seq k.toArray R })] m f M:=λ{m f M} I' fr' e' =>
   I'.pins_of λp G=>by
    have e:p=(D,{ cls:=.type "list",dict:=kv,data:=.seq k.toArray R }):=by simpa using G
    subst e;exact#[e',fr' D QE,DX.1,J0.ok.exfs D QE,λv z=>by cases z]
  have S:∀p∈[(D,({ cls:=.type "list",dict:=kv,data:=.seq k.toArray R }:Obj))],p.1∉a:=λp G=>by
   have e:p=(D,{ cls:=.type "list",dict:=kv,data:=.seq k.toArray R }):=by simpa using G
   subst e;exact Dfp
  have I5':=pinD I5 fr5 lo;rcases turn i n L P H5 w5 with⟨stop,hz,qn⟩| ⟨go,step⟩
  refine DB (T.done (IA X d Y j s3 E (D::a)) rfl rfl rfl hc i _ s5 P H5 (λ_ _=>False) I5' (exok fr5 _ S) st5 stop) λr s6 #[hr,I6]=>?_;subst hr;let#[m6,hn6,_]:=I6.loc;have l6:s6.1.PlainList D k.toArray:=#[R,(I6.pin _ (QZ _ (QI.mpr rfl))).1]
  have I6':Inv (IA X d Y j s3 E (D::a)) [] P H5 s6:=I6.pins_of λp G=>by simp at G
  have Iout:Inv X l σ (FA H5 D (.lst L)) s6:=KY I3 hex QE I6' (fr5 D QE) va5 hz l6 (qa.refl _ _);have lC:H5 s3.1.1.size=none:=I6'.free;refine fin D _ s6 s3.1.1.size Iout #[?_,wR I3.lt,I3.sz,λx c e z=>?_,λp G z=>?_,m6,hn6] (qn D (fr5 D QE));rw[uA (λ(z:s3.1.1.size=D)=>i3 (hex D QE).2 (by rw[z];exact qS _))];exact lC;let#[v,q]:=I3.cell x c e;exact i3 q.lt (by rw[z];exact qS _);exact i3 (QV (I3.pin p G).1) (by rw[z];exact qS _);refine DB (T.item (IA X d Y j s3 E (D::a)) rfl rfl rfl hc i _ s5 P H5 (λ_ _=>False) I5' (exok fr5 _ S) st5 go) λr s6 #[u,hr,h6]=>?_;subst hr;refine DB h6 λ_ s7 #[x,H7,I7,r7,y7,st7,fr7]=>?_;have hD7:=(I7.pin _ (QZ _ (QI.mpr rfl)))
  have fr7':∀b∈D::a,H7 b=none:=λb hb=>by rcases QK.mp hb with z|z;subst z;exact hD7.2.1;exact fr7 b z
  have I7':=I7.pinned (exok fr7' _ S) (T.obj _ _ st7);have bk:∀{m:St}{f:Hp}{M:kt},Inv (IA X d Y j s3 E (D::a)) ([(D,{ cls:=.type "list",dict:=kv,data:=.seq k.toArray R })]++eN a s7.1) m f M ->
    M.1.get? D=jr { cls:=.type "list",dict:=kv,data:=.seq k.toArray R }/\tn (i+1) M.1/\(∀b∈D::a,f b=kv):=λ{m f M} I'=>by
   have hD:=I'.pin (D,{ cls:=.type "list",dict:=kv,data:=.seq k.toArray R }) (QZ _ (Ql _ (QI.mpr rfl)));refine#[hD.1,T.keep _ _ _ st7 λb hb o e=>(I'.pin (b,o) (QZ _ (QZ _ (lF hb e)))).1,λb hb=>?_];rcases QK.mp hb with z|z;subst z;exact hD.2.1;let#[o,e,_]:=T.obj _ _ st7 b z;exact(I'.pin (b,o) (QZ _ (QZ _ (lF z e)))).2.1
  refine DB (pg _ s7 P H7 x u _ I7' r7 (step x H7 y7)) λ_ s8 #[O,H8,I8,q8]=>?_;refine DB (pf _ s8 O H8 _ I8 q8) λok s9 #[H9,I9,q9]=>?_;cases ok with
  |false=>let#[m',hm,w']:=q9;let#[b1,b2,b3]:=bk I9;exact#[m',hm,i+1,O,H9,L,k,I9.pins_of λp G=>by simp at G,b2,b3,va5,#[R,b1],w']|true =>
   refine DB (pl _ s9 O H9 _ I9 q9) λy s10 #[yv,H10,I10,r10,hz,m',hm,w']=>?_;let#[b1,b2,b3]:=bk I10;have hlen:=va5.9;refine wpAny_list_append_plain (hsz:=by rw[QN];omega) (show s10.1.PlainList D k.toArray from#[R,b1]) λh11 hl11 hs11=>?_;refine#[m',hm,i+1,O,H10,L++[yv],k++[y],?_,T.keep _ _ _ b2 λb hb o e=>(hs11.2 b (λz=>Dfp (z▸hb))).trans e,b3,va5.append (.cons r10 .nil),by simpa using hl11,w'];have I10':Inv (IA X d Y j s3 E (D::a)) [] O H10 s10:=I10.pins_of λp G=>by simp at G
   exact I10'.turned (t':=s10.toks) (λb o hb e=>(hs11.2 b hb).trans e) (b3 D QE) DX.1 (.inl QE) DX.2 λp G=>by simp[IA]at G
 refine codeAny_compStart_list (loop _ rfl) (T.self X.A 0 _ _ _ (T.keep _ _ _ (T.keep _ _ _ st2 λb hb o e=>old3 b o e) λb hb o e=>kept b o e) (loop _ rfl))
theorem jO{σ:St}{H:Hp}{F:ko}(I:Inv X l σ H s)(f:Zw X l H s F){h':vu}(h:qa F s.1 h'):Inv X l σ H { s with heap:=h' }:=by let#[v,u,z,y,x,_]:=f;exact I.turned (t':=s.toks) (λb o hb e=>(h.2 b hb).trans e) v u (.inr z) y x
theorem je(hc:X.calm=kf)(w:PI X K Z B)(C:CompSt X.N X.env.scope d Y j)
  (y:∀s H ex,PG (IA X d Y j s H ex) K g/\kw (IA X d Y j s H ex) U tc/\PE (IA X d Y j s H ex) V te)
  (u:∀x,hQ Z X.env x=ti x:=by intro _;rfl):PE X (.ListComp V [#[K,Z,U,0]] d pos) (u7 B g tc te Y.9 j):=by
 intro l s b H Q I h;rw[eval_ListComp];refine GV hc w C y u I h λD a e F k f q=>?_;let#[m,v]:=f.2.2.2.2.2;exact#[m,v,λi z=>#[.ref D,a,jO k f z,rfl,q]]
theorem Cd{cpos u:Pos}{i:Nat}{x:Str}(hc:X.calm=kf)(S:X.N.Nodup)(n:X.N[i]?=jr x)(p:X.env.scope.names.lookup x=jr .local)
  (Q:PI X K Z B) (C:CompSt X.N X.env.scope d Y j)
  (y:∀s H ex,PG (IA X d Y j s H ex) K g/\kw (IA X d Y j s H ex) U tc/\PE (IA X d Y j s H ex) V te)
  (M:∀x,hQ Z X.env x=ti x) (k:ej (.ListComp V [#[K,Z,U,0]] d cpos) (jr (.Name x u)) pos.line X.env=ti kf) :
  PS X (.Assign [.Name x u] (.ListComp V [#[K,Z,U,0]] d cpos) pos) (Bk (u7 B g tc te Y.9 j) (V1 i)):=by
 intro l s σ H D0 I h;rw[exec_Assign_Name_used _ _ _ _ k];refine QD (QBw (QD ?_));show ku _ X.A (do let _ <- p6 (.ListComp V [#[K,Z,U,0]] d cpos) d X.env _ (newList []) kd (g6 Z X.env) (jr (ll (.Name x u) X.env))) _ _ s;refine QD (qm (GV (use:=jr (ll (.Name x u) X.env)) (QQ:=λ_ o=>SP X l D0 .next o) hc Q C y M I h λD H' J F I6 f q=>?_) (λ_ o O=>QL (QL O)) λ_ _ e=>e);show ku _ X.A (ll (.Name x u) X.env (.ref D)) _ _ J;refine QB5 (LP I6 S n (.inl p) (v:=.ref D) rfl (λG I7 #[a,E,R]=>?_) (.inr p));let#[f0,W,f2,r,f4,m,P]:=f;have L:F≠a:=by rcases R with z|z;rw[z];exact W;exact λe=>r x a z e.symm
 have w:G.1.Ns F m:=P.sameBut E L;exact#[m,w,λh' b=>#[_,H',jO I7 #[f0,W,f2,r,f4,m,w] b,q]]
end
end L2
namespace L2.L3
open PySem PySem.Spec PyProof.Rows
def jt(K:QC):R2:=λx y H Q=>match x,y with
 | .int i,.int j=>Q (.int (i+j)) H|.str a,.str b=>a.9+b.9<=kn/\Q (.str (a++b)) H|.ref a,.ref b=>(∃z h,YC K H a z/\YC K H b h/\z.9+h.9<=kn/\∀p,H p=kv->Q (.ref p) (FA H p (.lst (z++h))))∨uh K (.ref a) (.ref b) H Q|_,_=>False
noncomputable def Ds:R2:=λx y H Q=>match x,y with
 | .int i,.int j=>Q (.int (i - j)) H|_,_=>False
noncomputable def Ms(K:QC):R2:=λx y H Q=>match x,y with
 | .int i,.int j=>mu i j/\Q (.int (i * j)) H|_,_=>False
noncomputable def vh:R2:=λx y H Q=>match x,y with
 | .int i,.int j=>(0<j/\j<2 ^ 200)/\Q (.int (i / j)) H|_,_=>False
noncomputable def Os:R2:=λx y H Q=>match x,y with
 | .int i,.int j=>0<j/\Q (.int (i % j)) H|_,_=>False
section
variable{X:Cx}
theorem op_add:yF X (hG .Add) (jt X.K):=by
 intro z s g H x y v u Q I f e h;cases x with
 |int i =>
  cases y with|int j=>exact _root_.L2.op_add z s g H _ _ v u Q I f e #[i,j,rfl,rfl,h]|_=>exact Qg h
 |str a =>
  cases y with|str b=>exact aX z s g H _ _ v u Q I f e #[a,b,rfl,rfl,h.1,h.2]|_=>exact Qg h
 |ref a =>
  cases y with
  |ref b =>
   rcases h with⟨xs,ys,N,M,hz,q⟩| h;cases f;cases e;let#[k,r,#[#[S,R,A,G],L,W,E,d1,p],z1]:=I.list N;let#[w,Y,#[#[B,m,n,l],J,Z,C,d2,o],z2]:=I.list M;simp only at E p C o;subst E p C o;have hl:=r.9;have O:=Y.9;refine QCJ #[_,W,rfl] #[_,Z,rfl] noFill_list_add seq_list_add PySem.F.slot_list_add PySem.F.entry_list_add (PySem.F.args_list_add_2 _ _) (list_addW a b k.toArray w.toArray L J R m G l (by simp;omega)) #[W,Z,?_];have P:k.toArray++w.toArray=(k++w).toArray:=by simp
   rw[P];exact#[.ref _,_,I.lnew (t':=s.toks) (r.append Y) (by rw[QJ];omega),rfl,q _ I.fresh];exact ge z s g H _ _ v u Q I f e h
  |_=>exact Qg h
 |_=>exact Qg h
theorem op_sub:yF X (hG .Sub) Ds:=by
 intro z s w H x y v u Q I a k h;cases x with
 |int i =>
  cases y with|int j=>exact _root_.L2.op_sub z s w H _ _ v u Q I a k #[i,j,rfl,rfl,h]|_=>exact Qg h
 |_=>exact Qg h
theorem fe:yF X (hG .FloorDiv) vh:=by
 intro z s a H x y v u Q I k w h;cases x with
 |int i =>
  cases y with
  |int j =>
   let#[t,rfl]:=k;let#[b,rfl]:=w;let#[#[f,e],q]:=h;refine floordiv_int () ?_ (.inl (PyProof.noPylong_of_log2 ?_));rw[Int.fdiv_eq_ediv_of_nonneg i ()];exact#[.int _,H,I.tok _,#[_,rfl],q];have:j.natAbs<2 ^ 200:=()
   have:=(Nat.log2_lt (show j.natAbs≠0 by omega)).mpr this;omega
  |_=>exact Qg h
 |_=>exact Qg h
theorem op_mod:yF X (hG .Mod) Os:=by
 intro z s w H x y v u Q I a k h;cases x with
 |int i =>
  cases y with|int j=>exact _root_.L2.op_mod z s w H _ _ v u Q I a k #[i,j,rfl,rfl,h.1,h.2]|_=>exact Qg h
 |_=>exact Qg h
theorem zm:yF X (hG .Mult) (Ms X.K):=by
 intro z s a H x y v u Q I k w h;cases x with
 |int i =>
  cases y with|int j=>let#[t,rfl]:=k;let#[b,rfl]:=w;exact mul_int #[.int _,H,I.tok _,#[_,rfl],h.2] h.1|_=>exact Qg h
 |_=>exact Qg h
end
end L2.L3
namespace L2
open PySem PySem.Spec PyProof.Rows
section
variable{x:Type}[DecidableEq x]
section
variable{p:x×V}{r kvs:List (x×V)}{vs:List (x×kb)}{u:kb}
noncomputable def BM(kvs:List (x×V))(k:x):Option V:=(kvs.find? λh=>decide (h.1=k)).map (·.2)
noncomputable def oX(kvs:List (x×V))(k:x)(v:V):List (x×V) :=
 if(kvs.any λh=>decide (h.1=k))=kf then kvs.map (λh=>if h.1=k then(h.1,v) else h) else kvs++[(k,v)]
theorem XM{k:x}(e:p.1=k):BM (p::r) k=jr p.2:=by simp[BM,wM,e]
theorem UM{k:x}(e:¬ p.1=k):BM (p::r) k=BM r k:=by simp[BM,wM,e]
theorem RT(k:x):∀kvs:List (x×V),(kvs.any λh=>decide (h.1=k))=(BM kvs k).isSome
 |[]=>rfl|p::r=>by rw[WA];by_cases e:p.1=k;simp only[XM e,dT e,QCH,Option.isSome_some];rw[UM e,dF e,QAn];exact RT k r
theorem bV(kvs:List (x×V))(k:x)(v:V):(oX kvs k v).9<=kvs.9+1:=by unfold oX;split;rw[QA];omega;rw[QJ,QM,wK];omega
theorem uZ.isSome_eq{o:Option V}{u:Option kb}(r:uZ o u):o.isSome=u.isSome:=by
 cases o with
 |none=>cases u with|none=>rfl|some _=>exact(show False from r).elim
 |some _=>cases u with|none=>exact(show False from r).elim|some _=>rfl
theorem KV.val(r:KV kvs vs)(k:x):uZ (BM kvs k) (l0 vs k):=by
 unfold KV at r;induction r with
 |nil=>exact True.intro|@cons p q g y h t a =>
  let#[w,f]:=h;by_cases e:p.1=k;have v:q.1=k:=w.symm.trans e;have b:l0 (q::y) k=jr q.2:=by simp[l0,wM,v]
  rw[XM e,b];exact f;have v:¬ q.1=k:=λz=>e (w.trans z);have b:l0 (q::y) k=l0 y k:=by simp[l0,wM,v]
  rw[UM e,b];exact a
theorem KV.any(r:KV kvs vs)(k:x):(kvs.any λy=>decide (y.1=k))=vs.any λy=>decide (y.1=k):=by
 unfold KV at r;induction r with|nil=>rfl|cons h t z=>rw[WA,WA,z,h.1]
theorem KV.repl(r:KV kvs vs)(k:x){y:V}(a:JA y u) :
  KV (kvs.map λv=>if v.1=k then(v.1,y) else v) (vs.map λv=>if v.1=k then(v.1,u) else v):=by
 unfold KV at r ⊢;induction r with|nil=>exact .nil|@cons p q i g h t b=>rw[QU,QU];refine .cons ?_ b;let#[w,f]:=h;by_cases e:p.1=k;rw[i0 e,i0 (w.symm.trans e)];exact#[w,a];rw[ii e,ii (λz=>e (w.trans z))];exact#[w,f]
theorem KV.put(r:KV kvs vs)(k:x){y:V}(h:JA y u):KV (oX kvs k y) (stored vs k u):=by unfold oX stored;rw[r.any k];by_cases e:(vs.any λz=>decide (z.1=k))=kf;rw[i0 e,i0 e];exact r.repl k h;rw[ii e,ii e];exact Paired.snoc r #[rfl,h]
theorem KV.length(r:KV kvs vs):kvs.9=vs.length:=qE r
end
end
theorem AN{P:k5}{w:xb}{k:Key}{u:kb}(r:JA (kV k) u):(mC P w).is k u=true:=by
 cases k with|inl i=>let#[t,e]:=(show ∃t,u=Value.int i t from r);subst e;exact jV P w i t|inr x=>let#[t,e]:=(show ∃t,u=Value.str x t from r);subst e;exact IU P w x t
end L2
namespace L2.L3
open PySem PySem.Spec PyProof.Rows
section
variable{r kvs:List KE}{xs:List (NK×ko×kb)}
noncomputable abbrev KE:=NK×ko×V
noncomputable def JH(kvs:List KE)(k:NK):Option V:=(kvs.find? λp=>decide (p.1=k)).map (·.2.2)
def vN(kvs:List KE)(k:NK)(b:ko)(v:V):List KE :=
 if(JH kvs k).isSome=kf then kvs.map (λp=>if p.1=k then(p.1,p.2.1,v) else p) else kvs++[(k,b,v)]
noncomputable abbrev KD:List KE->List (NK×ko×kb)->Prop:=xo λ(p:NK×ko×V) (q:NK×ko×kb)=>p.1=q.1/\p.2.1=q.2.1/\JA p.2.2 q.2.2
theorem AT{p:KE}{k:NK}(e:p.1=k):JH (p::r) k=jr p.2.2:=by simp[JH,wM,e]
theorem ET{p:KE}{k:NK}(e:¬ p.1=k):JH (p::r) k=JH r k:=by simp[JH,wM,e]
theorem KD.val(r:KD kvs xs)(k:NK):uZ (JH kvs k) ((lb xs k).map (·.2)):=by
 induction r with
 |nil=>exact True.intro|@cons p q a x h t v =>
  let#[u,_,w]:=h;by_cases e:p.1=k;have y:q.1=k:=u.symm.trans e;have b:lb (q::x) k=jr q.2:=by simp[lb,wM,y]
  rw[AT e,b];exact w;have y:¬ q.1=k:=λz=>e (u.trans z);have b:lb (q::x) k=lb x k:=by simp[lb,wM,y]
  rw[ET e,b];exact v
theorem KD.put(r:KD kvs xs)(k:NK)(b:ko){y:V}{u:kb}(v:JA y u):KD (vN kvs k b y) (tj xs k b u):=by
 have e:(JH kvs k).isSome=(lb xs k).isSome:=by rw[(r.val k).isSome_eq,QAg]
 unfold vN tj;rw[e];by_cases q:(lb xs k).isSome=kf;rw[i0 q,i0 q];clear e q;induction r with|nil=>exact .nil|@cons p q i g h t a=>rw[QU,QU];refine .cons ?_ a;let#[x,w,f]:=h;unfold putAt;by_cases e:p.1=k;rw[i0 e,i0 (x.symm.trans e)];exact#[x,w,v];rw[ii e,ii (λz=>e (x.trans z))];exact#[x,w,f]
 rw[ii q,ii q];exact Paired.snoc r #[rfl,rfl,v]
theorem cV(kvs:List KE)(k:NK)(b:ko)(v:V):(vN kvs k b v).9<=kvs.9+1:=by unfold vN;split;rw[QA];omega;rw[QJ,QM,wK];omega
end
mutual
def uq(K:QC)(H:Hp):NK->V->Prop
 | .s x,v=>v=.str x|.t ks,v=>∃a h,v=.ref a/\LD K H a h/\KyVs K H ks h
def KyVs(K:QC)(H:Hp):List NK->LV->Prop
 |[],xs=>xs=[]|k::ks,xs=>∃x r,xs=x::r/\uq K H k x/\KyVs K H ks r
end
def BP(K:QC)(H:Hp)(b:ko)(k:NK):Prop:=uq K H k (.ref b)/\f9 k<=6
theorem rJ{P:k5}{w:xb}{A:x0}(h:A.units+60<gp):(cF P w).room A.in1:=by show A.in1.units+8<gp;rw[QAz];omega
def IG(K:QC)(H:Hp)(kvs:List KE):Prop:=∀p∈kvs,BP K H p.2.1 p.1
theorem Inv.big{X:Cx}{x:IB}{σ:St}{H:Hp}{s:kt}(I:Inv X x σ H s):y1<s.1.1.size:=by have h:k4<s.1.1.size:=(I.mod.glob.keeps I.bk).lt;exact wy (by decide) h
section
variable{X:Cx}{y:IB}{σ:St}{H:Hp}{s:kt}{a b:ko}
mutual
theorem Ku(I:Inv X y σ H s):∀{k:NK}{x:V}{u:kb},uq X.K H k x->JA x u->i6 s.1 k u
 | .s z,x,u,e,r=>by cases(show x=.str z from e);exact r|.t ks,x,u,#[a,xs,e,q,p],r=>by subst e;cases r;let#[h,v,#[o,g,f,n,w],_]:=I.tuple q;exact#[a,h.toArray,rfl,#[o,g,f,n,w],by simpa using ky_vs I p v]
theorem ky_vs(I:Inv X y σ H s):∀{ks:List NK}{xs:LV}{us:LW},KyVs X.K H ks xs->oA xs us->NKvs s.1 ks us
 |[],xs,us,e,r=>by cases(show xs=[] from e);cases r;rfl|k::ks,xs,us,#[x,r,e,p,q],rv=>by
  subst e;cases rv with|cons h t=>exact#[_,_,rfl,Ku I p h,ky_vs I q t]
end
theorem mV{k:NK}(I:Inv X pins σ H s)(h:BP X.K H b k):(cF X.prog X.w).is s.1 k b:=#[Ku I h.1 rfl,h.2]
theorem BL{ep:Nat}{kvs:List KE}(I:Inv X pins σ H s)(e:H a=jr (.dT ep kvs))(hk:IG X.K H kvs):kvs.9<=kn/\(a==y1)=kd/\∃xs,KD kvs xs/\s.1.DictOfH (cF X.prog X.w) a xs:=by
 let#[z,y,xs,r,o,l,j,i,g,k,v]:=(show fB X.prog X.w H s.1 a (.dT ep kvs) from I.hok a _ e)
 refine#[z,y,xs,r,o,l,ep,j,i,g,k,?_,v];clear k v z e;induction r with
 |nil=>intro x h;exact nomatch h
 |@cons p q n m u t b=>intro x h;rcases QK.mp h with e|h;subst e;rw[<- u.1,<- u.2.1];exact mV I (hk p QE);exact b (λp f=>hk p (QF _ f)) x h
theorem CV{kvs:List (Key×V)}(I:Inv X pins σ H s)(e:H a=jr (.dK kvs)):kvs.9<=kn/\(a==y1)=kd/\∃vs,KV kvs vs/\s.1.DictOf (mC X.prog X.w) a vs :=
 show fB X.prog X.w H s.1 a (.dK kvs) from I.hok a _ e
end
theorem Ea{X:Cx}{h:IB}{σ:St}{H:Hp}{s:kt}{a:ko}{ep:Nat}(I:Inv X h σ H s)(e:H a=jr (.dT ep [])):(a==y1)=kd/\s.1.DictOf (mC X.prog X.w) a []:=by
 let#[z,y,g,r,o,f,b,k,v,u,i]:=(show fB X.prog X.w H s.1 a (.dT ep []) from I.hok a _ e)
 cases r;have x:f=#[]:=by apply WJ.mp;simpa using u
 subst x;exact#[y,o,#[],ep,b,k,v,λe x=>by simp at x,.nil,Qx]
def kD:Key->x2
 | .inl i=>.int i|.inr x=>.str x
mutual
def tD:NK->x2
 | .s x=>.str x|.t h=>.tuple (tDs h)
def tDs:List NK->List x2
 |[]=>[]|k::ks=>tD k::tDs ks
end
theorem E9{a b:Key}(e:kD a=kD b):a=b:=by
 cases a with
 |inl i=>cases b with|inl j=>injection e with e;rw[e]|inr y=>exact nomatch (show j1 i=j0 y from e)
 |inr x=>cases b with
  |inl j=>exact nomatch (show j0 x=j1 j from e)
  |inr y=>injection e with e;rw[e]
mutual
theorem yX:∀{a b:NK},tD a=tD b->a=b
 | .s x,.s y,e=>by rw[PyData.str.inj e]|.s x,.t l,e=>QBz e|.t k,.s y,e=>QBz e|.t k,.t l,e=>by rw[tDs_inj (PyData.tuple.inj e)]
theorem tDs_inj:∀{a b:List NK},tDs a=tDs b->a=b
 |[],[],_=>rfl|[],_::_,e=>(nomatch e)
 |_::_,[],e=>(nomatch e)
 |x::xs,y::ys,e=>by have e:tD x::tDs xs=tD y::tDs ys:=e;injection e with e1 e2;rw[yX e1,tDs_inj e2]
end
def DI(K:QC)(H:Hp)(b:Bool)(o:HO)(ks:List x2)(vs:LV):Prop:=match b with
 |true=>∃x,∃h:List KE,o=.dT x h/\ks=h.map (λp=>tD p.1)/\vs=h.map (·.2.2)/\IG K H h/\(h.map (·.1)).Nodup|false=>(∃h:List (Key×V),h≠[]/\o=.dK h/\ks=h.map (λp=>kD p.1)/\vs=h.map (·.2)/\(h.map (·.1)).Nodup)∨∃x,o=.dT x []/\ks=[]/\vs=[]
theorem DI.len{K:QC}{H:Hp}{b:Bool}{o:HO}{ks:List x2}{vs:LV}(h:DI K H b o ks vs):ks.9=vs.length:=by
 cases b with|true=>let#[y,x,_,rfl,rfl,_]:=h;simp|false=>rcases h with⟨x,_,_,rfl,rfl,_⟩| ⟨_,_,rfl,rfl⟩<;>simp
def JT(K:QC)(H:Hp)(a:ko)(y:V)(r:Option V):Prop:=match y with
 | .str z=>(∃h,H a=jr (.dK h)/\r=BM h (.inr z))∨∃x,H a=jr (.dT x [])/\r=kv|.ref b=>∃x h k,H a=jr (.dT x h)/\IG K H h/\BP K H b k/\r=JH h k|_=>False
def nq(K:QC)(H:Hp)(a:ko)(y v:V)(Q:Hp->Prop):Prop:=match y with
 | .str z=>(∃h,H a=jr (.dK h)/\h.9<kn/\Q (FA H a (.dK (oX h (.inr z) v))))∨∃u,H a=jr (.dT u [])/\Q (FA H a (.dK [(.inr z,v)]))|.ref b=>∃u h k,H a=jr (.dT u h)/\IG K H h/\BP K H b k/\h.9<kn/\∀x,Q (FA H a (.dT x (vN h k b v)))|_=>False
theorem kQ{v:V}{o:Option kb}(r:uZ (jr v) o):∃w,o=jr w/\JA v w:=by
 cases o with|none=>exact(show False from r).elim|some w=>exact#[w,rfl,r]
section
variable{X:Cx}
section
variable{c:IB}{s:kt}{σ:St}{H:Hp}{a:ko}{u:kb}{o:Option V}{h':vu}{pos:Pos}
theorem Vf(P:X.A.units+66<gp):zc X (λx y H Q=>∃a v,x=.ref a/\JT X.K H a y (jr v)/\Q v H):=by
 intro n Y c s σ H x y v u Q I J C h E;let#[a,r,rfl,g,q]:=h;cases J;cases y with
 |str z =>
  rcases g with⟨W,e,l⟩| ⟨N,e,l⟩
  rotate_left
  cases l;let#[_,M,G,f,m]:=CV I e;let#[i,B,w]:=kQ (v:=r) (o:=l0 G (.inr z)) (by rw[l];exact f.val _);exact qj (x:=i) m.typeIs QAX.lookup
   (wpAny_getItem_of (Q:=λr Z=>r=i/\EP X c σ Q r Z) (AN (k:=.inr z) C) m.mapOf B #[rfl,r,H,I.tok _,w,q]) E
 |ref b =>
  let#[N,W,k,e,hk,O,l]:=g;cases C;let#[_,M,F,f,m]:=BL I e hk;let#[i,B,w]:=kQ (v:=r) (o:=(lb F k).map (·.2)) (by rw[l];exact f.val _);let#[p,L,j]:=Option.map_eq_some_iff.mp B;refine qj (x:=i) m.typeIs QAX.lookup
   (wpAny_getItem_heap (Q:=λr Z=>r=i/\EP X c σ Q r Z) (rJ ()) (mV I O) m L ?_) E
  exact#[j,r,H,I.tok _,by rw[j];exact w,q]
 |_=>exact Qg g
theorem Cf(r:X.A.units+66<gp){y:V}{Q:VK}(I:Inv X c σ H s)(f:JA y u)(g:JT X.K H a y o)(q:Q (.bl o.isSome) H) :
  ku (k0 X.prog X.w) X.A (vx .In u (.ref a)) (EP X c σ Q) X.xe s:=by
 cases y with
 |str z =>
  rcases g with⟨i,e,l⟩| ⟨j,e,l⟩
  rotate_left
  subst l;let#[x,v]:=Ea I e;exact wpAny_in_of (AN (k:=.inr z) f) x v.mapOf #[.bl kd,H,I.tok _,rfl,q];let#[_,x,p,h,v]:=CV I e;refine wpAny_in_of (AN (k:=.inr z) f) x v.mapOf #[.bl o.isSome,H,I.tok _,?_,q];rw[<- (h.val (.inr z)).isSome_eq,<- l];rfl
 |ref b=>let#[j,i,k,e,hk,m,l]:=g;cases f;let#[_,x,n,h,v]:=BL I e hk;refine wpAny_in_heap (rJ ()) (mV I m) x v #[.bl o.isSome,H,I.tok _,?_,q];have q:=(h.val k).isSome_eq;rw[QAg]at q;rw[<- q,<- l];rfl|_=>exact Qg g
theorem UX(r:X.A.units+66<gp){y:V}{Q:VK}(I:Inv X c σ H s)(f:JA y u)(g:JT X.K H a y o)(q:Q (.bl (!o.isSome)) H) :
  ku (k0 X.prog X.w) X.A (vx .NotIn u (.ref a)) (EP X c σ Q) X.xe s:=by
 cases y with
 |str z =>
  rcases g with⟨i,e,l⟩| ⟨j,e,l⟩
  rotate_left
  subst l;let#[x,v]:=Ea I e;exact ni (AN (k:=.inr z) f) x v.mapOf #[.bl kf,H,I.tok _,rfl,q];let#[_,x,p,h,v]:=CV I e;refine ni (AN (k:=.inr z) f) x v.mapOf #[.bl (!o.isSome),H,I.tok _,?_,q];rw[<- (h.val (.inr z)).isSome_eq,<- l];rfl
 |ref b=>let#[j,i,k,e,hk,m,l]:=g;cases f;let#[_,x,n,h,v]:=BL I e hk;refine wpAny_notIn_heap (rJ ()) (mV I m) x v #[.bl (!o.isSome),H,I.tok _,?_,q];have q:=(h.val k).isSome_eq;rw[QAg]at q;rw[<- q,<- l];rfl|_=>exact Qg g
theorem NS{t':Nat}{ob:HO}(I:Inv X c σ H s)(h:Lq (H a))(y:qa a s.1 h')(v:∃q,h'.get? a=jr q)(new:fB X.prog X.w (FA H a ob) h' a ob) :
  Inv X c σ (FA H a ob) { s with heap:=h',toks:=t' } :=
 I.write (x:=a) (e:=a) h (.inl rfl) (λb q hb z=>(y.2 b hb).trans z) v new
theorem uO{t':Nat}{kvs:List KE}{xs:List (NK×ko×kb)}(I:Inv X c σ H s)(y:Lq (H a))(k:(a==y1)=kd)(z:kvs.9<=kn)(h:KD kvs xs)
  (j:h'.DictOfH (cF X.prog X.w) a xs) (v:qa a s.1 h'):∃ep,Inv X c σ (FA H a (.dT ep kvs)) { s with heap:=h',toks:=t' }:=by
 let#[q,i,ep,x,g,f,e,_,b]:=j;exact#[ep,NS I y v #[q,x] #[z,k,xs,h,q,i,x,g,f,e,b]]
def setD(K:QC)(o y v:V)(H:Hp)(Q:Hp->Prop):Prop:=match o with
 | .ref a=>nq K H a y v Q|_=>False
theorem fU(M:X.A.units+66<gp):Xg X (setD X.K):=by
 intro c s σ H o y v J L u Q I W n m h;cases o with
 |ref a =>
  cases W;cases y with
  |str z =>
   rcases h with⟨f,e,l,q⟩| ⟨B,e,q⟩
   rotate_left
   let#[i,j]:=Ea I e;refine QBk (hsz:=Qq _) (AN (k:=.inr z) n) j λh' x g=>#[_,?_,q]
   have Y:∃q,h'.get? a=jr q:=let#[q,_,_,r,_]:=x;#[q,r]
   exact NS I (by rw[e];exact True.intro) g Y #[by simp;decide,i,_,.cons #[rfl,m] .nil,x];let#[p,i,G,w,j]:=CV I e;have hl:(oX f (.inr z) v).9<=sizeLine:=by have:=bV f (.inr z) v;omega
   refine QBk (hsz:=by rw[<- w.9];exact p) (AN (k:=.inr z) n) j λh' x g=>#[_,?_,q]
   have Y:∃q,h'.get? a=jr q:=let#[q,_,_,r,_]:=x;#[q,r]
   exact NS I (by rw[e];exact True.intro) g Y #[hl,i,_,w.put _ m,x]
  |ref b =>
   let#[B,f,k,e,hk,C,l,q]:=h;cases n;let#[p,i,F,w,j]:=BL I e hk;have hl:(vN f k b v).9<=sizeLine:=by have:=cV f k b v;omega
   refine wpAny_setItem_heap (hsz:=by rw[<- qE w];exact p) (rJ ()) (mV I C) j λh' x g=>?_;let#[Z,E]:=uO (t':=_) I (by rw[e];exact True.intro) i hl (w.put k b m) x g;exact#[_,E,q Z]
  |_=>exact Qg h
 |_=>exact Qg h
theorem fi{P:k5}{w:xb}(h:vu)(hb:y1<h.1.size):fB P w H (h.push { cls:=.type "dict",data:=.dict #[] }) h.1.size (.dT 0 []) :=
 #[Qq _,beq_eq_false_iff_ne.mpr (qC (Qi hb)),[],.nil,_,#[],QS _ rfl,#[rfl,rfl,rfl],rfl,rfl,Qx]
theorem Ed:PE X (.Dict [] [] pos) (λ_ H Q=>∀p,H p=kv->Q (.ref p) (FA H p (.dT 0 []))):=λc s σ H Q I h =>
 wpAny_Dict_empty #[.ref s.1.1.size,_,I.laid (a:=s.1.1.size) (o:=.dT 0 []) (t':=s.toks) (λ_ _ q=>QH _ q) (QY _) (fi s.1 (Inv.big I)),rfl,h _ (I.hok.fresh (QY _))]
theorem Ad(hu:X.A.units+66<gp){k v:Expr}{l j:TE}(hk:PE X k l)(hv:PE X v j) :
  PE X (.Dict [jr k] [v] pos) (λσ H Q=>∀p,H p=kv->l σ (FA H p (.dT 0 [])) λy i=>j σ i λv h=>h p=jr (.dT 0 [])/\∃b ks,y=.ref b/\BP X.K h b ks/\∀ep,Q (.ref p) (FA h p (.dT ep [(ks,b,v)]))):=by
 intro c s σ H Q I q;have E:=I.hok.fresh (QY s.1.1.size);have N:=I.laid (a:=s.1.1.size) (o:=.dT 0 []) (h':=s.1.push { cls:=.type "dict",data:=.dict #[] }) (t':=s.toks) (λ_ _ q=>QH _ q) (QY _) (fi s.1 (Inv.big I));refine wpAny_Dict_any rfl rfl (by simp) (by simp) (pairTrees_cons_walk (DB (hk c _ σ _ _ N (q _ E)) λu n #[y,i,M,Y,W]=>DB (hv c n σ i _ M W) λm R #[z,h,g,r,e,b,ks,G,J,Z]=>pairTrees_nil_walk ?_));subst G;cases Y;let#[S,F,P,x,L]:=BL g e (λp C=>nomatch C);cases x;show ku _ _ (forIn [(kx b,m)] PUnit.unit _) _ _ _;rw[QAC];refine QD (QD (wpAny_dictSet_heap (hsz:=Qq _) (show X.A.units+8<gp by omega) (mV g J) L λh' f B=>QL ?_));show ku _ _ (forIn ([]:List (kb×kb)) _ _) _ _ _;rw[QBd];let#[w,O]:=uO (t':=_) (kvs:=[(ks,b,z)]) g (by rw[e];exact True.intro) F (by simp;decide) (.cons #[rfl,rfl,r] .nil) f B;exact QL #[.ref _,_,O,rfl,Z w]
end
end
mutual
inductive Rep(K:QC)(H:Hp):V->x2->Prop where
 |non:Rep K H .non .none
 |bl (b:Bool):Rep K H (.bl b) (.bool b)
 |int (i:Int):Rep K H (.int i) (.int i)
 |str (x:Str):Rep K H (.str x) (.str x)
 |lst {a:ko}{xs:LV}{ds:List x2}:YC K H a xs->Reps K H xs ds->Rep K H (.ref a) (.list ds)
 |tup {a:ko}{xs:LV}{ds:List x2}:LD K H a xs->Reps K H xs ds->Rep K H (.ref a) (.tuple ds)
 |dct {b:Bool}{a:ko}{o:HO}{ks:List x2}{xs:LV}{ds:List x2}:H a=jr o->DI K H b o ks xs->Reps K H xs ds->Rep K H (.ref a) (.dict (ks.zip ds))
inductive Reps(K:QC)(H:Hp):LV->List x2->Prop where
 |nil:Reps K H [] []
 |cons {x:V}{d:x2}{xs:LV}{ds:List x2}:Rep K H x d->Reps K H xs ds->Reps K H (x::xs) (d::ds)
end
section
variable{K:QC}{H:Hp}{R:LV->List x2->Prop}{xs:LV}{ds:List x2}
theorem Rep.both{P:V->x2->Prop}(z:P .non .none)(v:∀b,P (.bl b) (.bool b))(int:∀i,P (.int i) (.int i))(str:∀x,P (.str x) (.str x))
    (lst:∀{a:ko}{xs:LV}{ds:List x2},YC K H a xs->Reps K H xs ds->R xs ds->P (.ref a) (.list ds))
    (tup:∀{a:ko}{xs:LV}{ds:List x2},LD K H a xs->Reps K H xs ds->R xs ds->P (.ref a) (.tuple ds))
    (dct:∀{b:Bool}{a:ko}{o:HO}{ks:List x2}{xs:LV}{ds:List x2},H a=jr o->DI K H b o ks xs->Reps K H xs ds->R xs ds->P (.ref a) (.dict (ks.zip ds)))
    (u:R [] []) (y:∀{x:V}{d:x2}{xs:LV}{ds:List x2},Rep K H x d->Reps K H xs ds->P x d->R xs ds->R (x::xs) (d::ds)) :
    (∀{x:V}{d:x2},Rep K H x d->P x d)/\∀{xs:LV}{ds:List x2},Reps K H xs ds->R xs ds :=
  #[λh=>Rep.rec (motive_1:=λx d _=>P x d) (motive_2:=λx d _=>R x d) z v int str @lst @tup @dct u @y h,
   λh=>Reps.rec (motive_1:=λx d _=>P x d) (motive_2:=λx d _=>R x d) z v int str @lst @tup @dct u @y h]
theorem Reps.ind(z:R [] [])(y:∀{x:V}{d:x2}{xs:LV}{ds:List x2},Rep K H x d->R xs ds->R (x::xs) (d::ds))(h:Reps K H xs ds):R xs ds :=
 (Rep.both (P:=λ_ _=>True) trivial (λ_=>trivial) (λ_=>trivial) (λ_=>trivial) (λ_ _ _=>trivial) (λ_ _ _=>trivial) (λ_ _ _ _=>trivial) z λh _ _ r=>y h r).2 h
theorem Reps.length(h:Reps K H xs ds):xs.9=ds.length:=Reps.ind (R:=λxs ds=>xs.9=ds.9) rfl (λ_ e=>o9 Nat.succ e) h
end
section
variable{X:Cx}{y:IB}{σ:St}{H:Hp}{s:kt}
mutual
theorem HU{h:vu}:∀{k:NK}{u:kb},i6 h k u->∃z,Reads h u (tD k) z
 | .s x,u,#[t,e]=>by subst e;exact#[_,.str x t]|.t ks,u,#[a,its,e,#[o,e1,c,n,d],q]=>by subst e;let#[z,v]:=nks_reads q;exact#[_,.tuple e1 c d v]
theorem nks_reads{h:vu}:∀{ks:List NK}{us:LW},NKvs h ks us->∃x,lr h us (tDs ks) x
 |[],us,e=>by cases(show us=[] from e);exact#[_,.nil]|k::ks,us,#[v,r,e,p,q]=>by subst e;let#[x,u]:=HU p;let#[bs,z]:=nks_reads q;exact#[_,.cons u z]
end
section
variable{kvs:List (Key×V)}{xs:List (NK×ko×kb)}{vs:List (Key×kb)}
theorem P7(I:Inv X pins σ H s){kvs:List KE}(r:KD kvs xs)(hk:IG X.K H kvs):∃z,lr s.1 (xs.map λx=>.ref x.2.1) (kvs.map λp=>tD p.1) z:=by
 induction r with|nil=>exact#[_,.nil]|@cons p x _ _ h t u=>let#[z,q]:=u λp v=>hk p (QF _ v);let#[bs,y]:=HU (mV I (hk p QE)).1;rw[h.2.1]at y;exact#[_,.cons y q]
theorem pU{P:k5}{w:xb}{es:List eH}(hk:KV kvs vs)(u:Pairs (mC P w) es vs):(∃v,lr s.1 (es.map (·.key)) (kvs.map λp=>kD p.1) v)/\es.map (·.val)=vs.map (·.2):=by
 unfold KV at hk;induction hk generalizing es with
 |nil=>cases u;exact#[#[_,.nil],rfl]|cons h t e =>
  cases u with
  |cons a b c =>
   let#[#[v,q],k]:=e c;refine#[?_,by rw[QU,QU,k,b]];rw[QU,QU];rw[<- h.1]at a;rcases jB a with⟨i,t,z,y⟩| ⟨x,t,z,y⟩
   rw[z,y];exact#[_,.cons (.int i t) q];rw[z,y];exact#[_,.cons (.str x t) q]
theorem Mc{kvs:List KE}(r:KD kvs xs):oA (kvs.map (·.2.2)) (xs.map (·.2.2)):=by
 induction r with|nil=>exact .nil|cons h _ x=>exact .cons h.2.2 x
theorem Lc(r:KV kvs vs):oA (kvs.map (·.2)) (vs.map (·.2)):=by
 induction r with|nil=>exact .nil|cons h _ x=>exact .cons h.2 x
theorem F5(I:Inv X pins σ H s){b:Bool}{a:ko}{o:HO}{ks:List x2}{xs:LV}(h:H a=jr o)(q:DI X.K H b o ks xs):∃ob es ep us,s.1.get? a=jr ob/\ob.cls=.type "dict"/\ob.dict=kv/\ob.data=.dict es ep/\(a==y1)=kd /\
  (∃j,lr s.1 (es.toList.map (·.key)) ks j)/\oA xs us/\es.toList.map (·.val)=us:=by
 cases b with
 |true=>let#[e,kvs,rfl,rfl,rfl,hk,_]:=q;let#[_,v,f,x,ob,es,ep,k,y,w,u,_]:=BL I h hk;refine#[ob,es,ep,_,k,y.1,y.2.1,w,v,?_,Mc x,?_];rw[u,QR];exact P7 I x hk;rw[u,QR];rfl|false =>
  rcases q with⟨kvs,_,rfl,rfl,rfl,_⟩| ⟨e,rfl,rfl,rfl⟩
  rotate_left
  let#[_,v,f,x,ob,es,ep,k,y,w,u,_]:=BL I h λ_ z=>nomatch z;cases x;exact#[ob,es,ep,[],k,y.1,y.2.1,w,v,#[_,by rw[u];exact .nil],.nil,by rw[u];rfl];let#[_,v,vs,x,ob,es,ep,k,y,w,_,u,_]:=CV I h;let#[i,g]:=pU (s:=s) x u;exact#[ob,es,ep,_,k,y.1,y.2.1,w,v,i,Lc x,g]
theorem Rep.reads2(I:Inv X pins σ H s):(∀{x:V}{d:x2},Rep X.K H x d->∀u,JA x u->∃y,Reads s.1 u d y)/\∀{xs:LV}{ds:List x2},Reps X.K H xs ds->∀us,oA xs us->∃y,lr s.1 us ds y:=by
 refine Rep.both (P:=λx d=>∀u,JA x u->∃y,Reads s.1 u d y) (R:=λxs ds=>∀us,oA xs us->∃y,lr s.1 us ds y) (λu r=>?_) (λb u r=>?_) (λi u r=>?_) (λx u r=>?_) (λh q v u r=>?_) (λh q v u r=>?_) (λ{b a o w xs ds} h q r v u l=>?_) (λus r=>?_) λ_ _ p m us r=>?_;cases r;exact#[_,.none];cases r;exact#[_,.bool b];let#[t,rfl]:=r;exact#[_,.int i t];let#[t,rfl]:=r;exact#[_,.str x t];cases r;let#[g,k,#[o,n,e,c,_,d],_]:=I.list h;let#[y,z]:=v _ k;exact#[_,.list e c d (by simpa using z)];cases r;let#[g,k,#[o,e,c,n,d],_]:=I.tuple h;let#[y,z]:=v _ k;exact#[_,.tuple e c d (by simpa using z)];cases l;let#[ob,L,M,us,C,B,J,A,G,#[y,W],Z,Y]:=F5 I h q;let#[bs,f]:=v _ Z;have hl:w.9=ds.length:=by rw[q.len,Reps.length r]
 have F:(w.zip ds).map (λx=>x.1)=w:=WK (wx hl);have E:(w.zip ds).map (λx=>x.2)=ds:=WL (wx hl.symm);exact#[_,.dict C B A (by rw[F];exact W) (by rw[E,Y];exact f)];cases r;exact#[_,.nil];cases r with|cons r j=>let#[y,z]:=p _ r;let#[bs,f]:=m _ j;exact#[_,.cons z f]
theorem Rep.reads(I:Inv X pins σ H s){x:V}{d:x2}{u:kb}(h:Rep X.K H x d)(r:JA x u):∃y,Reads s.1 u d y:=(Rep.reads2 I).1 h u r
def RF(d:x2):Prop:=d.canLay0=kf/\d.depth<=64
noncomputable def rEq(K:QC)(neg:Bool):R2:=λx y H Q=>match x,y with
 | .int i,.int j=>Q (.bl (if neg then !decide (i=j) else decide (i=j))) H|.str a,.str b=>Q (.bl (if neg then !decide (a=b) else decide (a=b))) H|.bl a,.bl b=>Q (.bl (if neg then !decide (a=b) else decide (a=b))) H|x,y=>∃z h,Rep K H x z/\Rep K H y h/\RF z/\RF h/\Q (.bl (if neg then !PyData.eqv z h else Qn z h)) H
theorem op_eq(C:X.A.units+64<gp):yF X (vx .Eq) (rEq X.K kd):=by
 intro z s g H x y v u Q I o n h;have k:(∃f e,Rep X.K H x f/\Rep X.K H y e/\RF f/\RF e/\Q (.bl (if kd=kf then !PyData.eqv f e else Qn f e)) H)->ku (k0 X.prog X.w) X.A (vx .Eq v u) (EP X z g Q) X.xe s:=by rintro⟨f,e,m,l,⟨Z,B⟩,⟨Y,W⟩,q⟩;let#[E,r]:=m.reads I o;let#[bs,p]:=l.reads I n;exact SeqAt.compareEq_reads r p Z Y () #[.bl _,H,I,rfl,q]
 have sc:vd x y=kf->Q (.bl (decide (x=y))) H->ku (k0 X.prog X.w) X.A (vx .Eq v u) (EP X z g Q) X.xe s:=λm l=>_root_.L2.op_eq z s g H x y v u Q I o n #[m,l];cases x with
 |int i =>
  cases y with|int j=>exact sc rfl (by simpa[rEq]using h)|_=>exact k h
 |str a =>
  cases y with|str b=>exact sc rfl (by simpa[rEq]using h)|_=>exact k h
 |bl a =>
  cases y with|bl b=>exact sc rfl (by simpa[rEq]using h)|_=>exact k h
 |_=>exact k h
theorem op_ne(C:X.A.units+64<gp):yF X (vx .NotEq) (rEq X.K kf):=by
 intro z s g H x y v u Q I o n h;have k:(∃f e,Rep X.K H x f/\Rep X.K H y e/\RF f/\RF e/\Q (.bl (if kf=kf then !PyData.eqv f e else Qn f e)) H)->ku (k0 X.prog X.w) X.A (vx .NotEq v u) (EP X z g Q) X.xe s:=by rintro⟨f,e,m,l,⟨Z,B⟩,⟨Y,W⟩,q⟩;let#[E,r]:=m.reads I o;let#[bs,p]:=l.reads I n;exact SeqAt.compareNe_reads r p Z Y () #[.bl _,H,I,rfl,q]
 have sc:vd x y=kf->Q (.bl (!decide (x=y))) H->ku (k0 X.prog X.w) X.A (vx .NotEq v u) (EP X z g Q) X.xe s:=λm l=>_root_.L2.op_ne z s g H x y v u Q I o n #[m,l];cases x with
 |int i =>
  cases y with|int j=>exact sc rfl (by simpa[rEq]using h)|_=>exact k h
 |str a =>
  cases y with|str b=>exact sc rfl (by simpa[rEq]using h)|_=>exact k h
 |bl a =>
  cases y with|bl b=>exact sc rfl (by simpa[rEq]using h)|_=>exact k h
 |_=>exact k h
noncomputable def R3(f:Int->Int->Bool):R2:=λx y H Q=>match x,y with
 | .int i,.int j=>Q (.bl (f i j)) H|_,_=>False
theorem MR{w:dy}{f:Int->Int->Bool}(e:yF X (vx w) (Jd λi j=>.bl (f i j))):yF X (vx w) (R3 f):=by
 intro z s k H x y v u Q I b a h;cases x with
 |int i =>
  cases y with|int j=>exact e z s k H _ _ v u Q I b a #[i,j,rfl,rfl,h]|_=>exact Qg h
 |_=>exact Qg h
noncomputable def inStr(b a:Str):Bool:=match a.cps.toList with
 |[c]=>decide (c∈b.cps.toList)|_=>!(qF b a 0 b.9 1).isEmpty
theorem aV(b a:Str):inStr b a=!(qF b a 0 b.9 1).isEmpty:=by
 unfold inStr;split;rename_i c e;have x:a=#[(qG [c])]:=by
  let#[h]:=a;have:h=(qG [c]):=by apply WJ.mp;simpa using e
  rw[this]
 rw[x];exact(StrLaws.found_one b c).symm;rfl
def tU(K:QC)(neg:Bool):R2:=λx y H Q=>match y with
 | .str b=>match x with
  | .str a=>Q (.bl (if neg then !inStr b a else inStr b a)) H|_=>False
 | .ref p=>Gy K neg x (.ref p) H Q∨(∃d h,Rep K H x d/\(Rep K H (.ref p) (.list h)∨Rep K H (.ref p) (.tuple h))/\RF d/\RF (.list h)/\Q (.bl (if neg then !(h.any λy=>Qn y d) else h.any λy=>Qn y d)) H)∨(∃o,JT K H p x o/\Q (.bl (if neg then !o.isSome else o.isSome)) H)|_=>False
theorem gQ{ds:List x2}(h:RF (.list ds)):qr ds=kf/\wc ds<=63:=by let#[x,y]:=h;simp only[QAY]at x;simp only[QBI]at y;exact#[x,()]
theorem Yt(Y:X.A.units+66<gp):yF X (vx .In) (tU X.K kd):=by
 intro z s i H x y v u Q I e w h;cases y with
 |str b =>
  cases x with|str a=>refine v4 z s i H _ _ v u Q I e w #[a,b,rfl,rfl,?_];rw[<- aV];simpa[tU]using h|_=>exact Qg h
 |ref p =>
  rcases h with h|⟨d,Z,r,k,l,n,q⟩| ⟨o,g,q⟩
  rotate_left 2
  cases w;exact Cf Y I e g q;exact x4 z s i H _ _ v u Q I e w h;let#[B,j]:=r.reads I e;let#[m,W]:=gQ n;rcases k with k|k;let#[bs,f]:=k.reads I w;exact SeqAt.in_list_reads f j m l.1 () #[.bl _,H,I,rfl,q];let#[bs,f]:=k.reads I w;exact SeqAt.in_tuple_reads f j m l.1 () #[.bl _,H,I,rfl,q]
 |_=>exact Qg h
theorem U8(Y:X.A.units+66<gp):yF X (vx .NotIn) (tU X.K kf):=by
 intro z s i H x y v u Q I e w h;cases y with
 |str b =>
  cases x with|str a=>refine NR z s i H _ _ v u Q I e w #[a,b,rfl,rfl,?_];rw[<- aV];simpa[tU]using h|_=>exact Qg h
 |ref p =>
  rcases h with h|⟨d,Z,r,k,l,n,q⟩| ⟨o,g,q⟩
  rotate_left 2
  cases w;exact UX Y I e g q;exact OR z s i H _ _ v u Q I e w h;let#[B,j]:=r.reads I e;let#[m,W]:=gQ n;rcases k with k|k;let#[bs,f]:=k.reads I w;exact SeqAt.notIn_list_reads f j m l.1 () #[.bl _,H,I,rfl,q];let#[bs,f]:=k.reads I w;exact SeqAt.notIn_tuple_reads f j m l.1 () #[.bl _,H,I,rfl,q]
 |_=>exact Qg h
end
end
section
variable{X:Cx}
theorem rO:∀{bs:List Bool}{us:LW},oA (bs.map V.bl) us->∀(i:Nat) (v:kb),us[i]?=jr v->∃b,bs[i]?=jr b/\v=Value.bool b
 |[],_,.nil,i,v,h=>by simp at h|b::bs,_,.cons r t,0,v,h=>by simp at h;subst h;exact#[b,by simp,r]|b::bs,_,.cons r t,i+1,v,h=>by let#[c,y,x]:=rO (bs:=bs) t i v (by simpa using h);exact#[c,by simpa using y,x]
theorem P3(bs:List Bool):(Qo bs.9).all (λi=>bs.getD i kf)=bs.all id:=by
 rw[Qz,Q0,Q0];constructor;intro h b hb;let#[i,y,e]:=QBl hb;have:=h i (by simpa using y);simp[QBJ,y,e]at this;simpa using this;intro h i y;have x:i<bs.length:=by simpa using y
 have:=h bs[i] (wO x);simpa[QBJ,x]using this
theorem O3(bs:List Bool):(Qo bs.9).any (λi=>bs.getD i kd)=bs.any id:=by
 rw[Qz,wP,wP];constructor;rintro⟨i,x,e⟩;have h:i<bs.length:=by simpa using x
 exact#[bs[i],wO h,by simpa[QBJ,h]using e];rintro⟨b,hb,e⟩;let#[i,x,y]:=QBl hb;exact#[i,by simpa using x,by simp[QBJ,x,y];simpa using e]
def Es(K:QC):LV->Hp->VK->Prop:=λh H Q=>match h with
 |[.ref a]=>∃bs:List Bool,YC K H a (bs.map V.bl)/\Q (.bl (bs.all id)) H|_=>False
def As(K:QC):LV->Hp->VK->Prop:=λh H Q=>match h with
 |[.ref a]=>∃bs:List Bool,YC K H a (bs.map V.bl)/\Q (.bl (bs.any id)) H|_=>False
theorem Jb(l:X.calm=kf):XC X (.builtin "all") (Es X.K):=by
 intro k s Z H f W Q I r h
 match f,h with
 |[.ref a],#[bs,hq,q] =>
  let#[u,rfl,j]:=FH r;cases j;let#[x,w,p,C]:=I.list hq;have hl:=w.9;rw[QA]at hl;refine call_all_walk (WC p.isList ?_);have y:a<s.1.1.size:=by let#[o,n,e,_]:=p;exact QV e
  refine#[s.1.1.size,_,_,_,_,_,λi=>bs.getD i kf,rfl,QCl (A:=X.A.in1) (I.ok.hd l) s.1.1.size a (Qi y) x.toArray,#[#[_,QS _ rfl,rfl,rfl],?_],?_,?_];let#[o,n,e,c,d,sq]:=p;exact#[o,QH _ e,c,n,sq];intro i v B F G m z;let#[b,hb,rfl]:=rO w i v (by simpa using m);refine wH ?_;have:bs.getD i kf=b:=by simp[QBJ,hb]
  rw[<- this];exact z;intro E g hk;have Y:(Qo x.toArray.size).all (λi=>bs.getD i kf)=bs.all id:=by rw[QN,<- hl,P3]
  rw[Y];exact#[.bl _,H,I.kept (t':=g) (λb o e=>hk b o (by simp;exact Qi (QV e)) (QH _ e)),rfl,q]
theorem gb(l:X.calm=kf):XC X (.builtin "any") (As X.K):=by
 intro k s Z H f W Q I r h
 match f,h with
 |[.ref a],#[bs,hq,q] =>
  let#[u,rfl,j]:=FH r;cases j;let#[x,w,p,C]:=I.list hq;have hl:=w.9;rw[QA]at hl;refine call_any_walk (WC p.isList ?_);have y:a<s.1.1.size:=by let#[o,n,e,_]:=p;exact QV e
  refine#[s.1.1.size,_,_,_,_,_,λi=>bs.getD i kd,rfl,QCl (A:=X.A.in1) (I.ok.hd l) s.1.1.size a (Qi y) x.toArray,#[#[_,QS _ rfl,rfl,rfl],?_],?_,?_];let#[o,n,e,c,d,sq]:=p;exact#[o,QH _ e,c,n,sq];intro i v B F G m z;let#[b,hb,rfl]:=rO w i v (by simpa using m);refine wH ?_;have:bs.getD i kd=b:=by simp[QBJ,hb]
  rw[<- this];exact z;intro E g hk;have Y:(Qo x.toArray.size).any (λi=>bs.getD i kd)=bs.any id:=by rw[QN,<- hl,O3]
  rw[Y];exact#[.bl _,H,I.kept (t':=g) (λb o e=>hk b o (by simp;exact Qi (QV e)) (QH _ e)),rfl,q]
def Ps(K:QC):LV->Hp->VK->Prop:=λy H Q=>(∃z,y=[.str z]/\z.9<=kn/\Q (.int z.9) H)∨(∃a x,y=[.ref a]/\(YC K H a x∨LD K H a x)/\Q (.int x.9) H)∨∃a,∃n:Nat,y=[.ref a]/\((∃h,H a=jr (.dK h)/\n=h.9)∨∃u,H a=jr (.dT u [])/\n=0)/\Q (.int n) H
theorem SY:XC X (.builtin "len") (λvs H Q=>∃a,∃n:Nat,vs=[.ref a]/\((∃kvs,H a=jr (.dK kvs)/\n=kvs.9)∨∃ep,H a=jr (.dT ep [])/\n=0)/\Q (.int n) H):=by
 intro k s Y H Z W Q I r h;let#[a,n,rfl,e,q]:=h;let#[u,rfl,f]:=FH r;cases f;have K:kn=16777216:=qA;rcases e with⟨kvs,e,rfl⟩| ⟨ep,e,rfl⟩
 let#[z,v,vs,y,i]:=I.hok a _ e;have hl:=qE y;exact p7 v i () #[.int kvs.9,H,I.tok _,#[_,by rw[hl]],q];let#[_,v,vs,pr,o,b,p,m,l,j,_]:=I.hok a _ e;cases pr;have z:b.toList=[]:=j;exact p7 (knd:=mC X.prog X.w) (kvs:=[]) v #[o,b,ep,p,m,l,λx g=>i3 (Array.mem_toList_iff.mpr g) (by rw[z];exact wv),by rw[z];exact .nil,Qx] (by decide) #[.int 0,H,I.tok _,#[_,rfl],q]
theorem db:XC X (.builtin "len") (Ps X.K):=λx s y H z u Q I r h=>h.elim (xT x s y H z u Q I r) λh=>h.elim (MJ x s y H z u Q I r) (SY x s y H z u Q I r)
def Fy(K:QC):V->Option Int->Option Int->Hp->VK->Prop:=λx h y H Q=>match x with
 | .str z=>z.9<=kn/\Q (.str (wz z h y)) H|.ref a=>Hs K (.ref a) h y H Q|_=>False
theorem Pk:xq X (Fy X.K):=by
 intro y s p H x v G E W C g Q I Y B Z m h;cases x with
 |str z =>
  let#[t,rfl]:=Y;let#[J,q]:=h;refine#["str",_,F.slot_str_getitem.lookup,QCk _ _ _,?_];have fin:∀l u:Option (Int×Tok),l.map (·.1)=W->u.map (·.1)=C->s.1.IsSlice g l u kv->ku (k0 X.prog X.w) X.A (sn (.str z t) (.ref g)) (EP X y p Q) X.xe s:=λl u M L n=>by refine wpAny_getItem_str_slice n rfl ?_;subst M L;exact post_val_or_str #[QW (Txt.slice_le z _ _) J,λN k=>#[.str (wz z _ _),H,I.tok k,#[_,rfl],q]]
  let#[o,b,hc,e]:=B;cases Z with
  |none =>
   cases m with|none=>exact fin kv kv rfl rfl #[o,b,hc,e]|int j f=>exact fin kv (jr (j,f)) rfl rfl #[o,b,hc,e]
  |int i r =>
   cases m with|none=>exact fin (jr (i,r)) kv rfl rfl #[o,b,hc,e]|int j f=>exact fin (jr (i,r)) (jr (j,f)) rfl rfl #[o,b,hc,e]
 |ref a=>exact jd y s p H _ v G E W C g Q I Y B Z m h|_=>exact Qg h
end
section
variable{h h':vu}{j:ko}{z:Src}{k:Nat}{xs:Array kb}
inductive Src where
 |l (a:ko)|t (a:ko)
def Src.adr:Src->ko
 | .l a=>a|.t a=>a
def kE(h:vu)(j:ko):Src->Nat->Prop
 | .l a,k=>h.IsListIter j a k|.t a,k=>h.IsTupleIter j a k
def SB(h:vu):Src->Array kb->Prop
 | .l a,xs=>h.IsList a xs|.t a,xs=>h.IsTuple a xs
theorem kE.keep(x:kE h j z k)(e:∀o,h.get? j=jr o->h'.get? j=jr o):kE h' j z k:=by
 cases z with|l a=>let#[o,u,y]:=x;exact#[o,e o u,y]|t a=>let#[o,u,y]:=x;exact#[o,e o u,y]
theorem kE.obj(x:kE h j z k):∃o,h.get? j=jr o/\∀v,o.data≠.cell v:=by
 cases z with|l a=>let#[o,u,w,y]:=x;exact#[o,u,λv q=>by rw[y]at q;cases q]|t a=>let#[o,u,w,y]:=x;exact#[o,u,λv q=>by rw[y]at q;cases q]
theorem SB.ext{b:ko}(x:SB h z xs)(e:QAE b h h')(n:z.adr≠b):SB h' z xs:=by
 cases z with|l a=>exact QCa.extBut x e n|t a=>exact Heap.IsTuple.extBut x e n
theorem SB.lt(x:SB h z xs):z.adr<h.1.size:=by
 cases z with|l a=>let#[o,y,_]:=x;exact QV y|t a=>let#[o,y,_]:=x;exact QV y
theorem kE.lt(x:kE h j z k):j<h.1.size:=by let#[o,y,_]:=x.obj;exact QV y
end
section
variable{prog:k5}{w:xb}{A:x0}{E:dC}{s:kt}
section
variable{j t:ko}{k:Nat}{xs:Array kb}{x:kb}{Q:dC}{z:Src}
theorem gn(p:s.1.IsTupleIter j t k)(pt:s.1.IsTuple t xs)(v:xs[k]?=jr x)
  (q:∀h',h'.IsTupleIter j t (k+1)->qa j s.1 h'->Q x { s with heap:=h' }):ku (k0 prog w) A (qX (.ref j)) Q E s:=by
 let#[ob,y,a,h]:=id p;let#[b,u,_,e,t3]:=pt;unfold qX;refine QD (qf (name:=Qa "__next__") p.typeIs qh (qR qh p.typeIs WW ?_ (WS _)));show ku _ _ (tE (.ref j) 0 >>= _) _ _ _;refine QD (WO y h (x:=.ref t) rfl ?_);show ku _ _ (if(kx t==j2)=kf then _ else _) _ _ _;rw[ii (show ¬ (kx t==j2)=kf from QG)];show ku _ _ (tE (.ref j) 1 >>= _) _ _ _;refine QD (WO y h (x:=.int k 0) rfl ?_);show ku _ _ (seqItems? (.ref t) >>= _) _ _ _;refine QD (Wq u t3 ?_);simp only[qb,v];refine QD (QAZ y h (by simp) (QL #[x,rfl,QL (q _ ?_ (qB ..))]));refine#[_,wU _ y (QBK (WX h _)),(QB9 ..).trans a,?_];rw[WX h];simp[hB]
theorem VX(u:A.handled=kv)(p:s.1.IsTupleIter j t k)(pt:s.1.IsTuple t xs)(b:xs[k]?=kv)
  (q:∀h' e,QAE j s.1 h'->(∃o,h'.get? e=jr o/\o.cls=.type "StopIteration")->E (.ref e) { s with heap:=h' }):ku (k0 prog w) A (qX (.ref j)) Q E s:=by
 let#[ob,y,i,h]:=id p;let#[f,v,_,g,t3]:=pt;unfold qX;refine QD (qf (name:=Qa "__next__") p.typeIs qh (qR qh p.typeIs WW ?_ (WS _)));show ku _ _ (tE (.ref j) 0 >>= _) _ _ _;refine QD (WO y h (x:=.ref t) rfl ?_);show ku _ _ (if(kx t==j2)=kf then _ else _) _ _ _;rw[ii (show ¬ (kx t==j2)=kf from QG)];show ku _ _ (tE (.ref j) 1 >>= _) _ _ _;refine QD (WO y h (x:=.int k 0) rfl ?_);show ku _ _ (seqItems? (.ref t) >>= _) _ _ _;refine QD (Wq v t3 ?_);simp only[qb,b];refine QD (QBU (QD (QAZ y h (by simp) ?_)));refine QD (m:=n7 (.type "StopIteration") []) ?_;simp only[n7,P0];refine QD (qM ?made (by size_fits));refine QD (m:=h8 _ _) (QCb (a:=j2) (by first|rfl | (rw[h8];rfl)) ?arg);refine qM ?made2 (by size_fits);simp only[tt];refine QD (QB0 ?_);first|rw[show A.in1.handled=kv from u]|rw[u]
 refine QD (QL (QCc (q _ _ (((qB ..).extBut.push _).push _) #[_,QS _ rfl,rfl])))
theorem Ie(p:kE s.1 j z k)(pt:SB s.1 z xs)(h:xs[k]?=jr x)
  (q:∀h',kE h' j z (k+1)->qa j s.1 h'->Q x { s with heap:=h' }):ku (k0 prog w) A (qX (.ref j)) Q E s:=by
 cases z with|l a=>exact wpAny_nextOf_list_item p pt h q|t a=>exact gn p pt h q
theorem v9(y:A.handled=kv)(p:kE s.1 j z k)(pt:SB s.1 z xs)(h:xs[k]?=kv)
  (q:∀h' e,QAE j s.1 h'->(∃o,h'.get? e=jr o/\o.cls=.type "StopIteration")->E (.ref e) { s with heap:=h' }):ku (k0 prog w) A (qX (.ref j)) Q E s:=by
 cases z with|l a=>exact wpAny_nextOf_list_end y p pt h q|t a=>exact VX y p pt h q
noncomputable def Src.it:Src->Obj
 | .l a=>{ cls:=.type "list_iterator",data:=.fields (qG [.ref a,.int 0 0]) }|.t a=>{ cls:=.type "tuple_iterator",data:=.fields (qG [.ref a,.int 0 0]) }
theorem uU(pt:SB s.1 z xs)(q:Q (.ref s.1.1.size) { s with heap:=s.1.push z.it }):ku (k0 prog w) A (l5 (.ref z.adr)) Q E s:=by
 cases z with|l a=>exact WC pt q|t a=>exact QB1 pt q
theorem Tc(h:vu)(z:Src):kE (h.push z.it) h.1.size z 0:=by
 cases z with|l a=>exact#[_,QS _ rfl,rfl,rfl]|t a=>exact#[_,QS _ rfl,rfl,rfl]
end
end
section
variable{prog:k5}{w:xb}{A:x0}{E:dC}{s:kt}
theorem Ak{h h':vu}{b:ko}{z:Src}{xs:Array kb}(x:SB h z xs)(e:qa b h h')(n:z.adr≠b):SB h' z xs:=x.ext e.extBut n
end
section
variable{X:Cx}{w:IB}{σ:St}{H:Hp}{s:kt}{h':vu}
theorem _root_.L2.Inv.turnedL{t':Nat}{ch:List ko}(I:Inv X w σ H s)(k:∀b o,b∉ch->s.1.get? b=jr o->h'.get? b=jr o)(f:∀b∈ch,vK X w H b):Inv X w σ H { s with heap:=h',toks:=t' }:=by
 have h:∀b u,H b=jr u->b∉ch:=λb u e z=>by rw[(f b z).1]at e;cases e
 have a:X.env.locals∉ch:=λz=>(f _ z).2.1 rfl;refine I.step (g':=s.gens) (d':=s.drawn) (ch:=ch) (λb hb=>?_) (λb o _ _ hc e _=>k b o hc e) (λb o _ _ hc e _=>#[o.slots,k b o hc e]) (λ_ _ _ _ n=>n)
  (λb o hc e=>#[o,k b o hc e]) (λ_ _ e=>e) (λ_ _ _ e=>e) (λ_ _ e=>e) (λm y=>?_) (λb u e=>?_) I.bare
 let#[_,l,_,j,i,g]:=f b hb;exact#[j,l,i,g];let#[o,p,Y,x,r]:=y;exact#[o,p,Y,k _ o a x,r];refine(I.hok b u e).stay (λc v hc q=>k c v ?_ q) (λ_ q=>q) λ_ _ q=>q;rcases hc with z|z;rw[z];exact h b u e;exact h c _ z
def e6(K:QC)(H:Hp):Src->LV->Prop
 | .l a,xs=>YC K H a xs|.t a,xs=>LD K H a xs
theorem _root_.L2.Inv.src(I:Inv X w σ H s){z:Src}{xs:LV}(h:e6 X.K H z xs):∃its:LW,oA xs its/\SB s.1 z its.toArray/\xs.9<=sizeLine:=by
 cases z with|l a=>let#[its,x,p,y]:=I.list h;exact#[its,x,p.isList,y]|t a=>let#[its,x,p,y]:=I.tuple h;exact#[its,x,p,y]
theorem _root_.L2.Inv.src_inj(I:Inv X w σ H s){z:Src}{xs x:LV}(h:e6 X.K H z xs)(h':e6 X.K H z x):xs=x:=by
 cases z with|l a=>exact I.list_inj h h'|t a=>exact I.tuple_inj h h'
theorem _root_.L2.Inv.pair{p:ko}{a b:kb}{x y:V}{t':Nat}(I:Inv X w σ H s)(k:∀b u,s.1.get? b=jr u->h'.get? b=jr u)(v:s.1.1.size<=p)(e:h'.get? p=jr { cls:=.type "tuple",data:=.seq (qG [a,b]) })(z:JA x a)(h:JA y b) :
  Inv X w σ (FA H p (.tup [x,y])) { s with heap:=h',toks:=t' } :=
 I.laid k v #[by rw[qA];show 2<=_;decide,[a,b],.cons z (.cons h .nil),_,e,rfl,_,rfl]
end
section
variable{prog:k5}{w:xb}{A:x0}{E:dC}{s:kt}
section
variable{it d:ko}{z:Obj}{es:Array eH}{i ep:Nat}{c u:kb}{Q:Option kb->kt->Prop}
theorem iD:W9 "dict_itemiterator"=true:=by decide +kernel
theorem sK(l:List String)(h:(l.contains "dict_itemiterator" || l.contains "object")=kd):(l.any λt=>[Value.type "dict_itemiterator",Value.type "object"].contains (.type t))=false:=by
 rw[List.any_eq_false];intro t x;rw[Bool.or_eq_false_iff]at h;have v:t≠"dict_itemiterator":=λe=>by subst e;rw[Qv.mpr x]at h;cases h.1
 have y:t≠"object":=λe=>by subst e;rw[Qv.mpr x]at h;cases h.2
 simp[v,y]
theorem k9{e:eH}
  (m:lj s.1 it d i es.size ep c u) (X:s.1.get? d=jr z) (B:z.data=.dict es ep) (I:es[i]?=jr e)
  (q:∀h',p8 h' it d (i+1) es.size ep e.key e.val s.1.1.size->h'.get? s.1.1.size=jr { cls:=.type "tuple",data:=.seq (qG [e.key,e.val]) } ->
   h'.1.size=s.1.1.size+1->(∀b o,b≠it->s.1.get? b=jr o->h'.get? b=jr o)->Q (jr (.ref s.1.1.size)) { s with heap:=h' }) :
  ku (k0 prog w) A (ln (.ref it)) Q E s:=by
 have F:s.TypeIs (.ref it) "dict_itemiterator":=#[_,m,rfl]
 show ku _ _ (bind _ _) _ _ _;refine QD (QAA (qf F qZ (qR qZ F Wt ?_ (Wm _))));show ku _ _ (bind _ _) _ _ _;refine QD (QL (QD (QD (QD (q0 F (QL (QD (QAa m rfl ?_))))))));rw[iD];show ku _ _ (if(kx d==j2)=kf then _ else _) _ _ _;rw[ii (show ¬ (kx d==j2)=kf from QG)];show ku _ _ (wX (.ref d) >>= _) _ _ _;refine QD (QL (QD (wI X B ?_)));rw[ii (show ¬ (((es.size:Nat):Int) != ((es.size:Nat):Int))=kf by simp)];refine QD (QL (QD (w4 X B ?_)));rw[ii (show ¬ (((ep:Nat):Int) != ((ep:Nat):Int))=kf by simp)];refine QL ?_;have J:(if((i:Nat):Int)<0 then kv else es[((i:Nat):Int).toNat]?)=jr e:=by rw[ii (),qb];exact I
 simp only[J];refine QD ?_;show ku _ _ (b8 (.ref it) >>= _) _ _ _;refine QD (q0 F (QL (QD (Wk F ?_))));rw[iD,i0 rfl];rw[show(List.any _ λt=>[Value.type "dict_itemiterator",Value.type "object"].contains (.type t))=kd from sK _ (by decide +kernel),ii QG];refine QD (wV m (by simp) λa h r=>?_);have h:lj a it d (i+1) es.size ep c u:=h;refine QD (qY ?_);have C:({ s with heap:=a }:kt).TypeIs (.ref it) "dict_itemiterator":=#[_,h,rfl]
 show ku _ _ (Builtin.Dict_items.isOneOf (.ref it) _ >>= _) _ _ _;refine QD (Wk C ?_);rw[sK _ (by decide +kernel),ii QG];refine QD (Wk C ?_);rw[sK _ (by decide +kernel),ii QG];show ku _ _ (P0 [e.key,e.val] >>= _) _ _ _;refine QD (QBe ?_);have p:a.1.size=s.1.1.size:=r.1;have y:lj (a.push { cls:=.type "tuple",data:=.seq (qG [e.key,e.val]) }) it d (i+1) es.size ep c u:=QH _ h;show ku _ _ (Builtin.Dict_items.ownedTupleIsFree (.ref it) >>= _) _ _ _;refine QD ?_;show ku _ _ (tE (.ref it) 0 >>= _) _ _ _;refine QD (WO y rfl (x:=.none) rfl (QL ?_));rw[i0 rfl];show ku _ _ (tE (.ref it) 6 >>= _) _ _ _;refine QD (WO y rfl (x:=c) rfl ?_);refine QD (WO y rfl (x:=u) rfl ?_);refine QD (wV y (by simp) λN K l=>?_);refine QD (wV K (by simp) λM W j=>?_);refine QD (wV W (by simp) λL Z g=>?_);refine QD (wV Z (by simp) λG Y f=>?_);refine QD (QCd (QL ?_));refine QL #[_,rfl,QL ?_];have k:it<a.1.size:=QV h;have pt:G.get? a.1.size=jr { cls:=.type "tuple",data:=.seq (qG [e.key,e.val]) } :=
  f.extBut _ _ (wR k) (g.extBut _ _ (wR k) (j.extBut _ _ (wR k) (l.extBut _ _ (wR k) (QS _ rfl))))
 have n:G.1.size=a.1.size+1:=by rw[f.1,g.1,j.1,l.1,WH]
 have v:p8 G it d (i+1) es.size ep e.key e.val a.1.size:=Y;rw[p]at pt n v;have:=q G v pt n λb o hb x=>f.extBut _ _ hb (g.extBut _ _ hb (j.extBut _ _ hb (l.extBut _ _ hb (QH _ (r.extBut _ _ hb x)))));show Q (jr (.ref a.1.size)) _;rw[p];exact this
theorem ER(f:A.handled=kv)
  (h:lj s.1 it d i es.size ep c u) (x:s.1.get? d=jr z) (y:z.data=.dict es ep) (g:es[i]?=kv)
  (q:∀h',QAE it s.1 h'->Q kv { s with heap:=h' }) :
  ku (k0 prog w) A (ln (.ref it)) Q E s:=by
 have v:s.TypeIs (.ref it) "dict_itemiterator":=#[_,h,rfl]
 show ku _ _ (bind _ _) _ _ _;refine QD (QAA (qf v qZ (qR qZ v Wt ?_ (Wm _))));show ku _ _ (bind _ _) _ _ _;refine QD (QL (QD (QD (QD (q0 v (QL (QD (QAa h rfl ?_))))))));rw[iD];show ku _ _ (if(kx d==j2)=kf then _ else _) _ _ _;rw[ii (show ¬ (kx d==j2)=kf from QG)];show ku _ _ (wX (.ref d) >>= _) _ _ _;refine QD (QL (QD (wI x y ?_)));rw[ii (show ¬ (((es.size:Nat):Int) != ((es.size:Nat):Int))=kf by simp)];refine QD (QL (QD (w4 x y ?_)));rw[ii (show ¬ (((ep:Nat):Int) != ((ep:Nat):Int))=kf by simp)];refine QL ?_;have j:(if((i:Nat):Int)<0 then kv else es[((i:Nat):Int).toNat]?)=none:=by rw[ii (),qb];exact g
 simp only[j];refine QD ?_;show ku _ _ (b8 (.ref it) >>= _) _ _ _;refine QD (q0 v (QL ?_));rw[iD,i0 rfl];refine QD (wV h (by simp) λl e k=>?_);refine QD (m:=n7 (.type "StopIteration") []) ?_;simp only[n7,P0];refine QD (qM ?made (by size_fits));refine QD (m:=h8 _ _) (QCb (a:=j2) (by first|rfl | (rw[h8];rfl)) ?arg);refine qM ?made2 (by size_fits);simp only[tt];refine QD (QB0 ?_);first|rw[show A.in1.handled=kv from f]|rw[f]
 refine QD (QL (QCc ?_));refine QD (Wx (T:="StopIteration") (b:=kf) #[_,QS _ rfl,rfl] (by kernel_rfl) ?_);rw[i0 rfl];exact QL (q _ ((k.extBut.push _).push _))
theorem ua{v:ko}{Q:dC}(hv:s.1.IsItemsView v d)(h:s.1.get? d=jr z)(x:z.data=.dict es ep)
  (q:Q (.ref s.1.1.size) { s with heap:=s.1.push { cls:=.type "dict_itemiterator",data:=.fields (qG [.none,.bool kd,.ref d,.int 0 0,.int es.size 0,.int ep 0,.none,.none]) } }) :
  ku (k0 prog w) A (l5 (.ref v)) Q E s:=by
 have a:=Heap.IsItemsView.typeIs hv;let#[u,y,b,k]:=id hv;refine QCA a QA5 (qR QA5 a F.entry_dict_items_iter ?_ (F.args_dict_items_iter_1 _));show ku _ _ (bind _ _) _ _ _;refine QD (QL (QD ?_));show ku _ _ (bind _ _) _ _ _;refine QD (WO y k rfl (QL (QD ?_)));show ku _ _ (bind _ _) _ _ _;refine QD (wI h x (QD (w4 h x ?_)));simp only[iD,if_true];refine qM (QL #[_,rfl,"dict_itemiterator",_,#[_,QS _ rfl,rfl],qZ.lookup,q]) (show _<=kn+2 by simp[Builtin.Dict_items.ownedTupleFields,qA])
theorem TY{Q:dC}(h:s.1.get? d=jr z)(x:z.cls=.type "dict")(v:(d==y1)=kd)
  (q:Q (.ref s.1.1.size) { s with heap:=s.1.push { cls:=.type "dict_items",data:=.fields (qG [.ref d]) } }):ku (k0 prog w) A (Er (.builtin "dict.items") [.ref d]) Q E s:=by
 have y:s.TypeIs (.ref d) "dict":=#[_,h,x]
 refine qR F.slot_dict_items y F.entry_dict_items ?_ (F.args_dict_items_1 _);show ku _ _ (bind _ _) _ _ _;refine QD ?_;show ku _ _ (bind _ _) _ _ _;refine QD (w6 y ?_);refine QL ?_;show ku _ _ ((if(d==y1)=kf then _ else _) >>= _) _ _ _;rw[v,ii QG];exact QD (QL (QD (qM (QL #[_,rfl,q]) (show _<=kn+2 by simp[qA]))))
theorem u3{r:Type}[DecidableEq r]{knd:th prog w r}{d a:ko}{xs:List (r×ko×kb)}{k:r}{v:kb}{Q:dC}(W:knd.room A)(b:knd.is s.1 k a)(B:s.1.DictOfH knd d xs)(hsz:xs.9<=kn)
  (F:∀p,lb xs k=jr p->Q p.2 { s with toks:=s.toks+knd.draws k })
  (C:lb xs k=kv->∀h',h'.DictOfH knd d (tj xs k a v)->qa d s.1 h'->Q v { s with heap:=h',toks:=s.toks+knd.draws k }) :
  ku (k0 prog w) A (pd d (.ref a) v) Q E s:=by
 let#[o,es,ep,l,hc,g,X,q,Y]:=id B;have G:es.size=xs.length:=by have:=o9 qO X;simpa using this
 unfold pd;refine qY (QD (knd.pyHash W b (QD (wpAny_dictFind_heap W b l g X q Y (λn=>?_) λj p K=>?_))));have h:=atKey_none_of_get n;have m:=not_mem_keys_of_get n;refine QD (QBU (QD (wpAny_updateDictKeys l g (QL (C h _ ?_ (qB ..))) () (by simp))));refine#[_,_,ep+1,wU _ l (Obj.isFreed_of_dict (QBX g _)),Obj.ExactDict.mapDictKeys hc _,QBX g _,?_,?_,?_];rw[QCe h];simp[X,fy];rw[QCe h];intro x f;rcases Qf.mp f with f|f;exact knd.keeps (q x f) l g (qB ..);rw[QI.mp f];exact knd.keeps b l g (qB ..);rw[QCe h,QT];exact qT.mpr #[Y,by simp,λx f y Z e=>by rw[QU,wT,QI]at Z;rw[e,Z]at f;exact m f];have h:=atKey_of_get Y K;have I:es[j]?=jr (fy knd (k,p)):=by
  have:es.toList[j]?=jr (fy knd (k,p)):=by rw[X,Qc,K];rfl
  simpa using this
 refine QD (wI l g ?_);rw[I];exact QD (QBU (QL (F p h)))
theorem uW{x:Type}[DecidableEq x]{knd:th prog w x}{d a:ko}{xs:List (x×ko×kb)}{k:x}{v:kb}{Q:dC}(e:knd.room A.in1)(h:knd.is s.1 k a)(y:s.1.DictOfH knd d xs)(hsz:xs.9<=kn)(j:(d==y1)=kd)
  (m:∀p,lb xs k=jr p->Q p.2 { s with toks:=s.toks+knd.draws k })
  (l:lb xs k=kv->∀h',h'.DictOfH knd d (tj xs k a v)->qa d s.1 h'->Q v { s with heap:=h',toks:=s.toks+knd.draws k }) :
  ku (k0 prog w) A (Er (.builtin "dict.setdefault") [.ref d,.ref a,v]) Q E s:=by
 have b:s.TypeIs (.ref d) "dict":=Heap.DictOfH.typeIs y;refine qR F.slot_dict_setdefault b F.entry_dict_setdefault ?_ (F.args_dict_setdefault_3 _ _ _);show ku _ _ (bind _ _) _ _ _;refine QD ?_;show ku _ _ (bind _ _) _ _ _;refine QD (w6 b ?_);refine QL ?_;show ku _ _ (if(d==y1)=kf then _ else _) _ _ _;rw[j,ii QG];exact QD (u3 e h y hsz (λp f=>QL #[_,rfl,m p f]) λg h' o n=>QL #[_,rfl,l g h' o n])
end
end
def fM(K:QC):V->LV->Hp->VK->Prop:=λx z H Q=>∃a b v w h k,x=.ref a/\z=[.ref b,v]/\H a=jr (.dT w h)/\IG K H h/\BP K H b k/\h.9<kn /\
   (∀u,JH h k=jr u->Q u H)/\(JH h k=kv->∀y,Q v (FA H a (.dT y (vN h k b v))))
theorem R4{X:Cx}(R:X.A.units+66<gp):jc X "dict.setdefault" (fM X.K):=by
 intro m s L H x N v P Q I o r h;let#[a,b,y,ep,f,k,rfl,rfl,e,hk,F,l,Z,Y]:=h;cases o;let#[u,O,rfl,q,g]:=Lg r;cases q;let#[W,n,M,w,G]:=BL I e hk;have hl:(vN f k b y).9<=sizeLine:=by have:=cV f k b y;omega
 refine uW (rJ ()) (mV I F) G (by rw[<- qE w];exact W) n (λp C=>?_) λE S j B=>?_;have z:=w.val k;rw[C]at z;cases ev:JH f k with|none=>rw[ev]at z;exact(show False from z).elim|some u=>rw[ev]at z;exact#[u,H,I.tok _,z,Z u ev]
 have z:=w.val k;rw[E]at z;cases ev:JH f k with|some u=>rw[ev]at z;exact(show False from z).elim|none=>let#[i,J]:=uO (t':=_) I (by rw[e];exact True.intro) n hl (w.put k b g) j B;exact#[y,_,J,g,Y ev i]
def jBX(ep n:Nat)(a:ko):It :=
  #[λi H=>∃h p,H a=jr (.dT ep h)/\h.9=n/\h[i]?=jr p,
   λi H v x=>∃q p,H q=kv/\v=.ref q/\x=FA H q (.tup [.ref p.2.1,p.2.2])/\∀h,H a=jr (.dT ep h)->h[i]?=jr p,
   λi H=>∃h,H a=jr (.dT ep h)/\h.9=n/\n<=i]
theorem xI{α h:Type}{R:α->h->Prop}:∀{l:List α}{m:List h}{i:Nat}{x:α},xo R l m->l[i]?=jr x->∃y,m[i]?=jr y/\R x y
 |_,_,i,_,.nil,e=>by simp at e|_,_,0,_,.cons r _,e=>by simp at e;subst e;exact#[_,rfl,r]|_,_,i+1,x,.cons _ t,e=>by let#[y,u,z]:=xI (i:=i) (x:=x) t (by simpa using e);exact#[y,by simpa using u,z]
theorem TW{P:k5}{w:xb}{K:QC}{es:List Expr}{kk:Nat}{pp:Pos}{a it:ko}{n ep:Nat}:Turn0 P w K (.Tuple es kk pp) (jBX ep n a) [it] it (λi h=>∃ok Y,lj h it a i n ep ok Y) where
 mem:=by simp
 obj:=λi h st b hb=>by let#[ok,Y,st]:=st;rw[QI]at hb;subst hb;exact#[_,st,λv q=>by cases(show Data.fields _=Data.cell v from q)]
 keep:=λi h h' st k=>by let#[ok,Y,st]:=st;exact#[ok,Y,k it (by simp) _ st]
 item:=by
  intro X J C L hc i Z s σ H E I A st G;subst J C L;let#[j,p,e,F,ep]:=G;let#[ok,Y,st]:=st;let#[z,y,xs,r,o,u,N,h2,M,B,h5]:=(show fB X.prog X.w H s.1 a (.dT _ j) from I.hok a _ e)
  have l:u.size=n:=by have:=o9 qO B;rw[QA,Q2]at this;rw[this,<- qE r,F]
  let#[q,hq,rq]:=xI r ep;have he:u[i]?=jr (fy (cF X.prog X.w) q):=by
   have:u.toList[i]?=jr (fy (cF X.prog X.w) q):=by rw[B,Qc,hq];rfl
   simpa using this
  subst l;refine k9 st N M he λh' b1 b3 b4 b5=>#[_,rfl,wpAny_letOwnedTupleGo_items b1 λm c1 sb=>?_]
  have hp:=I.hok.fresh (QY s.1.1.size);have W:it<s.1.1.size:=QV st;have g:∀b∈[it],b<s.1.1.size:=λb hb=>by rw[QI]at hb;subst hb;exact W
  have kept:∀b o,b∉[it]->s.1.get? b=jr o->m.get? b=jr o:=λb o hb q=>by rw[QI]at hb;exact(sb.2 b hb).trans (b5 b o hb q)
  have f:m.get? s.1.1.size=jr { cls:=.type "tuple",data:=.seq (qG [.ref q.2.1,q.2.2]) }:=(sb.2 _ (wR W)).trans b3;have I1:=I.pair (x:=.ref p.2.1) (y:=p.2.2) (h':=s.1.push { cls:=.type "tuple",data:=.seq (qG [.ref q.2.1,q.2.2]) }) (t':=s.toks) (λb o e=>QH _ e) (QY _) (QS _ rfl) (show kx q.2.1=kx p.2.1 by rw[rq.2.1]) rq.2.2;have I2:=I1.turnedL (h':=m) (t':=s.toks) (ch:=[it]) (λb o hb e=>by
   rcases QBY e with⟨q1,q2⟩| q;subst q1 q2;exact f;exact kept b o hb q) λb hb=>by
   let#[f0,S,f2,R,Q,O]:=A b hb;exact#[by rw[uA (Qi (g b hb))];exact f0,S,f2,R,Q,O]
  refine#[.ref s.1.1.size,_,I2,rfl,#[s.1.1.size,p,hp,rfl,rfl,λkvs' g1=>?_],#[_,_,c1],λb hb=>?_];rw[e]at g1;cases g1;exact ep;rw[uA (Qi (g b hb))];exact(A b hb).1
 done:=by
  intro X J C L hc i Z s σ H E I A st G;subst J C L;let#[j,e,F,ep]:=G;let#[ok,Y,st]:=st;let#[z,y,xs,r,o,u,N,h2,M,B,h5]:=(show fB X.prog X.w H s.1 a (.dT _ j) from I.hok a _ e)
  have l:u.size=n:=by have:=o9 qO B;rw[QA,Q2]at this;rw[this,<- qE r,F]
  subst l;let#[f0,S,f2,R,Q,O]:=A it (by simp);exact ER (I.ok.hd hc) st N M (QA6 ep) λh' eb=>#[rfl,I.turned (t':=s.toks) (λb o hb e=>eb b o hb e) f0 S R Q O]
section
variable{prog:k5}{w:xb}{A:x0}{E:dC}{s:kt}
section
variable{d it:ko}{h:Obj}{es:Array eH}{ep i:Nat}{Q:Option kb->kt->Prop}
theorem lH:W9 "dict_keyiterator"=false:=by decide +kernel
theorem Uf{Q:dC}(u:(d==y1)=kd)(x:s.1.get? d=jr h)(hc:h.cls=.type "dict")(y:h.data=.dict es ep)
  (q:Q (.ref s.1.1.size) { s with heap:=s.1.push { cls:=.type "dict_keyiterator",data:=.fields (qG [.ref d,.int 0 0,.int es.size 0,.int ep 0]) } }) :
  ku (k0 prog w) A (l5 (.ref d)) Q E s:=by
 have z:s.TypeIs (.ref d) "dict":=#[_,x,hc]
 refine QCA z QCU (qR QCU z F.entry_dict_iter ?body (F.args_dict_iter_1 _))
 case body =>
  show ku _ _ (bind _ _) _ _ _;refine QD ?sl
  case sl =>
   show ku _ _ (bind _ _) _ _ _;refine QD (w6 z (QL ?go))
   case go =>
    have e:Wu d=ti PUnit.unit:=by unfold Wu;rw[u];rfl
    show ku _ _ (Wu d >>= _) _ _ _;rw[e];refine QD (QL (QD (wI x y (QD (w4 x y (QD (qM (QL #[_,rfl,"dict_keyiterator",_,#[_,QS _ rfl,rfl],qd.lookup,?_]))))))));simpa[hB]using q
theorem Ee{e:eH}
  (u:s.1.IsKeyIter it d i es.size ep) (z:s.1.get? d=jr h) (v:h.data=.dict es ep) (f:es[i]?=jr e)
  (q:∀h',h'.IsKeyIter it d (i+1) es.size ep->qa it s.1 h'->Q (jr e.key) { s with heap:=h' }) :
  ku (k0 prog w) A (ln (.ref it)) Q E s:=by
 have k:=u.typeIs;let#[j,a,b,x]:=id u;show ku _ _ (bind _ _) _ _ _;refine QD (QAA (qf k qd (qR qd k Wz ?_ (Wv _))));show ku _ _ (bind _ _) _ _ _;refine QD (QL (QD (QD (QD (wB k (QL (QD (QAa a x ?_))))))));rw[lH];show ku _ _ (if(kx d==j2)=kf then _ else _) _ _ _;rw[ii (show ¬ (kx d==j2)=kf from QG)];show ku _ _ (wX (.ref d) >>= _) _ _ _;refine QD (QL (QD (wI z v ?_)));rw[ii (show ¬ (((es.size:Nat):Int) != ((es.size:Nat):Int))=kf by simp)];refine QD (QL (QD (w4 z v ?_)));rw[ii (show ¬ (((ep:Nat):Int) != ((ep:Nat):Int))=kf by simp)];refine QL ?_;have g:(if((i:Nat):Int)<0 then kv else es[((i:Nat):Int).toNat]?)=jr e:=by rw[ii (),qb];exact f
 simp only[g];refine QD ?_;show ku _ _ (b8 (.ref it) >>= _) _ _ _;refine QD (wB k (QL (QD (QBL k ?_))));rw[lH];show ku _ _ (setField (.ref it) 1 _ >>= _) _ _ _;refine QD (QAZ a x (by simp) ?_);have y:(s.1.update it (Obj.mapFields (·.setIfInBounds 1 (hB ((i:Int)+1))))).IsKeyIter it d (i+1) es.size ep :=
  #[_,wU _ a (QBK (WX x _)),(QB9 ..).trans b,by rw[WX x];simp[hB]]
 refine QD (qY (QD (QBL (s:={ s with heap:=s.1.update it (Obj.mapFields (·.setIfInBounds 1 (hB ((i:Int)+1)))) }) y.typeIs ?_)));show ku _ _ (ti e.key) _ _ _;exact QL (QL #[_,rfl,QL (q _ y (qB ..))])
theorem CU(e:A.handled=kv)
  (y:s.1.IsKeyIter it d i es.size ep) (x:s.1.get? d=jr h) (u:h.data=.dict es ep) (f:es[i]?=kv)
  (q:∀h',QAE it s.1 h'->Q kv { s with heap:=h' }) :
  ku (k0 prog w) A (ln (.ref it)) Q E s:=by
 have v:=y.typeIs;let#[l,k,g,z]:=id y;show ku _ _ (bind _ _) _ _ _;refine QD (QAA (qf v qd (qR qd v Wz ?_ (Wv _))));show ku _ _ (bind _ _) _ _ _;refine QD (QL (QD (QD (QD (wB v (QL (QD (QAa k z ?_))))))));rw[lH];show ku _ _ (if(kx d==j2)=kf then _ else _) _ _ _;rw[ii (show ¬ (kx d==j2)=kf from QG)];show ku _ _ (wX (.ref d) >>= _) _ _ _;refine QD (QL (QD (wI x u ?_)));rw[ii (show ¬ (((es.size:Nat):Int) != ((es.size:Nat):Int))=kf by simp)];refine QD (QL (QD (w4 x u ?_)));rw[ii (show ¬ (((ep:Nat):Int) != ((ep:Nat):Int))=kf by simp)];refine QL ?_;have j:(if((i:Nat):Int)<0 then kv else es[((i:Nat):Int).toNat]?)=none:=by rw[ii (),qb];exact f
 simp only[j];refine QD ?_;show ku _ _ (b8 (.ref it) >>= _) _ _ _;refine QD (wB v (QL ?_));rw[lH];show ku _ _ (setField (.ref it) 0 .none >>= _) _ _ _;refine QD (QAZ k z (by simp) ?_);refine QD (m:=n7 (.type "StopIteration") []) ?_;simp only[n7,P0];refine QD (qM ?made (by size_fits));refine QD (m:=h8 _ _) (QCb (a:=j2) (by first|rfl | (rw[h8];rfl)) ?arg);refine qM ?made2 (by size_fits);simp only[tt];refine QD (QB0 ?_);first|rw[show A.in1.handled=kv from e]|rw[e]
 refine QD (QL (QCc ?_));refine QD (Wx (T:="StopIteration") (b:=kf) #[_,QS _ rfl,rfl] (by kernel_rfl) ?_);rw[i0 rfl];exact QL (q _ (((qB ..).extBut.push _).push _))
end
end
noncomputable def jBZ(ep n:Nat)(a:ko):It :=
  #[λi H=>∃h p,H a=jr (.dT ep h)/\h.9=n/\h[i]?=jr p,
   λi H v x=>x=H/\∀h,H a=jr (.dT ep h)->∃p,h[i]?=jr p/\v=.ref p.2.1,
   λi H=>∃h,H a=jr (.dT ep h)/\h.9=n/\n<=i]
theorem V3{P:k5}{w:xb}{K:QC}{S:Expr}{a it:ko}{n ep:Nat}:Turn P w K S (jBZ ep n a) [it] it (λi h=>h.IsKeyIter it a i n ep) where
 mem:=by simp
 obj:=λi h st b hb=>by let#[o,e,c,d]:=st;rw[QI]at hb;subst hb;exact#[o,e,λv z=>by rw[d]at z;cases z]
 keep:=λi h Y st k=>st.at λo e=>k it (by simp) o e
 item:=by
  intro X B Z C hc i u s Q H E I l st A;subst B Z C;let#[f,p,e,W,ep]:=A;let#[z,y,R,r,o,x,G,h2,F,m,h5]:=(show fB X.prog X.w H s.1 a (.dT _ f) from I.hok a _ e)
  have g:x.size=n:=by have:=o9 qO m;rw[QA,Q2]at this;rw[this,<- qE r,W]
  let#[q,hq,rq]:=xI r ep;have he:x[i]?=jr (fy (cF X.prog X.w) q):=by
   have:x.toList[i]?=jr (fy (cF X.prog X.w) q):=by rw[m,Qc,hq];rfl
   simpa using this
  subst g;let#[O,N,f2,M,L,J]:=l it (by simp);refine Ee st G F he λY j sb=>?_;have I1:Inv X u Q H { s with heap:=Y }:=I.turned (t':=s.toks) (λb o hb e=>(sb.2 b hb).trans e) O N M L J;let#[oi,ei,ci,di]:=id j;exact#[_,rfl,go_of (s:={ s with heap:=Y }) ei ci di (by decide) #[.ref p.2.1,H,I1,show kx q.2.1=kx p.2.1 by rw[rq.2.1],#[rfl,λks hk=>by rw[e]at hk;cases hk;exact#[p,ep,rfl]],j,λb hb=>(l b hb).1]]
 done:=by
  intro X B Z C hc i u s Q H E I l st A;subst B Z C;let#[f,e,W,ep]:=A;let#[z,y,R,r,o,x,G,h2,F,m,h5]:=(show fB X.prog X.w H s.1 a (.dT _ f) from I.hok a _ e)
  have g:x.size=n:=by have:=o9 qO m;rw[QA,Q2]at this;rw[this,<- qE r,W]
  subst g;let#[O,N,f2,M,L,J]:=l it (by simp);exact CU (I.ok.hd hc) st G F (QA6 ep) λY eb=>#[rfl,I.turned (t':=s.toks) (λb o hb e=>eb b o hb e) O N M L J]
 self:=λ_ _ _ _ _ st h=>wpAny_pyIter_keyiter st h
open PySem.SeqAt
open AutoSeq1 (wpAny_loadPart')
open MeetsSeq MeetsSeq2 MeetsSeq3
noncomputable def Uq:LS->LS->Bool
 |[],[]=>kd|[],_::_=>kf|_::_,[]=>kd|x::a,y::b=>if(x==y)=kf then Uq a b else decide (x.cps.toList<y.cps.toList)
theorem vR{vs:LW}{z:LS}(h:aj vs z):vs.9=z.9/\∀(i:Nat) (x:Str),z[i]?=jr x->∃t:Tok,vs[i]?=jr (Value.str x t):=by
 induction h with
 |nil=>exact#[rfl,λi x e=>by simp at e]|cons y t _ u =>
  refine#[by rw[QM,QM,u.1],λi x e=>?_];cases i with|zero=>simp at e;subst e;exact#[t,rfl]|succ i=>simp at e;simpa using u.2 i x e
theorem z5(l b:ko)(v x:Array kb)(n B:Nat)(L X:Option ko)(W o:Array (Option kb))(a ts:LS)(I:aj v.toList a)(G:aj x.toList ts)(k:Nat) :
  ∀i:Nat,v.size - i=k->i<=v.size->i<=x.size->Meets (Builtin.«list.__eq__.loop» #[[.ref l,.ref b,hB i,hB 0],[]])
   (λA R s=>s.1.get? l=jr { cls:=.type "list",dict:=L,data:=.seq v n,slots:=W }/\s.1.get? b=jr { cls:=.type "list",dict:=X,data:=.seq x B,slots:=o } /\
    R (.ok (.ret (.bool (Uq (a.drop i) (ts.drop i))))) s):=by
 let#[S,Q]:=vR I;let#[O,N]:=vR G;rw[Q2]at S O;induction k with
 |zero =>
  intro i hk F p e w A R s h;let#[E,g,d,Z,K]:=s;let#[hl,hb,h]:=h;wp_walk using qK hl,qK hb;have m:v[((i:Nat):Int).toNat]?=none:=by simp;omega
  rw[m];wp_walk using qK hl,qK hb;have Y:a.drop i=[]:=by simp;omega
  rw[Y]at h;have f:Uq [] (ts.drop i)=decide (v.size<x.size):=by
   cases z:ts.drop i with
   |nil =>
    have:ts.9<=i:=by simpa using z
    exact(dF ()).symm
   |cons y r =>
    have:i<ts.length:=by by_cases c:i<ts.9;exact c;rw[Wl ()]at z;cases z
    exact(dT ()).symm
  rw[f]at h;exact h
 |succ k C =>
  intro i hk F p e w A R s h;let#[E,g,d,Z,K]:=s;let#[hl,hb,h]:=h;wp_walk using qK hl,qK hb;have j:i<a.length:=()
  let#[t,ev]:=Q i a[i] (Qk j);have m:v[((i:Nat):Int).toNat]?=jr (.str a[i] t):=by simpa using ev
  rw[m];have Y:a.drop i=a[i]::a.drop (i+1):=QAb j;rw[Y]at h;by_cases c:i<ts.9;let#[u,J]:=N i ts[i] (Qk c);have f:x[((i:Nat):Int).toNat]?=jr (.str ts[i] u):=by simpa using J
  have M:ts.drop i=ts[i]::ts.drop (i+1):=QAb c;rw[M]at h;have h:R (.ok (.ret (.bool (if(a[i]==ts[i])=kf then Uq (a.drop (i+1)) (ts.drop (i+1)) else decide (a[i].cps.toList<ts[i].cps.toList))))) _:=h;rw[f];refine QD (EqAt.str_str a[i] t ts[i] u e w _ _ ?_);have hc:((i:Int)+1)=((i+1:Nat):Int):=by push_cast;rfl
  cases q:(a[i]==ts[i]) with|true=>rw[q,i0 rfl]at h;wp_walk;rw[hc];exact#[WY plain_eq_loop _,w8 entry_eq_loop (by rw[wC plain_eq_loop _];exact C (i+1) () () () e w A R _ #[hl,hb,h])]|false=>rw[q,ii QG]at h;wp_walk using qK hl,qK hb;rw[m,f];show ku _ _ (vx .Lt (.str a[i] t) (.str ts[i] u) >>= _) _ _ _;refine QD (PySem.P.lt_str ?_);exact QL h
  have f:x[((i:Nat):Int).toNat]?=none:=by simp;omega
  rw[f];wp_walk using qK hl,qK hb;rw[Wl (show ts.9<=i by omega)]at h;have:decide (v.size<x.size)=false:=dF ();have h:R (.ok (.ret (.bool kd))) _:=h;rw[<- this]at h;exact h
theorem x5(l b:ko)(y x:Array kb)(n e:Nat)(f v:Option ko)(a z:Array (Option kb))(k ts:LS)(j:aj y.toList k)(i:aj x.toList ts) :
  Meets (Builtin.«list.__lt__» #[[.ref l,.ref b],[]])
   (λA R s=>s.1.get? l=jr { cls:=.type "list",dict:=f,data:=.seq y n,slots:=a }/\s.1.get? b=jr { cls:=.type "list",dict:=v,data:=.seq x e,slots:=z } /\
    R (.ok (.ret (.bool (Uq k ts)))) s):=by
 intro u w A R s h;let#[p,g,d,m,o]:=s;let#[hl,hb,h]:=h;have q:=AutoSeq1.sub_list_list;wp_walk using qK hl,qK hb;exact#[WY plain_eq_loop _,w8 entry_eq_loop (by rw[wC plain_eq_loop _];exact z5 l b y x n e f v a z k ts j i _ 0 rfl (Qq _) (Qq _) u w A R _ #[hl,hb,h])]
section
variable{prog:k5}{w:xb}{A:x0}{E:dC}{s:kt}
theorem eX{l b:ko}{y x:Array kb}{n a:Nat}{e u:Option ko}{k z:Array (Option kb)}{v ts:LS}{Q:Bool->kt->Prop}(f:A.units<gp)(hl:s.1.get? l=jr { cls:=.type "list",dict:=e,data:=.seq y n,slots:=k })(hb:s.1.get? b=jr { cls:=.type "list",dict:=u,data:=.seq x a,slots:=z })
  (i:aj y.toList v) (g:aj x.toList ts) (h:Q (Uq v ts) s):ku (k0 prog w) A (keyLt' Ar (.ref l) (.ref b)) Q E s:=by
 rw[keyLt'_oneType,oneLt'_eq];simp only[if_true];refine QD (wpAny_cRoomFor f (QD (wpAny_callSpecialIfBound?_slot (T:="list") #[_,hl,rfl] F.slot_list_lt ?_)));refine QBT F.slot_list_lt #[_,hl,rfl] F.entry_list_lt (F.args_list_lt_2 _ _) (x5 l b y x n a e u k z v ts i g) #[hl,hb,?_];exact wH h
end
end L2.L3
namespace L2.L3
open PySem PySem.Spec PyProof.Rows PySem.W
def vC{α:Type}(n:Nat)(P:α->Prop):KasT α->Prop
 | .ret a=>P a|.ask i j k=>i<n/\j<n/\∀b,vC n P (k b)
theorem vC.bnd{α x:Type}{n:Nat}{P:α->Prop}{R:x->Prop}{f:α->KasT x}(y:∀a,P a->vC n R (f a)):∀{t:KasT α},vC n P t->vC n R (t.bind f)
 | .ret a,h=>y a h|.ask i j k,#[h1,h2,h]=>#[h1,h2,λb=>vC.bnd y (h b)]
theorem vC.wp{α:Type}{n:Nat}{P:α->Prop}{x:Nat->Nat->(Bool->kt->Prop)->kt->Prop}{Q:α->kt->Prop}{s:kt}(y:∀i j,i<n->j<n->∀C:Bool->kt->Prop,(∀b,C b s)->x i j C s)(z:∀a,P a->Q a s):∀{t:KasT α},vC n P t->t.kasWp x Q s
 | .ret a,h=>z a h|.ask i j k,#[h1,h2,h]=>y i j h1 h2 _ λb=>vC.wp y z (h b)
def Pm(n:Nat)(p:Array Nat):Prop:=p.Perm (qG (Qo n))
section
variable{n:Nat}
section
variable{p:Array Nat}
theorem Pm.lt(h:Pm n p)(x:0<n)(i:Nat):p.getD i 0<n:=by
 by_cases c:i<p.size;have e:p.getD i 0=p[i]:=by simp[Array.getD,c]
 rw[e];have m:p[i]∈p.toList:=by simp
 have:=(qU.mp h).mem_iff.mp m;simpa using this;have e:p.getD i 0=0:=by simp[Array.getD,c]
 rw[e];exact x
theorem Pm.rev(h:Pm n p)(i j:Nat):Pm n (kas_rev p i j):=(mirror_perm _ _ _ _).trans h
theorem oT{p:Array Nat}(h:Pm n p)(x:0<n):∀(f m:Nat),vC n (λ_=>True) (kas_asc p f m)
 |0,m=>trivial|f+1,m=>#[h.lt x _,h.lt x _,λb=>by
  cases b with|true=>exact trivial|false=>exact oT h x f (m+1)]
theorem SJ(x:0<n):∀(f:Nat) {p:Array Nat}(h:Pm n p) (m q:Nat),vC n (λr=>Pm n r.1) (kas_desc f p m q)
 |0,p,h,m,q=>h|f+1,p,h,m,q=>#[h.lt x _,h.lt x _,λb=>by
  cases b with
  |true=>show vC n _ (if q > 0 then _ else _);split;exact SJ x f (h.rev _ _) _ _;exact SJ x f h _ _|false =>
   refine#[h.lt x _,h.lt x _,λb=>?_];cases b with|true=>exact h|false=>exact SJ x f h _ _]
theorem DQ(x:0<n)(h:Pm n p)(a b:Nat):vC n (λr=>Pm n r.2) (kas_tail3 a b p):=by refine vC.bnd (f:=λm=>.ret (m,kas_rev p 0 a)) (λm _=>?_) (oT (h.rev _ _) x _ _);exact h.rev _ _
theorem RJ(x:0<n)(h:Pm n p)(a b:Nat):vC n (λr=>Pm n r.2) (kas_descPart a b p):=by refine vC.bnd (λr y=>?_) (SJ x _ h _ _);split;exact DQ x (Pm.rev y _ _) _ _;exact DQ x y _ _
theorem k6(x:0<n)(h:Pm n p)(b:Nat):vC n (λr=>Pm n r.2) (kas_count b p):=by
 refine vC.bnd (λm _=>?_) (oT h x _ _);split;exact h;split
 ·refine#[h.lt x _,h.lt x _,λc=>?_]
  cases c with|true=>exact h|false=>exact RJ x (h.rev _ _) _ _
 exact RJ x h _ _
theorem vL(x:0<n){p:Array Nat}(h:Pm n p)(k:Nat):∀(f l r:Nat),vC n (λ_=>True) (kas_place p k f l r)
 |0,l,r=>trivial|f+1,l,r=>by
  show vC n _ (if l ≥ r then _ else _);split;exact trivial;refine#[h.lt x _,h.lt x _,λb=>?_];cases b with|true=>exact vL x h k f _ _|false=>exact vL x h k f _ _
theorem D2(x:0<n):∀(f:Nat) {p:Array Nat}(h:Pm n p) (k:Nat),vC n (Pm n) (kas_bin f p k)
 |0,p,h,k=>h|f+1,p,h,k=>vC.bnd (λl _=>D2 x f ((bubble_perm _ _ _).trans h) _) (vL x h _ _ _ _)
theorem KO(x:0<n):vC n (Pm n) (kas_sort n):=by refine vC.bnd (λr h=>?_) (k6 x (QCf _) _);split;exact D2 x _ h _;exact h
end
end
theorem vQ{α:Type}(vs:List α)(d:α):(Qo vs.9).map (λi=>vs.getD i d)=vs:=by apply wG;intro i;rw[Qc];by_cases c:i<vs.9;rw[WP c];simp[c];rw[qD (by simp;omega),qD ()];rfl
section
variable{prog:k5}{w:xb}{A:x0}{E:dC}{s:kt}
theorem Uu{M:Model}{vs:LW}{Q:SortKind->kt->Prop}(k:2<=vs.9)(z:∀v∈vs,s.TypeIs v "list")(h:Q Ar s):ku M A (keyKind' vs.toArray) Q E s:=by
 cases vs with
 |nil=>simp at k|cons v r =>
  rw[keyKind'_eq,QCB,map_eq_pure_bind];refine QD (QD (kas_mapM (r:=kv) _ (λu y e q=>?_) (QL ?_)));rw[kas_first_eq];exact QD (QAP (z u y) (QL q));rw[ii (by simp),ii (by simp),oneTypeOnly'_eq,QCB,map_eq_pure_bind];refine QD (QD (QD (kas_mapM (r:=.type "list") _ (λu y e q=>QAP (z u y) q) (QL ?_))));have b:((v::r).map λ_=>Value.type "list").toArray[0]?=jr (.type "list"):=by simp
  have a:(((v::r).map λ_=>Value.type "list").toArray.all λx=>x==Value.type "list")=true:=by simp only[List.all_toArray,QCL,Q0];intro _ _;rfl
  rw[b];simp only[a,if_true];exact QL (QL h)
theorem Hn{a:ko}{vs:LW}{n:Nat}{P:PySem.Fin->kt->Prop}(Y:s.1.get? a=jr (u0 "list" vs.toArray n))(K:vs.9<64)(S:∀v∈vs,∃b o,v=.ref b/\b≠a/\s.1.get? b=jr o/\o.cls=.type "list")
  (G:∀B:vu,(∀b o,b≠a->s.1.get? b=jr o->B.get? b=jr o)->∀x∈vs,∀y∈vs,∀C:Bool->kt->Prop,(∀k,C k { s with heap:=B })->ku (k0 prog w) A (keyLt' Ar x y) C (λ_ _=>False) { s with heap:=B })
  (k:∀out:LW,out.Perm vs->P (.done (.ret .none)) { s with heap:=sortedHeap s.1 a vs out.toArray }):ku (k0 prog w) A (Builtin.«list.sort» #[[.ref a],[]]) P E s:=by
 have ha:a<s.1.1.size:=QV Y;have J:=qB s.1 a (Q4 λ_=>(#[]:Array kb));obtain⟨Z,X⟩:∃Z,(s.1.update a (Q4 λ_=>(#[]:Array kb))).get? a=jr (u0 "list" #[] Z):=#[_,QAF Y λ_=>#[]]
 have r:(((s.1.update a (Q4 λ_=>(#[]:Array kb))).push (u0 "tuple" vs.toArray 0)).push (u0 "list" #[] 0)).get? a=jr (u0 "list" #[] Z):=QH _ (QH _ X);have kept:∀b o,b≠a->s.1.get? b=jr o->(((s.1.update a (Q4 λ_=>(#[]:Array kb))).push (u0 "tuple" vs.toArray 0)).push (u0 "list" #[] 0)).get? b=jr o:=λb o hb e=>QH _ (QH _ ((J.2 b hb).trans e));rw[list_sort_plain];refine QD (QCM Y rfl (QD (WZ Y rfl ?_ (by rw[QN];omega) (Qq _))));refine QD (QBm X rfl (QD (QBe ?_ (by show vs.9<=_;omega))));refine QD (QAr (qY ?_) (Qq _));show ku (k0 prog w) A _ P E { s with heap:=((s.1.update a (Q4 λ_=>(#[]:Array kb))).push (u0 "tuple" vs.toArray 0)).push (u0 "list" #[] 0) };dsimp only;have fin:∀out:LW,out.Perm vs->ku (k0 prog w) A (do
   let h:=(<- seqEpoch a) != Z
   QAs (.ref a) λ_=>out.toArray
   if h then rule "list.sort.modified";raiseError "ValueError" "list modified during sort"
   ret .none) P E { s with heap:=((s.1.update a (Q4 λ_=>(#[]:Array kb))).push (u0 "tuple" vs.toArray 0)).push (u0 "list" #[] 0) }:=λout m=>by
  have hl:=m.length_eq;refine QD (QBm r rfl (QD (WZ r rfl ?_ (Qq _) (by rw[QN];omega))));simp only[bne_self_eq_false,Qu,if_false];exact QL (k out m)
 by_cases I:vs.9<2;have u:vs.toArray.size<2:=by rw[QN];exact I
 rw[i0 u,i0 u];refine QD (QL ?_);rw[QCg];refine QD (QL ?_);have e:(arrOf (QCC general' (vs.toArray.zip vs.toArray) #[] 7 kv)).map (·.2)=vs.toArray:=by show(vs.toArray.zip vs.toArray).map (·.2)=_;apply WJ.mp;simp[WL]
 dsimp only;rw[e];exact fin vs (QBf _);have u:¬ vs.toArray.size<2:=by rw[QN];exact I
 rw[ii u,ii u];refine QD (Uu () (λv hv=>?_) ?_);let#[b,o,rfl,hb,e,c]:=S v hv;exact#[o,kept b o hb e,c];have F:QCC Ar (vs.toArray.zip vs.toArray) #[] 7 kv=kas_st Ar (ah vs) (qG (Qo vs.9)):=by have e:=kas_range (ah vs);rw[pairsOf_size]at e;show QCC Ar (ah vs) #[] 7 kv=QCC Ar ((qG (Qo vs.9)).map (kas_item (ah vs))) #[] 7 kv;rw[e]
 have all:=KO (n:=vs.9) ();have f:(kas_sort vs.9).kasWp (kas_cmp prog w A Ar (ah vs)) (λp g=>g={ s with heap:=((s.1.update a (Q4 λ_=>(#[]:Array kb))).push (u0 "tuple" vs.toArray 0)).push (u0 "list" #[] 0) }/\Pm vs.9 p) { s with heap:=((s.1.update a (Q4 λ_=>(#[]:Array kb))).push (u0 "tuple" vs.toArray 0)).push (u0 "list" #[] 0) }:=by
  rw[<- kas_ask_eq];refine vC.wp (λi j O N C H=>?_) (λp m=>#[rfl,m]) all;have gi:vs.getD i j2∈vs:=by
   have:vs.getD i j2=vs[i]:=by simp[O]
   rw[this];exact wO _
  have gj:vs.getD j j2∈vs:=by
   have:vs.getD j j2=vs[j]:=by simp[N]
   rw[this];exact wO _
  exact G _ kept _ gi _ gj C H
 have l:=kas_runs (prog:=prog) (w:=w) (A:=A) (E:=E) (Q:=λ_ z g=>∃p:Array Nat,p.size=vs.9/\arrOf z=p.map (kas_item (ah vs))/\ir z=kv/\g={ s with heap:=((s.1.update a (Q4 λ_=>(#[]:Array kb))).push (u0 "tuple" vs.toArray 0)).push (u0 "list" #[] 0) }/\Pm vs.9 p)
  () K (λM z g a1 a2 a3 a4=>#[M,a1,a2,a3,a4]) f
 rw[<- F]at l;refine QD (qm l ?_ λ_ _ e=>e);rintro⟨⟨⟩,z⟩ g ⟨p,m,W,R,rfl,L⟩;dsimp only;have q:(arrOf z).map (·.2)=qG (p.toList.map λi=>vs.getD i j2):=by apply WJ.mp;rw[W,Array.map_map,Array.toList_map];exact wN λi _=>by show(kas_item (ah vs) i).2=_;rw[kas_item_eq]
 rw[q,R];refine fin _ ?_;have:=(qU.mp L).map λi=>vs.getD i j2;refine this.trans ?_;show((Qo vs.9).map λi=>vs.getD i j2).Perm vs;rw[vQ]
theorem Ac{l:ko}{vs:LW}{Q:dC}(hl:s.1.IsList l vs.toArray)(g:vs.9<64)(X:∀v∈vs,∃b o,v=.ref b/\s.1.get? b=jr o/\o.cls=.type "list")
  (i:∀f:vu,(∀b o,s.1.get? b=jr o->f.get? b=jr o)->∀x∈vs,∀y∈vs,∀C:Bool->kt->Prop,(∀k,C k { s with heap:=f })->ku (k0 prog w) A.in1.in1 (keyLt' Ar x y) C (λ_ _=>False) { s with heap:=f })
  (k:∀out:LW,out.Perm vs->Q (.ref (s.1.1.size+1)) { s with heap:=sortedAll s.1 vs out.toArray }):ku (k0 prog w) A (Er (.builtin "sorted") [.ref l]) Q E s:=by
 refine Calls.call_function_entry kind_sorted plain_sorted entry_sorted (args_sorted1 _) ?_;unfold Builtin.«sorted»;refine QD (m:=checkCount "sorted" 1 1 _) (QL (QD (collect_list hl ?_ ())));refine QD (QAr ?_ (by show vs.9<=_;omega));have u:((s.1.push (u0 "list" #[] 0)).update s.1.1.size (Q4 (·++vs.toArray))).1.size=s.1.1.size+1:=by rw[QCV,size_push']
 have a:(((s.1.push (u0 "list" #[] 0)).update s.1.1.size (Q4 (·++vs.toArray))).push (u0 "list" vs.toArray 0)).get? (s.1.1.size+1)=jr (u0 "list" vs.toArray 0):=by rw[<- u];exact QS _ rfl
 have z:∀b o,s.1.get? b=jr o->(((s.1.push (u0 "list" #[] 0)).update s.1.1.size (Q4 (·++vs.toArray))).push (u0 "list" vs.toArray 0)).get? b=jr o:=λb o q=>by have h:b<s.1.1.size:=QV q;refine QH _ ?_;rw[Heap.get?_update_ne _ _ _ _ (Qi h)];exact QH _ q
 show ku _ _ _ _ _ { s with heap:=((s.1.push (u0 "list" #[] 0)).update s.1.1.size (Q4 (·++vs.toArray))).push (u0 "list" vs.toArray 0) };rw[u];refine QD (qY (qR im #[_,a,rfl] a9 ?body (args_list_sort _)))
 case body =>
  refine Hn (s:={ s with heap:=((s.1.push (u0 "list" #[] 0)).update s.1.1.size (Q4 (·++vs.toArray))).push (u0 "list" vs.toArray 0) }) a g (λv hv=>?_) (λf j x p y n C Y=>?_) λout r=>#[_,rfl,QL #[_,rfl,k out r]]
  let#[b,o,e,q,c]:=X v hv;have h:b<s.1.1.size:=QV q;exact#[b,o,e,Qi (WB h),z b o q,c];refine i f (λb o q=>?_) x p y n C Y;have h:b<s.1.1.size:=QV q;exact j b o (Qi (WB h)) (z b o q)
end
section
variable{prog:k5}{w:xb}{A:x0}
theorem Oo(Z:A.handled=kv)(j:ko)(z:Src)(m:z.adr≠j)(y:Array kb)(c:Nat) :
  Draws prog w A j [j,z.adr] (c+y.size) (λi v=>∃k,i=c+k/\y[k]?=jr v) (λi h=>∃k,i=c+k/\kE h j z k/\SB h z y) where
 live:=λ_ _ #[_,_,p,_]=>let#[o,e,_]:=p.obj;#[o,e]
 frame:=λ_ h f #[k,e,p,q] u=>#[k,e,p.keep λo x=>u j (by simp) o x,by
  cases z with|l a=>exact QCa.at q λo x=>u a (by simp[Src.adr]) o x|t a=>let#[o,Y,X]:=q;exact#[o,u a (by simp[Src.adr]) o Y,X]]
 item:=λi s Q E W #[k,e,p,q] n=>by
  have hk:k<y.size:=()
  exact Ie p q (x:=y[k]) (by simp[hk]) λf g b=>n _ f s.toks #[k,e,by simp[hk]] #[k+1,(),g,Ak q b m] b
 done:=λs Q E #[k,e,p,q] r=>by
  have hk:k=y.size:=()
  exact v9 Z p q (by simp[hk]) r
theorem Po(r:A.handled=kv)(j:ko)(z:Src)(y:Array kb)(n k:Nat)(v:y[k]?=kv) :
  Draws prog w A j [j,z.adr] n (λ_ _=>False) (λi h=>i=n/\kE h j z k/\SB h z y) where
 live:=λ_ _ #[_,p,_]=>let#[o,e,_]:=p.obj;#[o,e]
 frame:=λ_ h Y #[e,p,q] u=>#[e,p.keep λo x=>u j (by simp) o x,by
  cases z with|l a=>exact QCa.at q λo x=>u a (by simp[Src.adr]) o x|t a=>let#[o,m,g]:=q;exact#[o,u a (by simp[Src.adr]) o m,g]]
 item:=λi s Q E b #[e,_,_] X=>i3 b ()
 done:=λs Q E #[_,p,q] f=>v9 r p q v f
def jBa(K:QC)(z:Src)(c:Nat):It :=
  #[λi H=>∃h x,e6 K H z h/\h[i]?=jr x,
   λi H v y=>∃p x,H p=kv/\v=.ref p/\y=FA H p (.tup [.int ((c+i:Nat):Int),x])/\∀h,e6 K H z h->h[i]?=jr x,
   λi H=>∃h,e6 K H z h/\h.9<=i]
def cZ(e j:ko)(z:Src)(c i:Nat)(h:vu):Prop:=(∃x,IsEnum h e j ((c+i:Nat):Int) x)/\kE h j z i
theorem U3{P:k5}{K:QC}{es:List Expr}{kk:Nat}{pp:Pos}{e j:ko}{z:Src}{c:Nat}(L:e≠j)(n2:z.adr≠e)(n3:z.adr≠j) :
  Turn P w K (.Tuple es kk pp) (jBa K z c) [e,j] e (cZ e j z c) where
 mem:=by simp
 obj:=λi h st b hb=>by let#[#[a,g],n]:=st;simp only[QK,wv,or_false]at hb;rcases hb with rfl|rfl;exact#[_,g,λv q=>by cases(show Data.fields _=Data.cell v from q)];exact n.obj
 keep:=λi h h' st k=>by let#[#[a,g],n]:=st;exact#[#[a,k e (by simp) _ g],n.keep λo x=>k j (by simp) o x]
 item:=by
  intro X O M Q hc i r s σ H E I B st N;subst O M Q;let#[xs,x,C,ex]:=N;let#[f,J,F,_]:=I.src C;let#[u,hu,ru]:=J.get ex;let#[#[a,g],n]:=st;have hi:i<f.toArray.size:=by have:=(Qh.mp hu).1;simpa using this
  refine wpAny_pyNext_enum_itemD (Oo (show X.A.in1.handled=kv from I.ok.hd hc) j z n3 f.toArray c) g #[i,rfl,n,F] () L (by simp[L,qC n2]) λy h' W #[k,ek,hy] b1 b2 b3 b4 b5=>?_;have ek:k=i:=()
  subst ek;have ey:y=u:=by
   have:f.toArray[k]?=jr u:=by simpa using hu
   rw[this]at hy;exact(Qm hy).symm
  subst ey;refine#[_,rfl,wpAny_letOwnedTupleGo_enum b1 λp c1 G=>?_];let#[k2,Z,b2,b2']:=b2;have Z:k2=k+1:=()
  subst Z;have hp:=I.hok.fresh (QY s.1.1.size);have Y:e<s.1.1.size:=QV g;have m:∀b∈[e,j],b<s.1.1.size:=λb hb=>by simp only[QK,wv,or_false]at hb;rcases hb with rfl|rfl;exact Y;exact n.lt
  have kept:∀b o,b∉[e,j]->s.1.get? b=jr o->p.get? b=jr o:=λb o hb q=>by simp only[QK,wv,or_false,not_or]at hb;exact(G.2 b hb.1).trans (b5 b o hb.1 hb.2 q)
  have l:p.get? s.1.1.size=jr { cls:=.type "tuple",data:=.seq (qG [.int ((c+k:Nat):Int) W,y]) }:=(G.2 _ (wR Y)).trans b3;have I1:=I.pair (x:=.int ((c+k:Nat):Int)) (h':=s.1.push { cls:=.type "tuple",data:=.seq (qG [.int ((c+k:Nat):Int) W,y]) }) (t':=W+1) (λb o e=>QH _ e) (QY _) (QS _ rfl) #[_,rfl] ru;have I2:=I1.turnedL (h':=p) (t':=W+1) (ch:=[e,j]) (λb o hb e=>by
   rcases QBY e with⟨q1,q2⟩| q;subst q1 q2;exact l;exact kept b o hb q) λb hb=>by
   let#[f0,f1,f2,f3,S,R]:=B b hb;exact#[by rw[uA (Qi (m b hb))];exact f0,f1,f2,f3,S,R]
  refine#[.ref s.1.1.size,_,I2,rfl,#[s.1.1.size,x,hp,rfl,rfl,λxs' g1=>?_],#[#[y,?_],b2.keep λo q=>(G.2 _ (qC L)).trans q],λb hb=>?_];rw[I.src_inj g1 C];exact ex;have:(((c+(k+1):Nat)):Int)=((c+k:Nat):Int)+1:=()
  rw[this];exact c1;rw[uA (Qi (m b hb))];exact(B b hb).1
 done:=by intro X O M Q hc i r s σ H E I B st N;subst O M Q;let#[xs,C,en]:=N;let#[f,J,F,_]:=I.src C;let#[#[a,g],n]:=st;have l1:=J.9;let#[f0,f1,f2,f3,S,R]:=B j (by simp);exact wpAny_pyNext_enum_endD (Po (show X.A.in1.handled=kv from I.ok.hd hc) j z f.toArray 0 i (by simp;omega)) g #[rfl,n,F] λh' eb=>#[rfl,I.turned (t':=s.toks) (λb o hb e=>eb b o hb e) f0 f1 f3 S R]
 self:=λ_ _ _ _ _ st h=>by let#[#[a,g],_]:=st;exact QCD g h
end
theorem B5(z:Src)(xs:Array kb):Meets (Builtin.«enumerate.__new__» #[[.type "enumerate",.ref z.adr],[]]) (λ_ R s=>SB s.1 z xs /\
   R (.ok (.ret (.ref (s.1.push z.it).1.size))) { s with heap:=(s.1.push z.it).push { cls:=.type "enumerate",data:=.fields (qG [.none,.bool kd,.ref s.1.1.size,hB 0,.none,.none]) } }) :=
 .of_wp λy w A R s h=>by
  let#[b,g,d,v,a]:=s;let#[k,h]:=h;have u:=sub_enumerate;have x:SB (Shared.heap #[b,g,d,v,a]) z xs:=k;wp_walk;refine wpAny_stack_any λst=>QL ?_;split;rename_i cl _ _ _ _ _;cases(cl==Value.type "enumerate")<;>(wp_walk using uU x;exact#[_,rfl,h])
  wp_walk using uU x;exact#[_,rfl,h]
section
variable{prog:k5}{w:xb}{A:x0}{E:dC}{s:kt}
theorem N1{h:vu}{z:Src}{n:Int}:IsEnum ((h.push z.it).push { cls:=.type "enumerate",data:=.fields (qG [.none,.bool kd,.ref h.1.size,hB n,.none,.none]) }) (h.1.size+1) h.1.size n .none:=by have:=QS (h.push z.it) (o:={ cls:=.type "enumerate",data:=.fields (qG [.none,.bool kd,.ref h.1.size,hB n,.none,.none]) }) rfl;rw[WH]at this;exact this
theorem AY{z:Src}{xs:Array kb}{Q:dC}(y:SB s.1 z xs)
  (h:∀h',cZ (s.1.1.size+1) s.1.1.size z 0 0 h'->(∀c o,s.1.get? c=jr o->h'.get? c=jr o)->Q (.ref (s.1.1.size+1)) { s with heap:=h' }):ku (k0 prog w) A (Er (.type "enumerate") [.ref z.adr]) Q E s:=by
 refine callType_new PySem.F.called_enumerate (by decide) (PySem.F.typeCall_enumerate_1 _) (PySem.F.newCall_enumerate_1 _) (λobj=>PySem.F.args_object_init_2 obj _) PySem.F.entry_enumerate_new (B5 z xs) #[y,?_];show _/\_;rw[WH];exact#[#[_,N1,rfl],h _ #[#[.none,N1],(Tc s.1 z).keep λo e=>QH _ e] λc o x=>QH _ (QH _ x)]
end
theorem jBw{a b:Nat}(h:a≠b):((a:ko)≠(b:ko)):=h
theorem iQ:entryFor table "dict.update.loop"=jr Builtin.«dict.update.loop»:=entryFor_of_tree (by kernel_rfl)
theorem fH:plainId "dict.update.loop"=true:=by decide +kernel
section
variable{pg:k5}{wd:xb}{u:x0}{f:dC}{y:kt}{K:Type}[DecidableEq K]{knd:KeyKind pg wd K}
section
variable{l:ko}{xs:Array kb}{kvs:List (K×kb)}{m:Nat}{sl:Array (Option kb)}
def CO(knd:KeyKind pg wd K)(h:vu)(x:List ko)(v:kb)(p:K×kb):Prop:=∃a key,v=.ref a/\a∉x/\h.IsTuple a (qG [key,p.2])/\knd.is p.1 key=kf
theorem CO.at{h h':vu}{z:List ko}{v:kb}{p:K×kb}(x:CO knd h z v p)(k:∀a o,a∉z->h.get? a=jr o->h'.get? a=jr o):CO knd h' z v p:=by let#[a,key,e,n,#[o,g,c],i]:=x;exact#[a,key,e,n,#[o,k a o n g,c],i]
theorem D5{d it:ko}{R:Result->kt->Prop}(hd:u.handled=kv)(P:l≠it)(I:d∉[it,l])(hl:xs.size=kvs.9)(bd:kvs.9<=kn)(hn:(kvs.map qP).Nodup) :
  ∀(n i:Nat) (y:kt),xs.size - i=n->i<=xs.size->(y.1.IsListIter it l i/\y.1.IsList l xs)->y.1.DictOf knd d (kvs.take i)->(∀(j:Nat) (v:kb) (p:K×kb),xs[j]?=jr v->kvs[j]?=jr p->CO knd y.1 [d,it] v p) ->
   (∀s',Moved [d,it] (λa b=>b=a) y s'->s'.1.DictOf knd d kvs->R (.ok (.ret .none)) s') ->
   mi (k0 pg wd) u (.builtin "dict.update.loop" #[[.ref d,.ref it,hB i,.none],[]]) R y:=by
 have W:=(QCl (prog:=pg) (w:=wd) (A:=u.in1) hd it l P xs).toS;have sub:∀c∈[it],c∈[d,it]:=λc hc=>QF _ hc;have G:d∉[it]:=λz=>I (QK.mpr (.inl (QI.mp z)));intro n;induction n with
 |zero =>
  intro i y en Q x h tp k;obtain rfl:i=xs.size:=()
  refine w8 iQ ?_;rw[wC fH _];rw[hl,QCW]at h;refine QD (m:=ln (.ref it)) (W.done y _ _ x λs' X=>?_);show ku (k0 pg wd) _ (Builtin.Dict.addKeywords d [] >>= _) _ _ s';refine QD (QL (QL (k s' (X.mono sub) ?_)));let#[o,r]:=we.mp h;exact we.mpr #[o,X.1 d o G r.1,r.2]
 |succ n S =>
  intro i y en Q x h tp k;have lt:i<xs.size:=()
  refine w8 iQ ?_;rw[wC fH _];refine QD (m:=ln (.ref it)) (W.item i y _ _ lt x λv s' O B X=>?_);have F:kvs[i]?=jr kvs[i]:=Qk ();generalize kvs[i]=p at F;have Y:∀(j:Nat) (v:kb) (p:K×kb),xs[j]?=jr v->kvs[j]?=jr p->CO knd s'.1 [d,it] v p:=λj v p a b=>(tp j v p a b).at λa o n g=>X.1 a o (λz=>n (sub _ z)) g;let#[a,key,rfl,na,T,hk]:=Y i v p O F;have Z:s'.1.DictOf knd d (kvs.take i):=by let#[o,r]:=we.mp h;exact we.mpr #[o,X.1 d o G r.1,r.2]
  have hp:ku (k0 pg wd) u.in1 (QA7 (.ref a)) (λl s=>l=[key,p.2]/\s=s') (λ_ _=>False) s':=by let#[o,g,c,m,dt]:=T;unfold QA7;refine QD (QAP #[o,g,c] ?_);rw[i0 (by decide)];exact QD (Wq g dt (QL #[rfl,rfl]))
  refine QD (qY (QD (wpAny_tryCatch (qm hp (λl s e=>?_) λ_ _ z=>z.elim))));let#[rfl,rfl]:=e;have e1:stored (kvs.take i) p.1 p.2=kvs.take (i+1):=by
   have L:kvs.take (i+1)=kvs.take i++[p]:=by rw[List.take_succ,F];rfl
   have J:=(hn.sublist ((QB6 (i+1) kvs).map qP))
   rw[L,QT,qT]at J;unfold stored;rw[ii,L];rw[wP];rintro⟨q,H,e⟩;exact J.2.2 _ (QAG H) _ QE (oa e)
  refine qY (wpAny_dictSet_pairs hk Z (λh' M C=>?_) (by rw[qH];omega));rw[e1]at M;refine QL #[WY fH _,?_];refine S (i+1) _ () lt (W.frame _ s _ _ B (qq _) λc hc o e=>?_) M (λj v p a b=>(Y j v p a b).at λa o n g=>?_) λN E d4=>k N (Moved.trans W.gtrans ((X.mono sub).then_heap (qq _) λc o hc e=>?_) E) d4;rw[C.2 c λq=>I (q▸hc)];exact e;rw[C.2 a λq=>n (q▸QE)];exact g;rw[C.2 c λq=>hc (q▸QE)];exact e
theorem Zf{a:ko}{Q:Option kb->kt->Prop}(g:y.1.get? a=jr #[.type "list",kv,.seq xs m,sl])(s:u.handled=kv)
  (q:∀h' h,(∀b o,y.1.get? b=jr o->h'.get? b=jr o)->Q kv { y with heap:=h',toks:=h }):ku (k0 pg wd) u (getAttr? (.ref a) "keys") Q f y:=by
 let#[r,w,i,h,v]:=y;have ty:∀k,(#[r,w,i,k,v]:kt).TypeIs (.ref a) "list":=λ_=>#[_,g,rfl]
 have B:=sub_AttributeError;have A:=WR.lookup;have W:=WR.bind (.ref a);have Z:=am_list_getattr_none;have p:l8 (.type "list") "keys"=ti none:=am_miss_of_fast (by kernel_rfl);unfold getAttr? getAttrBy? getAttrBy
 repeat (any_goals (first|assumption|exact ty _ | ((with_reducible show ku _ _ (Er (Value.builtin "list.__getattribute__") _ _) _ _ _);refine QBT WR (ty _) am_entry_list_getattribute (F.args_list_getattribute_2 _ _) (meets_getattribute_miss_list a xs m sl "keys" _ p (by decide) (by decide)) #[g,s,λh' j e x=>?_])|wp_step))
 let#[Y,X,z]:=x.there;have n:∀k,(#[h',w,i,k,v]:kt).TypeIs (.ref e) "AttributeError":=λ_=>#[_,z,rfl]
 show ku _ _ (me (.ref a) _ _ _ _ _ _) _ _ _;unfold me
 repeat (any_goals (first|assumption|exact n _|wp_step))
 exact q _ _ x.keeps
theorem bM{Q:dC}(E:u.handled=kv)(C:y.1.get? l=jr #[.type "list",kv,.seq xs m,sl])(hl:xs.size=kvs.9)(P:kvs.9<=kn)(N:(kvs.map qP).Nodup)
  (tp:∀(j:Nat) (v:kb) (p:K×kb),xs[j]?=jr v->kvs[j]?=jr p->∃a key,v=.ref a/\y.1.IsTuple a (qG [key,p.2])/\knd.is p.1 key=kf)
  (k:∀(h':vu) (X:Nat),h'.DictOf knd y.1.1.size kvs->(∀b o,y.1.get? b=jr o->h'.get? b=jr o)->Q (.ref y.1.1.size) { y with heap:=h',toks:=X }) :
  ku (k0 pg wd) u (Er (.type "dict") [.ref l]) Q f y:=by
 refine pc (Q₁:=λobj h=>obj=.ref y.1.1.size/\h={ y with heap:=y.1.push { cls:=.type "dict",data:=.dict #[] } }) F.kt_called_dict (F.kt_typeCall_dict_1 _) F.entry_dict_init (kt_code_dict_new _ #[rfl,rfl]) ?_;rintro obj h ⟨rfl,rfl⟩;have x:(y.1.push { cls:=.type "dict",data:=.dict #[] }).DictOf knd y.1.1.size []:=Heap.DictOf.new y.1;have Y:(y.1.push { cls:=.type "dict",data:=.dict #[] }).get? l=jr #[.type "list",kv,.seq xs m,sl]:=QH _ C;have Z:l<y.1.1.size:=QV C;refine#[x.typeIs,F.args_dict_init_2 _ _,?_];unfold Builtin.«dict.__init__»;refine QD ?_;unfold Builtin.Dict.selfAndRest;refine QD (w6 x.typeIs ?_);show ku _ _ (ti (y.1.1.size,[kx l])) _ _ _;refine QL ?_;show ku _ _ (QAt "dict.__init__" y.1.1.size (.ref l) [] .none) _ _ _;unfold QAt;have ty:Shared.TypeIs { y with heap:=y.1.push { cls:=.type "dict",data:=.dict #[] } } (.ref l) "list":=by exact#[_,Y,rfl]
 refine QD (QAP ty ?_);rw[i0 (by decide)];refine QD (Zf Y E λw I q=>?_);rw[i0 (by rfl)];have B:w.IsList l xs:=#[_,q _ _ Y,rfl,m,rfl]
 have G:w.DictOf knd y.1.1.size []:=by let#[o,r]:=we.mp x;exact we.mpr #[o,q _ _ r.1,r.2]
 refine QD (QBU (QD (WC B ?_)));refine QL #[WY fH _,?_];have s:y.1.1.size<w.1.size:=by let#[o,r]:=we.mp G;exact QV r.1
 have L:l≠w.1.size:=Qi (wy Z s);have M:y.1.1.size∉[w.1.size,l]:=λz=>by rcases QK.mp z with z|z;exact Qi s z;exact wR Z (QI.mp z)
 refine D5 (kvs:=kvs) (knd:=knd) (by simp[E]) L M hl P N xs.size 0 _ (Nat.sub_zero _) (Qq _) #[#[_,QS _ rfl,rfl,rfl],B.push _] (G.push _) (λj v p a b=>?_) λJ n O=>?_;let#[c,key,e,T,i]:=tp j v p a b;let#[o,g,r]:=T;have W:c<y.1.1.size:=QV g;refine#[c,key,e,λz=>?_,#[o,QH _ (q _ _ (QH _ g)),r],i];rcases QK.mp z with z|z;exact Qi W z;exact Qi (wy W s) (QI.mp z);let#[h',S,H,X,R]:=J;cases n.gens;cases n.drawn;cases n.os;refine#[rfl,k h' X O λb o g=>?_];have A:b<y.1.1.size:=QV g;refine n.1 b o (λz=>?_) (QH _ (q _ _ (QH _ g)));rcases QK.mp z with z|z;exact Qi A z;exact Qi (wy A s) (QI.mp z)
end
end
noncomputable abbrev Hq:=List (ko×Str×V)
def NZ(h:Hq):List (Key×V):=h.map λz=>(Sum.inr z.2.1,z.2.2)
def Jl(K:QC)(x:V)(H:Hp)(Q:VK):Prop:=∃p,∃h:Hq,x=.ref p/\YC K H p (h.map λz=>V.ref z.1)/\(∀z∈h,LD K H z.1 [.str z.2.1,z.2.2])/\(h.map λz=>z.2.1).Nodup/\∀d,H d=kv->(h≠[]->Q (.ref d) (FA H d (.dK (NZ h))))/\(h=[]->∀y,Q (.ref d) (FA H d (.dT y [])))
theorem iU{pg:k5}{wd:xb}{h:vu}:∀(k:Hq) (its:LW),oA (k.map λz=>V.ref z.1) its->(∀z∈k,∃ts:LW,oA [.str z.2.1,z.2.2] ts/\a8 h z.1 ts.toArray) ->
  ∃vs:List (Key×kb),KV (NZ k) vs/\vs.9=its.9/\∀(j:Nat) (v:kb) (p:Key×kb),its[j]?=jr v->vs[j]?=jr p->∃a key,v=.ref a/\h.IsTuple a (qG [key,p.2])/\(mC pg wd).is p.1 key=kf
 |[],its,r,_=>by cases r;exact#[[],.nil,rfl,λj v p e=>by cases e]|z::k,its,r,t=>by
  obtain⟨x,u,rfl,l,r⟩:∃x u,its=u::x/\JA (V.ref z.1) u/\oA (k.map λz=>V.ref z.1) x:=by
   cases r with|cons a b=>exact#[_,_,rfl,a,b]
  let#[vs,X,s,o]:=iU (pg:=pg) (wd:=wd) k x r λy Y=>t y (QF _ Y);let#[ts,q,T]:=t z QE;obtain⟨key,w,rfl,n,m⟩:∃key w,ts=[key,w]/\JA (.str z.2.1) key/\JA z.2.2 w:=by
   cases q with
   |cons a b =>
    cases b with|cons c d=>cases d;exact#[_,_,rfl,a,c]
  let#[i,rfl]:=n;cases l;refine#[(Sum.inr z.2.1,w)::vs,.cons #[rfl,m] X,o9 Nat.succ s,λj v p g f=>?_];cases j with|zero=>cases g;cases f;exact#[_,_,rfl,T,sQ z.2.1 i]|succ j=>exact o j v p g f
theorem L0:∀{kvs:List (Key×V)}{vs:List (Key×kb)},KV kvs vs->vs.map qP=kvs.map qP
 |_,_,.nil=>rfl|_,_,.cons h t=>by rw[QU,QU,h.1,L0 t]
theorem d8{x:Hq}(h:(x.map λz=>z.2.1).Nodup):((NZ x).map qP).Nodup:=by
 have e:(NZ x).map qP=(x.map λz=>z.2.1).map Sum.inr:=by unfold NZ;rw[QR,QR];rfl
 rw[e];exact WD _ (λa b n z=>n (Sum.inr.inj z)) h
theorem El{X:Cx}{a:Expr}{ta:TE}{P pos:Pos}(hc:X.calm=kf)(g:Gl X "dict")(m:X.mg "dict"=kv)(ha:PE X a ta)(st:xk [a] X.env=(kd,g6 a X.env)::xk [] X.env) :
  PE X (.Call (.Name "dict" P) [a] [] pos) λσ H Q=>ta σ H λx F=>Jl X.K x F Q:=by
 intro f s σ H Q I h;refine qe (nE I g m PyProof.Rows.boot_dict (qJ ?_ st rfl));rw[st];show ku _ _ (ew ((kd,g6 a X.env)::[])) _ _ s;refine wA (DB (ha f s σ H _ I h) λu y #[x,F,k,M,r]=>wa ?_);let#[p,i,rfl,hq,ht,nd,q]:=r;cases M;let#[W,N,O,Y]:=k.list hq;let#[o,n,e,c,dd,dt]:=O;let#[oc,od,S,R]:=o;cases c;cases dd;cases dt;let#[Z,l,k2,k3]:=iU (pg:=X.prog) (wd:=X.w) (h:=y.1) i W N λz Y=>by let#[G,L,J,_]:=k.tuple (ht z Y);exact#[G,L,J]
 have lz:(NZ i).9<=sizeLine:=by unfold NZ;rw[QA]at Y ⊢;exact Y
 have lv:Z.9<=sizeLine:=by have:=l.9;omega
 refine bM (knd:=mC X.prog X.w) (kvs:=Z) (k.ok.hd hc) e (by rw[QN,k2]) lv (by rw[L0 l];exact d8 nd) (λj v p a b=>k3 j v p (by simpa using a) b) λh' A D C=>?_;have B:=k.hok.fresh (QY y.1.1.size);have sm:(y.1.1.size==y1)=false:=beq_eq_false_iff_ne.mpr (wR (Inv.big k));by_cases z:i=[];subst z;cases l;let#[o,es,E,d1,d2,d3,_,d4,_]:=D;refine#[.ref y.1.1.size,_,k.laid (a:=y.1.1.size) (o:=.dT E []) (t':=A) C (QY _) #[Qq _,sm,[],.nil,o,es,d1,d2,d3,?_,Qx],rfl,(q _ B).2 rfl E];exact QAu.mp (PySem.Pairs.length d4);exact#[.ref y.1.1.size,_,k.laid (a:=y.1.1.size) (o:=.dK (NZ i)) (t':=A) C (QY _) #[lz,sm,Z,l,D],rfl,(q _ B).1 z]
theorem Y4:l8 (.type "list_reverseiterator") "__len__"=ti none:=by rw[nL,QBM];kernel_rfl
theorem aa:l8 (.type "list_reverseiterator") "__length_hint__"=ti (jr (.builtin "list_reverseiterator.__length_hint__")):=by rw[nL,QBM];kernel_rfl
section
variable{pg:k5}{wd:xb}{u:x0}{d:dC}{h:kt}{a:dC}
noncomputable abbrev yf:Obj:={ cls:=.type "list",data:=.seq #[] }
theorem UP{j l:ko}{xs:Array kb}(O:u.handled=kv)(L:l≠j)(G:h.1.IsRevIter j l ((xs.size:Int) - 1))(Z:h.1.IsList l xs)(N:xs.size<=kn)
  (k:∀s' f c,(∀b o,b≠j->h.1.get? b=jr o->s'.1.get? b=jr o)->s'.gens=h.gens->s'.drawn=h.drawn->s'.os=h.os ->
   s'.1.get? h.1.1.size=jr { cls:=.type "list",dict:=kv,data:=.seq f c,slots:=#[] }->ItemsOf (λi v=>xs[xs.size - 1 - i]?=jr v) f xs.size->a (.ref h.1.1.size) s') :
  ku (k0 pg wd) u (Er (.type "list") [.ref j]) a d h:=by
 have W:=(Walks.listRev (prog:=pg) (w:=wd) (A:=u.in1.in1) O j l L xs).toS;have ty:∀{i:Nat}{q:kt},(i<=xs.size/\q.1.IsRevIter j l ((xs.size:Int) - 1 - (i:Int))/\q.1.IsList l xs)->q.TypeIs (.ref j) "list_reverseiterator":=λz=>z.2.1.typeIs;let#[oj,R,_]:=id G;let#[H,Q,_]:=id Z;have B:=QV R;have K:=QV Q;generalize hn:h.1.1.size=n at B K k;have Y:n∉[j,l]:=λz=>by rcases QK.mp z with z|z;exact qS _ (z▸B);exact qS _ (QI.mp z▸K)
 have M:n≠j:=λz=>Y (z▸QE);refine pc (Q₁:=λp q=>p=.ref n/\q={ h with heap:=h.1.push yf }) F.called_list (F.typeCall_list_1 _) F.entry_list_init (code_list_new _ #[by rw[hn],rfl]) ?_;rintro p q ⟨rfl,rfl⟩;have s:(h.1.push yf).get? n=jr yf:=hn▸QS _ rfl;refine#[#[_,s,rfl],F.args_list_init_2 _ _,?_];show ku _ u.in1.in1 (do let X <- QA8 (.ref n);QAs (.ref n) (λ_=>#[]);letGo X.toList.reverse;w9 (.ref n) (.ref j) .none) _ _ _;unfold QA8;refine QD (QD (Wq s rfl (QL (QD (m:=updateSeq n λ_=>#[]) (wpAny_updateSeq s rfl (QD (QCd ?_)))))));have S:=wU (Q4 λ_=>(#[]:Array kb)) s rfl;have E:∀b o,b≠n->h.1.get? b=jr o->((h.1.push yf).update n (Q4 λ_=>(#[]:Array kb))).get? b=jr o:=λb o z e=>(Wi _ _ (qC z)).trans (QH _ e);have I:0<=xs.size/\h.1.IsRevIter j l ((xs.size:Int) - 1 - ((0:Nat):Int))/\h.1.IsList l xs:=#[Qq _,by simpa using G,Z]
 have g:=W.frame 0 h _ h.toks I (QY _) λb hb o e=>E b o (λz=>Y (z▸hb)) e;have J:Builtin.List.listSameRef (.ref n) (.ref j)=false:=beq_eq_false_iff_ne.mpr M;unfold w9 Builtin.List.listLengthHint;refine QD (QAP (ty g) ?_);rw[ii (by simp only[J];decide)];refine QD (W.self 0 _ _ _ g (QD (qY (QD (QBE (ty g) Y4 ?_)))));show ku _ _ (specialOf (.ref j) (Qa "__length_hint__") >>= _) _ _ _;refine QD (QBE (ty g) aa ?_);generalize hx:("list_reverseiterator.__length_hint__":String)=x
 wp_delta
 rw[show splitId x=jr ("list_reverseiterator","__length_hint__") by rw[<- hx];decide +kernel];subst hx;refine QD (Wx (b:=kf) (ty g) (by rw[isSubtype_type];kernel_rfl) (QL ?_));rw[ii (by decide)];refine QL #[WY F.plain_extend_loop _,codeAny_extend_loopS W N _ Y _ xs.size 0 _ _ _ rfl (Qq _) g S (ItemsOf.nil _) ?_];intro s' f c r P it;refine#[rfl,k s' f c (λb o z e=>?_) r.gens r.drawn r.os P it];have C:b<n:=hn▸QV e;exact r.1 b o (λm=>(QK.mp m).elim (λy=>qS _ (y▸C)) λy=>z (QI.mp y)) (E b o (Qi C) e)
end
def nX(K:QC)(x:V)(H:Hp)(Q:VK):Prop:=∃p h,x=.ref p/\YC K H p h/\∀l,H l=kv->Q (.ref l) (FA H l (.lst h.reverse))
theorem n5{its:LW}{x:Array kb}(h:ItemsOf (λi v=>its.toArray[its.toArray.size - 1 - i]?=jr v) x its.toArray.size):x.toList=its.reverse:=by
 let#[y,z]:=h;have y:x.toList.9=its.length:=y;refine List.ext_getElem (by rw[y,wm]) λi a b=>?_;have:=z i x[i] (Array.getElem?_eq_getElem a);have e:its[its.9 - 1 - i]?=jr x[i]:=by simpa only[List.getElem?_toArray,QN]using this
 rw[Qk ()]at e;rw[List.getElem_reverse];exact(Qm e).symm
section
variable{X:Cx}{a:Expr}{ta:TE}{v p2 pos y:Pos}
theorem Tl(hc:X.calm=kf)(g1:Gl X "list")(g2:Gl X "reversed")(P:X.mg "list"=kv)(O:X.mg "reversed"=kv)(ha:PE X a ta)(st:xk [a] X.env=(kd,g6 a X.env)::xk [] X.env) :
  PE X (.Call (.Name "list" v) [.Call (.Name "reversed" p2) [a] [] y] [] pos) λσ H Q=>ta σ H λx E=>nX X.K x E Q:=by
 intro g s σ H Q I h;refine qe (nE I g1 P PyProof.Rows.boot_list ?_);refine qJ ?_ rfl rfl;show ku _ _ (ew ((kd,g6 (.Call (.Name "reversed" p2) [a] [] y) X.env)::[])) _ _ s;refine wA ?_;refine qe (nE I g2 O QAM ?_);refine qJ ?_ st rfl;rw[st];show ku _ _ (ew ((kd,g6 a X.env)::[])) _ _ s;refine wA (DB (ha g s σ H _ I h) λu f #[x,E,l,J,p,F,e,hq,q]=>wa ?_);subst e;cases J;let#[k,W,L,S]:=l.list hq;have C:=W.9;have hl:=L.isList;refine QB2 hl (wa ?_);let#[ol,n,_]:=id hl;have lt:=QV n;have M:p≠f.1.1.size:=Qi lt;have hd:X.A.handled=none:=l.ok.hd hc;have r:(f.1.push (pL p ((k.toArray.size:Int) - 1))).IsList p k.toArray:=hl.at λo e=>QH _ e;have m:(f.1.push (pL p ((k.toArray.size:Int) - 1))).IsRevIter f.1.1.size p ((k.toArray.size:Int) - 1 - ((0:Nat):Int)):=#[_,QS _ rfl,rfl,by simp[pL]]
 refine UP hd (by exact M) (by simpa using m) r (by rw[QN];omega) λZ j c' N e1 e2 e3 Y i=>?_;have ea:=n5 i;have R:∀b o,f.1.get? b=jr o->Z.1.get? b=jr o:=λb o e=>N b o (λz=>qS _ (z▸QV e)) (QH _ e);let#[B,gs,dr,G,oo]:=Z;cases e1;cases e2;cases e3;refine#[.ref (f.1.push (pL p ((k.toArray.size:Int) - 1))).1.size,_,l.laid (t':=G) (h':=B) R (by rw[WH];omega) (show fB X.prog X.w _ B _ (.lst F.reverse) from#[by rw[wm];exact S,j.toList,c',by rw[ea];exact W.reverse,Y]),rfl,q _ (l.hok.fresh (by rw[WH];omega))]
end
noncomputable def jBV(K:QC)(a:ko)(n:Nat):It :=
 #[λi H=>i<n/\∃h x,YC K H a h/\h[n - 1 - i]?=jr x,λi H x y=>y=H/\∀h,YC K H a h->h[n - 1 - i]?=jr x,λi _=>n<=i]
theorem j7{P:k5}{w:xb}{K:QC}{L:Expr}(a it:ko)(n:Nat):Turn P w K L (jBV K a n) [it] it (λi h=>i<=n/\h.IsRevIter it a ((n:Int) - 1 - (i:Int))) where
 mem:=by simp
 obj:=λi h st b hb=>by
  have e:b=it:=by simpa using hb
  subst e;let#[_,o,e,c,d]:=st;exact#[o,e,λv z=>by rw[d]at z;cases z]
 keep:=λi h m st k=>#[st.1,st.2.at λo e=>k it (by simp) o e]
 item:=by intro X r q Y hc i f s F H E I l st j;subst r q Y;let#[hi,xs,x,J,G]:=j;let#[Q,N,p,hz]:=I.list J;let#[u,S,O]:=N.get G;let#[C,B,f2,A,W,Z]:=l it (by simp);have y:=st.2;rw[show(n:Int) - 1 - (i:Int)=((n - 1 - i:Nat):Int) by omega]at y;refine wpAny_pyNext_rev_item y p.isList (x:=u) (by simpa using S) λm g M=>?_;have I1:Inv X f F H { s with heap:=m }:=I.turned (t':=s.toks) (λb o hb e=>(M.2 b hb).trans e) C B A W Z;let#[o,e,c,d]:=id g;rw[show((n - 1 - i:Nat):Int) - 1=(n:Int) - 1 - ((i+1:Nat):Int) by omega]at g;exact#[u,rfl,go_of (s:={ s with heap:=m }) e c d (by decide) #[x,H,I1,O,#[rfl,λys R=>by rw[I.list_inj R J];exact G],#[hi,g],λb hb=>(l b hb).1]]
 done:=by intro X r q Y hc i f s F H E I l st j;subst r q Y;let#[C,B,f2,A,W,Z]:=l it (by simp);have j:n<=i:=j;have y:=st.2;rw[show(n:Int) - 1 - (i:Int)=-1 by have:=st.1;omega]at y;exact wpAny_pyNext_rev_end (I.ok.hd hc) y λm eb=>#[rfl,I.turned (t':=s.toks) (λb o hb e=>eb b o hb e) C B A W Z]
 self:=λ_ _ _ _ _ st h=>QBZ st.2 h
inductive Bi where
 |len|any|all|min|sorted|tuple
 deriving DecidableEq
inductive Mt where
 |append|pop|setd|extend|index
 deriving DecidableEq
inductive ItK where
 |val|rng1|enum|itm|rev
 deriving DecidableEq
inductive Tg where
 |nm (i:Nat)|tp (is:LN)
 deriving DecidableEq
set_option genSizeOf false in
set_option genInjectivity false in
inductive PX where
 |var (i:Nat)|int (i:Int)|str (x:Str)|bl (b:Bool)|non
 |glo (x:Str)
 |bin (op:hZ) (a b:PX)
 |cmp (op:dy) (a b:PX)
 |and (a b:PX)|or (a b:PX)|not (a:PX)|ife (c a b:PX)
 |call (f:Str) (as:PX)
 |bi (f:Bi) (as:PX)
 |mt (m:Mt) (o as:PX)
 |idx (a b:PX)|slc (a lo hi:PX)|nop
 |lst (as:PX)|tup (as:PX)|dnew (b:Bool)|dsp (a b:PX)|dof (a:PX)
 |comp (mask:List Bool) (tgs:LS) (tg:Tg) (ik:ItK) (its cond elt:PX)
 |anil|acons (a as:PX)|ng (i:Int)|lrv (a:PX)
structure Ev where
 sp:Str->Sp
 va:Str->V
structure W3 where
 e:TE
 t:TT
 a:TA
def never:W3:=#[λ_ _ _=>False,λ_ _ _=>False,λ_ _ _=>False]
def YH(K:QC)(x:V)(H:Hp)(Q:Bool->Hp->Prop):Prop:=match x with
 | .bl b=>Q b H|.int i=>Q (i != 0) H|.non=>Q kd H|.str z=>z.9<=kn/\Q ((z.9:Int) != 0) H|x=>∃k,zq K x H k/\Q k H
def Fb(x:V)(H:Hp)(Q:Bool->Hp->Prop):Prop:=match x with
 | .bl b=>Q b H|_=>False
def ig(K:QC):hZ->R2
 | .Add=>jt K|.Sub=>Ds|.Mult=>Ms K|.FloorDiv=>vh|.Mod=>Os|_=>λ_ _ _ _=>False
noncomputable def J1(neg:Bool):R2:=λx y H Q=>match y with
 | .non=>Q (.bl (if neg then !decide (x=.non) else decide (x=.non))) H|.bl c=>∃b,x=.bl b/\Q (.bl (if neg then !decide (b=c) else decide (b=c))) H|_=>False
def vb(K:QC):dy->R2
 | .Eq=>rEq K kd|.NotEq=>rEq K kf|.Lt=>R3 λi j=>decide (i<j)|.LtE=>R3 λi j=>decide (i<=j)|.Gt=>R3 λi j=>decide (j<i)|.GtE=>R3 λi j=>decide (j<=i)|.In=>tU K kd|.NotIn=>tU K kf|.Is=>J1 kd|.IsNot=>J1 kf
def T3(K:QC):R2:=λx y H Q=>match x,y with
 | .str z,.int i=>z.9<=kn/\∃c,vD z.cps.toList i=jr c/\Q (.str #[(qG [c])]) H|.ref a,.int i=>∃h v,(YC K H a h∨LD K H a h)/\vD h i=jr v/\Q v H|.ref a,.str z=>∃v,JT K H a (.str z) (jr v)/\Q v H|.ref a,.ref b=>∃v,JT K H a (.ref b) (jr v)/\Q v H|_,_=>False
def DZ(K:QC):LV->Hp->VK->Prop:=λk H Q=>∃p,k=[.ref p]/\((∃z:LS,YC K H p (z.map V.str)/\z.9<64/\∀l h,H l=kv->h.Perm z->ai h=kf->Q (.ref l) (FA H l (.lst (h.map V.str)))) ∨
   (∃u,YC K H p u/\u.9<64/\(∀x∈u,∃a,∃z:LS,x=.ref a/\YC K H a (z.map V.str))/\∀l w,H l=kv->w.Perm u->Q (.ref l) (FA H l (.lst w))) ∨
   (∃v:LJ,YC K H p (v.map V.int)/\v.9<64/\∀l (y:LJ),H l=kv->y.Perm v->y.Pairwise (·<=·)->Q (.ref l) (FA H l (.lst (y.map V.int)))))
def S7(K:QC):LV->Hp->VK->Prop:=λx H Q=>∃p h,x=[.ref p]/\YC K H p h/\∀l,H l=kv->Q (.ref l) (FA H l (.tup h))
def Hv(K:QC):Bi->LV->Hp->VK->Prop
 | .len=>Ps K|.all=>Es K|.any=>As K|.sorted=>DZ K|.min=>λh H Q=>∃i j,h=[.int i,.int j]/\Q (.int (if j<i then j else i)) H|.tuple=>S7 K
def kh:V->LV->Hp->VK->Prop:=λx y H Q=>∃l i h k v,x=.ref l/\y=[.int i]/\H l=jr (.lst h)/\UT h.9 i=jr k/\h[k]?=jr v/\Q v (FA H l (.lst (h.eraseIdx k)))
def xh:V->LV->Hp->VK->Prop:=λx z H Q=>∃l b y h,x=.ref l/\z=[.ref b]/\H l=jr (.lst y)/\H b=jr (.lst h)/\y.9+h.9<=kn/\Q .non (FA H l (.lst (y++h)))
def T7:V->LV->Hp->VK->Prop:=λx u H Q=>∃z y i h,x=.str z/\u=[.str y]/\qF z y 0 z.9 1=i::h/\Q (.int (i:Int)) H
def mf(K:QC):Mt->V->LV->Hp->VK->Prop
 | .append=>FZ|.pop=>kh|.setd=>fM K|.index=>T7|.extend=>xh
noncomputable def Mt.ty:Mt->String
 | .append=>"list"|.pop=>"list"|.setd=>"dict"|.index=>"str"|.extend=>"list"
def iN(x:V)(H:Hp)(Q:Option Int->Hp->Prop):Prop:=match x with
 | .int i=>Q (jr i) H|_=>False
inductive Item where
 |one (v:V)|tup (vs:LV)
def pC(K:QC):ItK->LV->Hp->(List Item->(Hp->Prop)->Hp->Prop)->Prop
 | .val,[.ref a],H,R=>(∃h,YC K H a h/\R (h.map .one) (λH=>YC K H a h) H)∨(∃h,LD K H a h/\R (h.map .one) (λH=>LD K H a h) H)∨(∃y,∃x:List KE,H a=jr (.dT y x)/\R (x.map λp=>.one (.ref p.2.1)) (λH=>H a=jr (.dT y x)) H)|.rng1,[.int j],H,R=>(-(2 ^ 62)<=j/\j<2 ^ 62)/\R ((Qo j.toNat).map λ(i:Nat)=>.one (.int (i:Int))) (λ_=>True) H|.enum,[.ref a],H,R=>∃z h,Src.adr z=a/\e6 K H z h/\R (h.zipIdx.map λp=>.tup [.int (p.2:Int),p.1]) (λH=>e6 K H z h) H|.rev,[.ref a],H,R=>∃h,YC K H a h/\R (h.reverse.map .one) (λH=>YC K H a h) H|.itm,[.ref a],H,R=>∃y,∃x:List KE,H a=jr (.dT y x)/\R (x.map λp=>.tup [.ref p.2.1,p.2.2]) (λH=>H a=jr (.dT y x)) H|_,_,_,_=>False
noncomputable def gB:LN->LV->St->Option St
 |[],[],σ=>jr σ|i::is,v::vs,σ=>gB is vs (σ.set i (jr v))|_,_,_=>kv
def EE(K:QC):Tg->TG
 | .nm i=>λv x H Q=>Q (x.set i (jr v)) H|.tp z=>λv x H Q=>match v with
  | .ref p=>∃y h,LD K H p y/\gB z y x=jr h/\Q h H|_=>False
def bindI(K:QC)(z:Tg):Item->St->Hp->(St->Hp->Prop)->Prop
 | .one v=>EE K z v|.tup y=>λx H Q=>match z with
  | .tp w=>∀u,Same H u->∃h,gB w y x=jr h/\Q h u|.nm i=>∀p,H p=kv->Q (x.set i (jr (.ref p))) (FA H p (.tup y))
def sv(K:QC)(xs:List Item)(st:Hp->Prop)(bind:Item->St->Hp->(St->Hp->Prop)->Prop)(tc:TT)(te:TE)(σ:St)(H:Hp)(Q:VK):Prop :=
 ∃W:Nat->LV->Hp->Prop,W 0 [] H/\(∀i h H,i<=xs.9->W i h H->st H) /\
  (∀i x h H,xs[i]?=jr x->W i h H->bind x σ H λz u=>tc z u λb v=>if b=kf then te z v λy w=>h.9<kn/\W (i+1) (h++[y]) w else W (i+1) h v) /\
  ∀h u,W xs.9 h u->h.9<=kn/\∀p,u p=kv->Q (.ref p) (FA u p (.lst h))
structure Yields(J:It)(xs:List Item)(st:Hp->Prop):Prop where
 go:∀i H,st H->i<xs.9->J.go i H
 yld:∀i H x H',st H->i<xs.9->J.yld i H x H'->∃it,xs[i]?=jr it/\match it with
  | .one v=>x=v/\H'=H|.tup vs=>∃p,H p=kv/\x=.ref p/\H'=FA H p (.tup vs)
 stop:∀i H,st H->xs.9<=i->J.stop i H
def Jv(J:It)(g:TG)(tc:TT)(te:TE)(k:St)(l:Hp)(Q:VK):Prop:=∃W:Nat->Nat->LV->St->Hp->Prop,(∃m,W 0 m [] k l) /\
 ∀i m h v u,W i m h v u->(J.stop i u/\h.9<=kn/\∀p,u p=kv->Q (.ref p) (FA u p (.lst h))) ∨
  (J.go i u/\∀x e,J.yld i u x e->g x v e λz j=>tc z j λb a=>if b=kf then te z a λy f=>h.9<kn/\∃w,w < m/\W (i+1) w (h++[y]) z f else ∃w,w < m/\W (i+1) w h z a)
def y3(K:QC)(xs:List Item)(st:Hp->Prop)(x:Tg)(tc:TT)(te:TE)(h:St)(H:Hp)(Q:VK):Prop:=∀J,Yields J xs st->Jv J (EE K x) tc te h H Q
def isNop:PX->Bool
 | .nop=>kf|_=>kd
def wp(K:QC)(Γ:Ev):PX->XK->W3
 | .var i,E=>let e:TE:=λh H Q=>match h[i]? with
   |some (jr v)=>Q v H|_=>False
  #[e,λh H Q=>e h H λx z=>YH K x z Q,never.a]
 | .int i,E=>#[λ_ H Q=>Q (.int i) H,λ_ H Q=>Q (i != 0) H,never.a]|.str x,E=>#[λ_ H Q=>Q (.str x) H,never.t,never.a]|.bl b,E=>#[λ_ H Q=>Q (.bl b) H,λ_ H Q=>Q b H,never.a]|.non,E=>#[λ_ H Q=>Q .non H,λ_ H Q=>Q kd H,never.a]|.glo x,E=>#[λ_ H Q=>Q (Γ.va x) H,λ_ H Q=>YH K (Γ.va x) H Q,never.a]|.bin op a b,E=>let e:TE:=λh H Q=>(wp K Γ a E).e h H λx z=>(wp K Γ b E).e h z λy w=>ig K op x y w Q
  #[e,λh H Q=>e h H λx z=>YH K x z Q,never.a]
 | .cmp op a b,E=>let e:TE:=λh H Q=>(wp K Γ a E).e h H λx z=>(wp K Γ b E).e h z λy w=>vb K op x y w Q
  #[e,λh H Q=>e h H λx z=>Fb x z Q,never.a]
 | .and a b,E=>#[λh H Q=>(wp K Γ a E).e h H λx z=>Fb x z λc w=>if c=kf then(wp K Γ b E).e h w Q else Q (.bl kd) w,
   λh H Q=>(wp K Γ a E).t h H λc z=>if c=kf then(wp K Γ b E).t h z Q else Q kd z,never.a]
 | .or a b,E=>#[λh H Q=>(wp K Γ a E).e h H λx z=>Fb x z λc w=>if c=kf then Q (.bl kf) w else(wp K Γ b E).e h w Q,
   λh H Q=>(wp K Γ a E).t h H λc z=>if c=kf then Q kf z else(wp K Γ b E).t h z Q,never.a]
 | .not a,E=>#[λh H Q=>(wp K Γ a E).e h H λx z=>YH K x z λc w=>Q (.bl (!c)) w,λh H Q=>(wp K Γ a E).t h H λc z=>Q (!c) z,never.a]|.ife c a b,E=>#[λh H Q=>(wp K Γ c E).t h H λk z=>if k=kf then(wp K Γ a E).e h z Q else(wp K Γ b E).e h z Q,never.t,never.a]|.call f as,E=>let e:TE:=λh H Q=>(wp K Γ as E).a h H λj z=>Γ.sp f j z Q E
  #[e,λh H Q=>e h H λx z=>YH K x z Q,never.a]
 | .bi f as,E=>let e:TE:=λh H Q=>(wp K Γ as E).a h H λj z=>Hv K f j z Q
  #[e,λh H Q=>e h H λx z=>YH K x z Q,never.a]
 | .mt m o as,E=>let e:TE:=λh H Q=>(wp K Γ o E).e h H λx z=>f6 K m.ty x z/\(wp K Γ as E).a h z λj w=>mf K m x j w Q
  #[e,λh H Q=>e h H λx z=>YH K x z Q,never.a]
 | .idx a b,E=>let e:TE:=λh H Q=>(wp K Γ a E).e h H λx z=>(wp K Γ b E).e h z λy w=>T3 K x y w Q
  #[e,λh H Q=>e h H λx z=>YH K x z Q,never.a]
 | .slc a lo hi,E=>#[λh H Q=>(wp K Γ a E).e h H λx z =>
   (if isNop lo=kf then λ(R:Option Int->Hp->Prop)=>R kv z else λR=>(wp K Γ lo E).e h z λl w=>iN l w R) λl w =>
   (if isNop hi=kf then λ(R:Option Int->Hp->Prop)=>R kv w else λR=>(wp K Γ hi E).e h w λu n=>iN u n R) λu n=>Fy K x l u n Q,never.t,never.a]
 | .nop,E=>never|.lst as,E=>#[λh H Q=>(wp K Γ as E).a h H λg z=>g.9<=kn/\∀p,z p=kv->Q (.ref p) (FA z p (.lst g)),never.t,never.a]|.tup as,E=>#[λh H Q=>(wp K Γ as E).a h H λg z=>g.9<=kn/\∀p,z p=kv->Q (.ref p) (FA z p (.tup g)),never.t,never.a]|.comp mask tgs tg ik its cond elt,E=>#[λh H Q=>(wp K Γ its E).a h H λj z=>pC K ik j z λg st w =>
   y3 K g st tg (if isNop cond=kf then λ_ H Q=>Q kf H else(wp K Γ cond (λ_ _ _=>False)).t) (wp K Γ elt (λ_ _ _=>False)).e (DJ tgs.9 mask h) w Q,never.t,never.a]
 | .dnew b,E=>#[λ_ H Q=>∀p,H p=kv->Q (.ref p) (FA H p (.dT 0 [])),never.t,never.a]|.dof a,E=>#[λh H Q=>(wp K Γ a E).e h H λx z=>Jl K x z Q,never.t,never.a]|.dsp a b,E=>#[λh H Q=>∀p,H p=kv->(wp K Γ a E).e h (FA H p (.dT 0 [])) λy z=>(wp K Γ b E).e h z λv w=>w p=jr (.dT 0 [])/\∃b q,y=.ref b/\BP K w b q/\∀r,Q (.ref p) (FA w p (.dT r [(q,b,v)])),never.t,never.a]|.ng i,E=>#[λh H Q=>Q (.int (-i)) H,never.t,never.a]|.lrv a,E=>#[λh H Q=>(wp K Γ a E).e h H λx z=>nX K x z Q,never.t,never.a]|.anil,E=>#[never.e,never.t,λ_ H Q=>Q [] H]|.acons a as,E=>#[never.e,never.t,λh H Q=>(wp K Γ a E).e h H λx z=>(wp K Γ as E).a h z λg w=>Q (x::g) w]
structure Glob where
 ev:Ev
 fn:Str->Prop
 val:Str->Prop
 no:Str->Prop
noncomputable def Bi.nm:Bi->Str
 | .len=>"len"|.all=>"all"|.any=>"any"|.sorted=>"sorted"|.min=>"min"|.tuple=>"tuple"
noncomputable def Mt.nm:Mt->Str
 | .append=>"append"|.pop=>"pop"|.setd=>"setdefault"|.index=>"index"|.extend=>"extend"
def Lu(G:Glob):ItK->Prop
 | .val=>True|.rng1=>G.no "range"|.enum=>G.no "enumerate"|.rev=>G.no "reversed"|.itm=>True
def vB(G:Glob):PX->Prop
 | .glo x=>G.val x|.dof a=>G.no "dict"/\vB G a|.bin _ a b | .cmp _ a b | .and a b | .or a b | .idx a b | .acons a b | .dsp a b=>vB G a/\vB G b
 | .not a | .lst a | .tup a=>vB G a
 | .lrv a=>G.no "list"/\G.no "reversed"/\vB G a|.ife a b c | .slc a b c=>vB G a/\vB G b/\vB G c
 | .call f y=>G.fn f/\vB G y|.bi f y=>G.no f.nm/\vB G y|.mt _ o y=>vB G o/\vB G y|.comp _ _ _ v z h u=>Lu G v/\vB G z/\vB G h/\vB G u|_=>True
structure SC where
 N:LS
 sc:hE
def NC:Expr->Bool
 | .Starred _ _=>kd|_=>kf
noncomputable def Kk(S:SC)(i:Nat)(x:Str):Bool :=
 S.N[i]?==jr x&&(S.sc.names.lookup x==jr .local||S.sc.names.lookup x==jr .cell||S.sc.names.lookup x==jr .free)&&x != "__debug__" && x != "__classdict__"
noncomputable def Mn(S:SC)(i:Nat)(x:Str):Bool:=S.N[i]?==jr x&&S.sc.names.lookup x==jr .local
noncomputable def gY(S:SC)(x:Str):Bool:=S.sc.names.lookup x==jr .globalImplicit&&x != "__debug__" && x != "__name__"
def K2(S:SC)(h:hE)(y:LS)(x:List Bool):SC:=#[y++UB x 0 S.N,zN h S.sc]
def aK:LS->Bool
 |[]=>kf|x::r=>!r.contains x&&aK r
def yb(S:SC)(h:hE)(z:LS)(x:List Bool):Bool :=
 h.kind==.function&&h.names.all (λy=>y.2 != .cell&&(y.2 != .local||(h.names.lookup y.1==jr .local&&(z.contains y.1||y.1==(".0":Str)))) &&
  (y.2 != .free||S.sc.names.lookup y.1==jr .cell||S.sc.names.lookup y.1==jr .free))&&aK (z++UB x 0 S.N)&&!(z++UB x 0 S.N).contains (".0":Str)
noncomputable def Bq(c:Bool)(S:SC)(i:Nat)(x:Str):Bool:=S.N[i]?==jr x&&(S.sc.names.lookup x==jr .local||(c&&S.sc.names.lookup x==jr .cell))
def Ow(c:Bool)(S:SC):Tg->Expr->Bool
 | .nm i,.Name x _=>Bq c S i x|.tp is,.Tuple es _ _=>is.9==es.9&&(is.zip es).all λp=>match p.2 with
  | .Name x _=>Bq c S p.1 x|_=>kd
 |_,_=>kd
noncomputable def yS:Expr->Bool
 | .Call (.Name _ _) [] [] _=>kd|_=>kf
def GU:Expr->Bool
 | .Set _ _ _=>kd|_=>kf
def zS:Expr->Bool
 | .Slice _ _ _ _=>kd|_=>kf
def oF:PX->Bool
 | .anil=>kf|.acons _ r=>oF r|_=>kd
def iS:Expr->Bool
 | .Tuple _ _ _=>kf|_=>kd
section
variable{α:Type}
section
variable{e:Expr}{l:List α}
noncomputable def tK(e:Expr)(f:Str->Pos->Bool):Bool:=match e with | .Name x p=>f x p|_=>kd
noncomputable def mH(e:Expr)(f:ri->Bool):Bool:=match e with | .Constant c _ _=>f c|_=>kd
noncomputable def Yh(e:Expr)(f:Expr->hZ->Expr->Pos->Bool):Bool:=match e with | .BinOp l o r p=>f l o r p|_=>kd
noncomputable def um(e:Expr)(f:sh->Expr->Bool):Bool:=match e with | .UnaryOp o x _=>f o x|_=>kd
noncomputable def Jh(e:Expr)(f:Expr->List dy->List Expr->Bool):Bool:=match e with | .Compare l x h _=>f l x h|_=>kd
noncomputable def ZX(e:Expr)(f:BoolOp->List Expr->Pos->Bool):Bool:=match e with | .BoolOp o h p=>f o h p|_=>kd
noncomputable def Ut(e:Expr)(f:Expr->Expr->Expr->Bool):Bool:=match e with | .IfExp t l r _=>f t l r|_=>kd
noncomputable def YX(e:Expr)(f:Expr->List Expr->List la->Pos->Bool):Bool:=match e with | .Call g x h p=>f g x h p|_=>kd
noncomputable def L8(e:Expr)(f:Expr->Str->Pos->Bool):Bool:=match e with | .Attribute v n p=>f v n p|_=>kd
noncomputable def EZ(e:Expr)(f:Expr->Expr->Pos->Bool):Bool:=match e with | .Subscript v i p=>f v i p|_=>kd
noncomputable def IZ(e:Expr)(f:Option Expr->Option Expr->Option Expr->Bool):Bool:=match e with | .Slice l h s _=>f l h s|_=>kd
noncomputable def SR(e:Expr)(f:List Expr->Pos->Bool):Bool:=match e with | .List h p=>f h p|_=>kd
noncomputable def oh(e:Expr)(f:List Expr->Nat->Pos->Bool):Bool:=match e with | .Tuple h k p=>f h k p|_=>kd
noncomputable def cm(e:Expr)(f:Expr->List RB->hE->Pos->Bool):Bool:=match e with | .ListComp x h sc p=>f x h sc p|_=>kd
noncomputable def JX(e:Expr)(f:List (Option Expr)->List Expr->Bool):Bool:=match e with | .Dict x h _=>f x h|_=>kd
noncomputable def KL(l:List α)(f:α->Bool):Bool:=match l with | [x]=>f x|_=>kd
noncomputable def Ze(l:List α)(f:α->List α->Bool):Bool:=match l with|x::r=>f x r|_=>kd
noncomputable def Vt(o:Option α)(n:Bool)(f:α->Bool):Bool:=match o with|none=>n|some x=>f x
theorem mG{f:Str->Pos->Bool}(h:tK e f=kf):∃x p,e=.Name x p/\f x p=true:=by
 cases e with|Name x p=>exact#[x,p,rfl,h]|_=>exact(QG h).elim
theorem GE{f:ri->Bool}(h:mH e f=kf):∃c k p,e=.Constant c k p/\f c=true:=by
 cases e with|Constant c k p=>exact#[c,k,p,rfl,h]|_=>exact(QG h).elim
theorem Ke{f:Expr->hZ->Expr->Pos->Bool}(h:Yh e f=kf):∃l o r p,e=.BinOp l o r p/\f l o r p=true:=by
 cases e with|BinOp l o r p=>exact#[l,o,r,p,rfl,h]|_=>exact(QG h).elim
theorem D8{f:sh->Expr->Bool}(h:um e f=kf):∃o x p,e=.UnaryOp o x p/\f o x=true:=by
 cases e with|UnaryOp o x p=>exact#[o,x,p,rfl,h]|_=>exact(QG h).elim
theorem Ye{f:Expr->List dy->List Expr->Bool}(h:Jh e f=kf):∃l y x p,e=.Compare l y x p/\f l y x=true:=by
 cases e with|Compare l y x p=>exact#[l,y,x,p,rfl,h]|_=>exact(QG h).elim
theorem XU{f:BoolOp->List Expr->Pos->Bool}(h:ZX e f=kf):∃o es p,e=.BoolOp o es p/\f o es p=true:=by
 cases e with|BoolOp o es p=>exact#[o,es,p,rfl,h]|_=>exact(QG h).elim
theorem gm{f:Expr->Expr->Expr->Bool}(h:Ut e f=kf):∃t l r p,e=.IfExp t l r p/\f t l r=true:=by
 cases e with|IfExp t l r p=>exact#[t,l,r,p,rfl,h]|_=>exact(QG h).elim
theorem VU{f:Expr->List Expr->List la->Pos->Bool}(h:YX e f=kf):∃g es ks p,e=.Call g es ks p/\f g es ks p=true:=by
 cases e with|Call g es ks p=>exact#[g,es,ks,p,rfl,h]|_=>exact(QG h).elim
theorem G8{f:Expr->Str->Pos->Bool}(h:L8 e f=kf):∃v n p,e=.Attribute v n p/\f v n p=true:=by
 cases e with|Attribute v n p=>exact#[v,n,p,rfl,h]|_=>exact(QG h).elim
theorem PR{f:Expr->Expr->Pos->Bool}(h:EZ e f=kf):∃v i p,e=.Subscript v i p/\f v i p=true:=by
 cases e with|Subscript v i p=>exact#[v,i,p,rfl,h]|_=>exact(QG h).elim
theorem u4{f:Option Expr->Option Expr->Option Expr->Bool}(h:IZ e f=kf):∃l u s p,e=.Slice l u s p/\f l u s=true:=by
 cases e with|Slice l u s p=>exact#[l,u,s,p,rfl,h]|_=>exact(QG h).elim
theorem XN{f:List Expr->Pos->Bool}(h:SR e f=kf):∃es p,e=.List es p/\f es p=true:=by
 cases e with|List es p=>exact#[es,p,rfl,h]|_=>exact(QG h).elim
theorem re{f:List Expr->Nat->Pos->Bool}(h:oh e f=kf):∃es k p,e=.Tuple es k p/\f es k p=true:=by
 cases e with|Tuple es k p=>exact#[es,k,p,rfl,h]|_=>exact(QG h).elim
theorem iX{f:Expr->List RB->hE->Pos->Bool}(h:cm e f=kf):∃x y sc p,e=.ListComp x y sc p/\f x y sc p=true:=by
 cases e with|ListComp x y sc p=>exact#[x,y,sc,p,rfl,h]|_=>exact(QG h).elim
theorem KU{f:List (Option Expr)->List Expr->Bool}(h:JX e f=kf):∃ks vs p,e=.Dict ks vs p/\f ks vs=true:=by
 cases e with|Dict ks vs p=>exact#[ks,vs,p,rfl,h]|_=>exact(QG h).elim
theorem ZL{f:α->List α->Bool}(h:Ze l f=kf):∃x r,l=x::r/\f x r=true:=by
 cases l with|nil=>exact(QG h).elim|cons x r=>exact#[x,r,rfl,h]
theorem ZB{f:α->Bool}(h:KL l f=kf):∃x,l=[x]/\f x=true:=by
 cases l with
 |nil=>exact(QG h).elim|cons x r =>
  cases r with|nil=>exact#[x,rfl,h]|cons _ _=>exact(QG h).elim
end
end
section
variable{c:ri}{n:Str}{e:Expr}
noncomputable def Up(c:ri)(f:Int->Bool):Bool:=match c with | .int i=>f i|_=>kd
noncomputable def Dv(c:ri)(f:Str->Bool):Bool:=match c with | .str i=>f i|_=>kd
noncomputable def Ci(c:ri)(f:Bool->Bool):Bool:=match c with | .bool i=>f i|_=>kd
def Ui(c:ri):Bool:=match c with | .none=>kf|_=>kd
theorem Ub{f:Int->Bool}(h:Up c f=kf):∃i,c=.int i/\f i=true:=by
 cases c with|int i=>exact#[i,rfl,h]|_=>exact(QG h).elim
theorem Xp{f:Str->Bool}(h:Dv c f=kf):∃i,c=.str i/\f i=true:=by
 cases c with|str i=>exact#[i,rfl,h]|_=>exact(QG h).elim
theorem og{f:Bool->Bool}(h:Ci c f=kf):∃i,c=.bool i/\f i=true:=by
 cases c with|bool i=>exact#[i,rfl,h]|_=>exact(QG h).elim
theorem lg(h:Ui c=kf):c=.none:=by
 cases c with|none=>rfl|_=>exact(QG h).elim
theorem vA{a b:Bool}(h:(a&&b)=kf):a=kf/\b=true:=by cases a<;>cases b<;>first|exact#[rfl,rfl]| exact(QG h).elim
def NJ(S:SC)(n:Str)(e:Expr)(f:List Expr->List la->Pos->Bool):Bool:=YX e λg y h p=>tK g λx _=>n==x&&(gY S x&&f y h p)
theorem yE{S:SC}{f:List Expr->List la->Pos->Bool}(h:NJ S n e f=kf):∃y es ks p,e=.Call (.Name n y) es ks p/\gY S n=kf/\f es ks p=true:=by let#[g,es,ks,p,rfl,w]:=VU h;let#[x,y,rfl,v]:=mG w;have u:=vA v;have z:=vA u.2;have e:=qk u.1;exact#[y,es,ks,p,by rw[e],by rw[e];exact z.1,z.2]
def K9(n:Str)(e:Expr)(f:Expr->List Expr->Pos->Pos->Bool):Bool:=YX e λg z y p=>L8 g λv x h=>n==x&&(y.isEmpty&&(h.endLine==p.line&&f v z h p))
theorem Z0{f:Expr->List Expr->Pos->Pos->Bool}(h:K9 n e f=kf):∃v y es p,e=.Call (.Attribute v n y) es [] p/\(y.endLine==p.line)=kf/\f v es y p=true:=by let#[g,es,i,p,rfl,a]:=VU h;let#[v,x,y,rfl,k]:=G8 a;have w:=vA k;have u:=vA w.2;have z:=vA u.2;have e:=qk w.1;have b:=Qs.mp u.1;exact#[v,y,es,p,by rw[e,b],z.1,z.2]
noncomputable def Gh(x:BoolOp)(r:Expr)(h:List Expr)(pos:Pos):Expr:=match h with
 |[]=>r|q::t=>.BoolOp x (r::q::t) pos
def Aw(y:Bool)(S:SC)(z:ItK)(c:List Expr->Pos->Bool)(t it:Expr)(pos:Pos):Bool:=match z with
 | .val=>y&&c [it] pos|.rng1=>NJ S "range" it λh x p=>x.isEmpty&&KL h λa=>c [a] p|.enum=>iS t&&NJ S "enumerate" it λh x p=>x.isEmpty&&KL h λa=>c [a] p|.rev=>NJ S "reversed" it λh x p=>x.isEmpty&&KL h λa=>c [a] p|.itm=>iS t&&(y&&K9 "items" it λv h _ p=>yS v&&(h.isEmpty&&c [v] p))
noncomputable def iz(h:List Expr)(n:Bool)(f:Expr->Bool):Bool:=match h with
 |[]=>n|c::r=>r.isEmpty&&(!n&&f c)
def isItm:ItK->Bool
 | .itm=>kf|_=>kd
def yC:PX->SC->Expr->Bool
 | .var i,S,e=>tK e λx _=>Kk S i x|.int i,_,e=>mH e λc=>Up c λj=>i==j|.str x,_,e=>mH e λc=>Dv c λy=>x==y|.bl b,_,e=>mH e λc=>Ci c λk=>b==k|.non,_,e=>mH e Ui|.glo x,S,e=>tK e λy _=>x==y&&gY S x|.bin op a b,S,e=>Yh e λl o r _=>op==o&&(yC a S l&&yC b S r)|.cmp op a b,S,e=>Jh e λl Z Y=>KL Z λo=>KL Y λr=>op==o&&(GU r&&(yC a S l&&yC b S r))|.and a b,S,e=>ZX e λo z p=>o==.And&&Ze z λl t=>Ze t λr t=>yC a S l&&yC b S (Gh .And r t p)|.or a b,S,e=>ZX e λo z p=>o==.Or&&Ze z λl t=>Ze t λr t=>yC a S l&&yC b S (Gh .Or r t p)|.not a,S,e=>um e λo x=>o==.Not&&yC a S x|.ife c a b,S,e=>Ut e λt l r=>yC c S t&&(yC a S l&&yC b S r)|.call f as,S,e=>NJ S f e λz w p=>w.isEmpty&&yC as S (.List z p)|.bi f as,S,e=>NJ S f.nm e λz w p=>w.isEmpty&&Ze z λx t=>yC as S (.List (x::t) p)|.mt m o as,S,e=>K9 m.nm e λv z _ p=>oF as&&(yS v&&(decide (z.9<20)&&(yC o S v&&yC as S (.List z p))))|.idx a b,S,e=>EZ e λv i _=>zS i&&(yC a S v&&yC b S i)|.slc a lo hi,S,e=>EZ e λv X _=>IZ X λl h s=>s.isNone&&(yC a S v&&(Vt l (isNop lo) (λe=>!isNop lo&&yC lo S e)&&Vt h (isNop hi) λe=>!isNop hi&&yC hi S e))|.nop,_,_=>kd|.lst as,S,e=>SR e λz p=>yC as S (.List z p)|.tup as,S,e=>oh e λz _ p=>yC as S (.List z p)|.comp mask tgs tg ik its cond elt,S,e=>cm e λK W u p=>KL W λg=>g.is_async==0&&(!isItm ik&&(yb S u tgs mask&&(Ow kd (K2 S u tgs mask) tg g.target&&(GU g.iter &&
   (Aw (oF its) S ik (λz p=>yC its S (.List z p)) g.target g.iter p&&(iz g.ifs (isNop cond) (λc=>yC cond (K2 S u tgs mask) c)&&yC elt (K2 S u tgs mask) K))))))
 | .dnew _,_,e=>JX e λw q=>w.isEmpty&&q.isEmpty|.dof a,S,e=>NJ S "dict" e λz w _=>w.isEmpty&&KL z λy=>NC y&&yC a S y|.dsp a b,S,e=>JX e λw q=>KL w λk=>KL q λv=>Vt k kd (yC a S)&&yC b S v|.ng i,_,e=>um e λo x=>o==.USub&&mH x λc=>Up c λj=>i==j|.lrv a,S,e=>NJ S "list" e λz w _=>w.isEmpty&&KL z λx=>NJ S "reversed" x λz w _=>w.isEmpty&&KL z λy=>NC y&&yC a S y|.anil,_,e=>SR e λz _=>z.isEmpty|.acons a as,S,e=>SR e λz p=>Ze z λx t=>NC x&&(yC a S x&&yC as S (.List t p))
end
variable{Γ:Ev}
theorem Tp(x:V)(H:Hp)(Q:Bool->Hp->Prop):Fb x H Q=∃k,x=.bl k/\Q k H:=by
 apply ot;cases x with|bl b=>exact#[λh=>#[b,rfl,h],λ#[k,e,h]=>by cases e;exact h]|_=>exact#[λh=>Qg h,λ#[k,e,h]=>by cases e]
theorem K8(x:V)(H:Hp)(Q:Option Int->Hp->Prop):iN x H Q=∃i,x=.int i/\Q (jr i) H:=by
 apply ot;cases x with|int b=>exact#[λh=>#[b,rfl,h],λ#[k,e,h]=>by cases e;exact h]|_=>exact#[λh=>Qg h,λ#[k,e,h]=>by cases e]
theorem pZ(K:QC)(x:V)(H:Hp)(Q:Bool->Hp->Prop):YH K x H Q=∃k,zq K x H k/\Q k H:=by
 apply ot;cases x with|bl b=>exact#[λh=>#[b,rfl,h],λ#[k,(e:k=b),h]=>by subst e;exact h]|int i=>exact#[λh=>#[i != 0,rfl,h],λ#[k,(e:k=(i != 0)),h]=>by subst e;exact h]|non=>exact#[λh=>#[kd,rfl,h],λ#[k,(e:k=kd),h]=>by subst e;exact h]|str z=>exact#[λh=>#[_,#[h.1,rfl],h.2],λ#[k,#[u,y],h]=>by subst y;exact#[u,h]]|_=>exact WF
section
variable{X:Cx}
section
variable{e b:Expr}{es:List Expr}{env:Env}{its:LW}
theorem e8:PE X e never.e:=λ_ _ _ _ _ _ h=>Qg h
theorem uN:PT X e never.t:=λ_ _ _ _ _ _ h=>Qg h
theorem YU:PA X es never.a:=λ_ _ _ _ _ _ _ h=>Qg h
theorem dE{a:Expr}{ta:TE}(i:PE X a ta)(g:∀y,isTrue a X.env y=(do let v <- y;standAt a.pos;ro [v] (truthy v))) :
  PT X a (λσ H Q=>ta σ H λx l=>YH X.K x l Q):=by
 intro z s σ H Q I h;refine isTrue_plain (DB (i z s σ H _ I h) λv k #[x,w,j,f,u]=>?_) (g _);have u:YH X.K x w Q:=u;rw[pZ]at u;exact z7 z k σ w x v Q j f u
theorem B8{f:kb->kb->Sem kb}:yF X f (λ_ _ _ _=>False):=λ_ _ _ _ _ _ _ _ _ _ _ _ h=>h.elim
theorem vm(h:hZ):yF X (hG h) (ig X.K h):=by
 cases h with|Add=>exact op_add|Sub=>exact op_sub|Mult=>exact zm|FloorDiv=>exact fe|Mod=>exact op_mod|_=>exact B8
theorem sV(neg:Bool){h:IB}{s:kt}{σ:St}{H:Hp}{b c:Bool}{Q:VK}(I:Inv X h σ H s)(q:Q (.bl (if neg then !decide (b=c) else decide (b=c))) H):ku (k0 X.prog X.w) X.A (vx (if neg then .IsNot else .Is) (.bool b) (.bool c)) (EP X h σ Q) X.xe s:=by
 have e:vx (if neg then .IsNot else .Is) (.bool b) (.bool c)=ti (.bool (if neg then !decide (b=c) else decide (b=c))):=by cases neg<;>cases b<;>cases c<;>rfl
 rw[e];exact QL #[.bl _,H,I,rfl,q]
theorem C8(g:X.A.units+66<gp)(f:dy):yF X (vx f) (vb X.K f):=by
 cases f with
 |Eq=>exact op_eq ()|NotEq=>exact op_ne ()|Lt=>exact MR _root_.L2.op_lt|LtE=>exact MR _root_.L2.op_le|Gt=>exact MR _root_.L2.op_gt|GtE=>exact MR _root_.L2.op_ge|In=>exact Yt g|NotIn=>exact U8 g|Is =>
  intro z s a H x y v u Q I k w h;cases y with|non=>exact km z s a H x _ v u Q I k w #[rfl,h]|bl c=>let#[b,rfl,q]:=h;cases k;cases w;cases b<;>cases c<;>exact sV kd I q|_=>exact Qg h
 |IsNot =>
  intro z s a H x y v u Q I k w h;cases y with|non=>exact de z s a H x _ v u Q I k w #[rfl,h]|bl c=>let#[b,rfl,q]:=h;cases k;cases w;cases b<;>cases c<;>exact sV kf I q|_=>exact Qg h
theorem ao(Z:X.A.units+66<gp):zc X (T3 X.K):=by
 intro w k f s n H x y v u Q I r p h Y;have sq:=λh=>fo (X:=X) w k f s n H x y v u Q I r p h Y;have dc:=λh=>Vf Z w k f s n H x y v u Q I r p h Y;cases x with
 |str z =>
  cases y with|int i=>let#[W,c,m,q]:=h;exact sq (.inr (.inr #[z,i,c,rfl,rfl,W,m,q]))|_=>exact Qg h
 |ref a =>
  cases y with
  |int i=>let#[o,j,l,m,q]:=h;rcases l with l|l;exact sq (.inl #[a,o,i,j,rfl,rfl,l,m,q]);exact sq (.inr (.inl #[a,o,i,j,rfl,rfl,l,m,q]))
  |str z=>let#[j,g,q]:=h;exact dc #[a,j,rfl,g,q]|ref b=>let#[j,g,q]:=h;exact dc #[a,j,rfl,g,q]|_=>exact Qg h
 |_=>exact Qg h
theorem d9{x:dy}(h:GU b=kf):l4 x b=false:=by cases b<;>first|rfl|cases h
theorem Hd(h:zS b=kf):A2 b:=by intro o i;cases b<;>first|rfl|cases h
theorem lB(env:Env)(h:NC e=kf):xk (e::es) env=(kd,g6 e env)::xk es env:=by cases e<;>first|rfl|cases h
theorem FX(h:GU e=kf)(x:kb):hQ e env x=ti x:=by cases e<;>first|rfl|cases h
theorem c9{o:Expr}{n:Str}(h:yS o=kf):DC o n env (g6 o env)=g6 o env:=by unfold DC;split;cases h;rfl
theorem df:jc X "list.pop" kh:=by intro z s f H x u v g Q I j m h;let#[l,i,u,k,y,rfl,rfl,a,hk,n,q]:=h;let#[o,r,e3,p]:=aS hk;have hl:u.9<=sizeLine:=(show fB X.prog X.w H s.1 l (.lst u) from I.hok l _ a).1;rw[qA]at hl;exact Y9 z s f H _ _ v g Q I j m #[l,u,i,k,y,rfl,rfl,a,(),(),o,n,q]
theorem jU{x:LS}(h:oA (x.map V.str) its):aj its x:=by
 induction x generalizing its with
 |nil=>cases h;exact .nil|cons y x z =>
  cases h with|cons h t=>let#[k,rfl]:=h;exact .cons _ _ (z t)
theorem J3{x:LS}(h:aj its x):oA (x.map V.str) its:=by
 induction h with|nil=>exact .nil|cons y t _ z=>exact .cons #[t,rfl] z
theorem j4{out:LW}(g:its.Perm out):∀{xs:LV},oA xs its->∃z,z.Perm xs/\oA z out:=by
 induction g with
 |nil=>intro xs r;cases r;exact#[[],QBf _,.nil]|cons x _ k =>
  intro xs r;cases r with|cons h t=>let#[z,p,v]:=k t;exact#[_::z,p.cons _,.cons h v]
 |swap x y l =>
  intro xs r;cases r with
  |cons h t=>cases t with|cons i t=>exact#[_::_::_,QCh.swap _ _ _,.cons i (.cons h t)]
 |trans _ _ f a=>intro xs r;let#[z,p,v]:=f r;let#[w,q,u]:=a v;exact#[w,q.trans p,u]
theorem R6{xs:LV}{v:kb}(r:oA xs its)(h:v∈its):∃x∈xs,JA x v:=by
 induction r with
 |nil=>exact nomatch h
 |cons r t z=>rcases QK.mp h with e|h;subst e;exact#[_,QE,r];let#[x,u,y]:=z h;exact#[x,QF _ u,y]
theorem J5{vs:LW}{ns:LJ}(h:ac vs ns):oA (ns.map V.int) vs:=by
 induction h with|nil=>exact .nil|cons n t _ x=>exact .cons #[t,rfl] x
theorem xW(hu:X.A.units+66<gp):XC X (.builtin "sorted") (DZ X.K):=by
 intro pins s σ H xs us Q I r h;let#[p,rfl,h]:=h;rcases h with⟨ss,W,E,q⟩| ⟨xs,W,E,hx,q⟩| ⟨ns,W,E,q⟩
 skip;let#[u,rfl,m]:=FH r;cases m;let#[its,g,Y,hz]:=I.list W;have hl:=g.9;rw[QA]at hl;refine sorted_strs Y.isList (by simpa using jU g) () λout l J F a3=>?_;let#[e,B]:=QCN s.1 its out;have hlen:=(vR J).1;have hp:=F.length_eq;refine#[.ref (s.1.1.size+1),_,I.laid (t':=s.toks) (λb o z=>QB3 z) (qq _) (show fB X.prog X.w _ _ _ (.lst (l.map V.str)) from#[by rw[QA,qA];omega,out.toList,e,J3 J,by simpa using B]),rfl,q _ l (I.hok.fresh (qq _)) F a3];skip;let#[u,rfl,m]:=FH r;cases m;let#[its,g,Y,hz]:=I.list W;have hl:=g.9;have f:∀v∈its,∃b dd M n k,∃j:LS,v=.ref b/\s.1.get? b=jr { cls:=.type "list",dict:=dd,data:=.seq k n,slots:=M }/\aj k.toList j:=λv hv=>by let#[x,S,N]:=R6 g hv;let#[a,j,rfl,sq]:=hx x S;cases N;let#[i,O,#[o,n,e,c,d,z],_]:=I.list sq;let#[oc,od,R,P]:=o;cases c;exact#[a,od,P,n,i.toArray,j,rfl,by rw[e,show R=Data.seq i.toArray n from z],by simpa using jU O]
 refine Ac Y.isList () (λv hv=>?_) (λh3 kp x hx y hy C hC=>?_) λout hp=>?_;let#[b,dd,M,n,k,j,rfl,e,_]:=f v hv;exact#[b,_,rfl,e,rfl];let#[b,dd,M,n,k,j,rfl,e,st]:=f x hx;let#[b2,dd2,sl2,n2,G,ts2,rfl,e2,L]:=f y hy;exact eX (s:={ s with heap:=h3 }) (show X.A.units+1+1<gp by omega) (kp _ _ e) (kp _ _ e2) st L (hC _);let#[e,B]:=QCN s.1 its out.toArray;let#[ys,py,vy]:=j4 hp.symm g;have hp2:=py.length_eq;refine#[.ref (s.1.1.size+1),_,I.laid (t':=s.toks) (λb o z=>QB3 z) (qq _) (show fB X.prog X.w _ _ _ (.lst ys) from#[by rw[qA];omega,out,e,vy,B]),rfl,q _ ys (I.hok.fresh (qq _)) py];let#[u,rfl,m]:=FH r;cases m;let#[its,g,Y,hz]:=I.list W;have hl:=g.9;rw[QA]at hl;refine sorted_ints Y.isList (bY g) () λout Z J F a3=>?_;let#[e,B]:=QCN s.1 its out;have hp:=F.length_eq;refine#[.ref (s.1.1.size+1),_,I.laid (t':=s.toks) (λb o z=>QB3 z) (qq _) (show fB X.prog X.w _ _ _ (.lst (Z.map V.int)) from#[by rw[QA,qA];omega,out.toList,e,J5 J,by simpa using B]),rfl,q _ Z (I.hok.fresh (qq _)) F a3]
theorem R5:XC X (.type "tuple") (S7 X.K):=by intro x s y H k u Q I r h;let#[p,z,rfl,w,v]:=h;exact VP x s y H _ u Q I r #[p,z,rfl,.inl #[w,v]]
theorem Vn:jc X "str.index" T7:=by intro k s l H x m v n Q I a g h;let#[z,y,i,w,rfl,rfl,j,q]:=h;let#[t,rfl]:=a;let#[u,rfl,f]:=FH g;let#[o,rfl]:=f;exact PySem.SC.index j #[.int _,H,I.tok _,#[_,rfl],q]
theorem gf:jc X "list.extend" xh:=by intro y s u H x z v k Q I a f h;let#[l,b,z,w,rfl,rfl,h]:=h;exact T4 y s u H _ _ v k Q I a f #[l,b,z,w,rfl,rfl,h]
theorem Fv(h:X.A.units+66<gp)(hc:X.calm=kf)(f:Bi):(∃id,g7 f.nm=jr (.builtin id)/\XC X (.builtin id) (Hv X.K f))∨∃T,g7 f.nm=jr (.type T)/\XC X (.type T) (Hv X.K f):=by
 cases f with|len=>exact .inl #[_,PySem.boot_len,db]|all=>exact .inl #[_,PyProof.Rows.boot_all,Jb hc]|any=>exact .inl #[_,PyProof.Rows.boot_any,gb hc]|min=>exact .inl #[_,PyProof.Rows.boot_min,S5 hc]|sorted=>exact .inl #[_,PyProof.Rows.boot_sorted,xW h]|tuple=>exact .inr #[_,by kernel_rfl,R5]
end
end
end L2.L3
namespace L2.L3
open PySem PySem.Spec PyProof.Rows
section
variable{S:SC}{i:Nat}{x:Str}
structure OkX(X:Cx)(S:SC)(G:Glob)(E:XK):Prop where
 N:X.N=S.N
 sc:X.env.scope=S.sc
 calm:X.calm=kf
 un:X.A.units+66<gp
 fn:∀f,G.fn f->∃(CX:uc) (k:Nat) (a:ko) (fd:zl) (ps:LS),FnOk X.prog X.w X.K X.mg X.base CX k a fd ps (G.ev.sp f)/\Room k X.A/\X.mg f=jr (.ref a)/\wW X.K (.ref a)=kf/\xK X.K fd ps [] /\
  BO CX X E/\∀l H s e s',CX l H s (λ_ _ _=>False) e s'->False
 val:∀x,G.val x->∃u,X.mg x=jr u/\JA (G.ev.va x) u
 no:∀x,G.no x->X.mg x=kv
def ZT(X:Cx)(Γ:Ev)(E:XK):PX->List Expr->Prop
 | .acons a as,e::es=>PE X e (wp X.K Γ a E).e/\ZT X Γ E as es|_,_=>True
structure Snd(X:Cx)(Γ:Ev)(E:XK)(p:PX)(e:Expr):Prop where
 pe:PE X e (wp X.K Γ p E).e
 pt:PT X e (wp X.K Γ p E).t
 pw:∀op es pos,e=.BoolOp op es pos->PW X e (wp X.K Γ p E).t
 pa:∀es pos,e=.List es pos->PA X es (wp X.K Γ p E).a
 pas:∀es pos,e=.List es pos->ZT X Γ E p es
theorem Hc(h:Kk S i x=kf):S.N[i]?=jr x/\Rv S.sc x/\(x==("__debug__":Str))=kd/\(x==("__classdict__":Str))=false:=by simp only[Kk,Qb,Wa,beq_iff_eq,bne_iff_ne,ne_eq]at h;let#[#[#[v,y],u],z]:=h;refine#[v,?_,by simpa using u,by simpa using z];rcases y with(y|y)|y;exact .inl y;exact .inr (.inl y);exact .inr (.inr y)
theorem sf(h:Mn S i x=kf):S.N[i]?=jr x/\S.sc.names.lookup x=jr .local:=by simp only[Mn,Qb,beq_iff_eq]at h;exact h
theorem rF(h:gY S x=kf):S.sc.names.lookup x=jr .globalImplicit/\(x==("__debug__":Str))=kd/\x≠"__name__":=by simp only[gY,Qb,beq_iff_eq,bne_iff_ne,ne_eq]at h;exact#[h.1.1,by simpa using h.1.2,h.2]
theorem ME:∀{l:LS},aK l=kf->l.Nodup
 |[],_=>Qx|x::r,h=>by simp only[aK,Qb,Q7]at h;exact Qj.mpr #[by simpa using h.1,ME h.2]
theorem HV{z:hE}{w:LS}{u:List Bool}(h:yb S z w u=kf):CompSt S.N S.sc z w u:=by simp only[yb,Qb,Q0,beq_iff_eq,Q7]at h;let#[#[#[f,k],b],a]:=h;refine#[f,λy v e=>?_,λy v e=>?_,λy v e=>?_,λy v e=>?_,ME b,by simpa using a];have:=(k y v).1.1;rw[e]at this;exact i3 this (by decide);have:=(k y v).1.2;rw[e]at this;simp at this;exact this.1;have:=(k y v).2;rw[e]at this;simp at this;exact this;have:=(k y v).1.2;rw[e]at this;simp at this;exact this.2
theorem OkX.comp{X:Cx}{G:Glob}{E:XK}(ok:OkX X S G E)(y:hE)(v:LS)(u:List Bool)(s:kt)(H:Hp)(ex:List ko):OkX (IA X y v u s H ex) (K2 S y v u) G (λ_ _ _=>False) where
 N:=by show v++UB u 0 X.N=v++UB u 0 S.N;rw[ok.N]
 sc:=by show zN y X.env.scope=zN y S.sc;rw[ok.sc]
 calm:=ok.calm
 un:=ok.un
 fn:=λf h=>by let#[o,k,a,n,b,m,l,j,g,e,p,w]:=ok.fn f h;exact#[o,k,a,n,b,m,l,j,g,e,λ_ _ _ _ _ _ _ z=>(w _ _ _ _ _ z).elim,w]
 val:=ok.val
 no:=ok.no
end
section
variable{X:Cx}
theorem G9{c:Bool}{S:SC}{i:Nat}{x:Str}(k:X.N=S.N)(y:X.env.scope=S.sc)(u:c=kf->∀x,X.fn x=kf)(h:Bq c S i x=kf):X.N[i]?=jr x/\Mq X.env.scope x/\(X.fn x=kf∨X.env.scope.names.lookup x=jr .local):=by
 simp only[Bq,Qb,Wa,beq_iff_eq]at h;rw[k,y];rcases h.2 with z|⟨w,v⟩
 exact#[h.1,.inl z,.inr z];exact#[h.1,.inr v,.inl (u w x)]
theorem PP{c:Bool}{S:SC}(a:c=kf->∀x,X.fn x=kf)(j:X.N=S.N)(k:X.env.scope=S.sc)(nd:X.N.Nodup):∀(w:LN) (es:List Expr),w.9=es.9->((w.zip es).all λp=>match p.2 with | .Name x _=>Bq c S p.1 x|_=>kd)=kf ->
  jBC X es (λvs σ H Q=>∃y,gB w vs σ=jr y/\Q y H)
 |[],[],_,_=>by
  intro z s σ H vs n Q I r h;let#[y,e,q]:=h;cases vs with|nil=>cases r;simp only[gB]at e;cases e;exact assignInOrder_nil #[σ,H,I,q]|cons _ _=>simp[gB]at e
 |[],_::_,h,_=>by cases h|_::_,[],h,_=>by cases h|i::w,e::es,hl,hz=>by
  simp only[QAQ,qt,Qb]at hz;let#[l,W]:=hz;cases e with
  |Name x pos =>
   let#[g,f,b]:=G9 j k a l;have Z:=PP a j k nd w es (by simpa using hl) W;intro z s σ H vs n Q I r h;let#[y,e,q]:=h;cases vs with
   |nil=>simp[gB]at e|cons v vs =>
    simp only[gB]at e;cases r with|cons r Y=>show ku _ _ (pR (ll (.Name x pos) X.env::(h7 es X.env).map (·.2)) _) _ _ _;refine assignInOrder_cons (DB (SZ (pos:=pos) nd g f b z s σ H v _ _ I r (show V1 i v σ H (λu m=>u=σ.set i (jr v)/\m=H) from#[rfl,rfl])) λ_ o #[u,m,B,A,K]=>?_);subst A K;exact Z z o _ _ vs _ Q B Y #[y,e,q]
  |_=>simp at l
theorem fV{c:Bool}:∀(z:LN) (es:List Expr) (S:SC),z.9=es.9->((z.zip es).all λp=>match p.2 with | .Name x _=>Bq c S p.1 x|_=>kd)=kf->(h7 es X.env).9=es.9/\(h7 es X.env).findIdx? (·.1)=kv
 |[],[],_,_,_=>#[rfl,rfl]|[],_::_,_,h,_=>by cases h|_::_,[],_,h,_=>by cases h|i::z,e::es,S,hl,hz=>by
  simp only[QAQ,qt,Qb]at hz;let#[w,v]:=hz;cases e with|Name x y=>have u:=fV z es S (by simpa using hl) v;have k:h7 (.Name x y::es) X.env=(kd,ll (.Name x y) X.env)::h7 es X.env:=rfl;rw[k];refine#[by rw[QM,QM,u.1],?_];rw[List.findIdx?_cons];simp[u.2]|_=>simp at w
theorem AM:∀{y:LN}{vs:LV}{σ x:St},gB y vs σ=jr x->vs.9=y.9
 |[],[],_,_,_=>rfl|[],_::_,_,_,h=>by simp[gB]at h|_::_,[],_,_,h=>by simp[gB]at h|_::y,_::vs,σ,x,h=>by simp only[gB]at h;rw[QM,QM,AM h]
theorem RZ{c:Bool}{S:SC}{G:Glob}{E:XK}(ok:OkX X S G E)(z:c=kf->∀x,X.fn x=kf)(nd:X.N.Nodup){b:Tg}{e:Expr}(h:Ow c S b e=kf):PG X e (EE X.K b):=by
 cases b with
 |nm i =>
  cases e with|Name x pos=>let#[l,j,g]:=G9 ok.N ok.sc z h;exact SZ nd l j g|_=>cases h
 |tp o =>
  cases e with
  |Tuple m k pos =>
   let#[J,Z]:=vA h;have f:=qk J;let#[C,B]:=fV (X:=X) o m S f Z;have w:=Hl (pos:=pos) (k:=k) (n:=m.9) ok.calm (PP z ok.N ok.sc nd o m f Z) C B;intro y s W H v u Q I r Y;refine w y s W H v u Q I r ?_;cases v with|ref p=>let#[A,a,F,e,q]:=Y;exact#[p,A,rfl,F,by rw[AM e,f],a,e,q]|_=>exact Qg Y
  |_=>cases h
end
variable{Γ:Ev}
theorem Kc(K:QC)(a:ko)(xs:LV):Yields (jBY K a) (xs.map .one) (λH=>YC K H a xs) :=
  { go:=λi H h u=>by
      have z:i<xs.length:=by simpa using u
      exact#[xs,xs[i],h,by simp[z]]
    yld:=λi H x v h _ #[e,y]=>#[.one x,by rw[Qc,y xs h];rfl,rfl,e]
    stop:=λi H h u=>#[xs,h,by simpa using u] }
theorem zk(K:QC)(a:ko)(xs:LV):Yields (jBV K a xs.9) (xs.reverse.map .one) (λH=>YC K H a xs):=by
 have e:∀i,i<xs.9->xs.reverse[i]?=xs[xs.9 - 1 - i]?:=λi y=>List.getElem?_reverse y;have l:(xs.reverse.map Item.one).9=xs.length:=by rw[QA,wm]
 refine#[λi H h y=>?_,λi H x u h y z=>?_,λi H h y=>by rw[l]at y;exact y];rw[l]at y;exact#[y,xs,xs[xs.9 - 1 - i]'(),h,Qk _];rw[l]at y;exact#[.one x,by rw[Qc,e i y,z.2 xs h];rfl,rfl,z.1]
theorem Ij(K:QC)(a:ko)(xs:LV):Yields (jBW K a) (xs.map .one) (λH=>LD K H a xs) :=
  { go:=λi H h u=>by
      have z:i<xs.length:=by simpa using u
      exact#[xs,xs[i],h,by simp[z]]
    yld:=λi H x v h _ #[e,y]=>#[.one x,by rw[Qc,y xs h];rfl,rfl,e]
    stop:=λi H h u=>#[xs,h,by simpa using u] }
theorem jk(u:Int)(n:Nat):Yields (jAl u n) ((Qo n).map λ(k:Nat)=>.one (.int (u+(k:Int)))) (λ_=>True) :=
  { go:=λi H h z=>by
      have y:i<n:=by simpa using z
      exact y
    yld:=λi H x w h z #[e,v]=>by
      have y:i<n:=by simpa using z
      exact#[.one x,by rw[Qc,WP y,v];rfl,rfl,e]
    stop:=λi H h z=>by
      have y:n<=i:=by simpa using z
      exact y }
theorem Xc(K:QC)(z:Src)(c:Nat)(xs:LV):Yields (jBa K z c) (xs.zipIdx.map λp=>.tup [.int ((c+p.2:Nat):Int),p.1]) (λH=>e6 K H z xs) :=
  { go:=λi H h u=>by
      have y:i<xs.length:=by simpa using u
      exact#[xs,xs[i],h,by simp[y]]
    yld:=λi H x g h u #[p,a,v,e,w,k]=>by
      have y:i<xs.length:=by simpa using u
      have f:=k xs h;refine#[.tup [.int ((c+i:Nat):Int),a],?_,p,v,e,w];have b:xs.zipIdx[i]?=jr (a,i):=by rw[List.getElem?_zipIdx,f];simp
      rw[Qc,b];rfl
    stop:=λi H h u=>#[xs,h,by simpa using u] }
theorem K6(ep:Nat)(a:ko)(kvs:List KE):Yields (jBX ep kvs.9 a) (kvs.map λp=>.tup [.ref p.2.1,p.2.2]) (λH=>H a=jr (.dT ep kvs)) :=
  { go:=λi H h y=>by
      have z:i<kvs.length:=by simpa using y
      exact#[kvs,kvs[i],h,rfl,by simp[z]]
    yld:=λi H x w h y #[q,p,u,e,v,k]=>#[.tup [.ref p.2.1,p.2.2],by rw[Qc,k kvs h];rfl,q,u,e,v]
    stop:=λi H h y=>#[kvs,h,rfl,by simpa using y] }
theorem Vc(ep:Nat)(a:ko)(kvs:List KE):Yields (jBZ ep kvs.9 a) (kvs.map λp=>.one (.ref p.2.1)) (λH=>H a=jr (.dT ep kvs)) :=
  { go:=λi H h y=>by
      have z:i<kvs.length:=by simpa using y
      exact#[kvs,kvs[i],h,rfl,by simp[z]]
    yld:=λi H x b h y #[u,k]=>by let#[p,w,v]:=k kvs h;exact#[.one (.ref p.2.1),by rw[Qc,w];rfl,v,u]
    stop:=λi H h y=>#[kvs,h,rfl,by simpa using y] }
noncomputable def MT(h:St->Hp->(List Item->(Hp->Prop)->Hp->Prop)->Prop):TI:=λx H R=>h x H λy st z=>∀J,Yields J y st->R J z
section
variable{X:Cx}{f:Expr}
section
variable{a:Expr}{ta:TA}{p pos k:Pos}{x:Str}{es:List Expr}{d:Nat}
theorem Ld{l:Expr}{t:TE}(hl:PE X l t):PI X f l (MT λσ H R=>t σ H λv m=>pC X.K .val [v] m R):=by
 intro g s σ H R I h;refine DB (hl g s σ H _ I h) λv y #[x,m,i,F,C]=>?_;have j:∀b∈[y.1.1.size],vK X g m b:=λb hb=>by
  have e:b=y.1.1.size:=by simpa using hb
  subst e;exact i.fpOk (QY _) (i.hok.fresh (QY _))
 cases x with
 |ref a =>
  cases F;rcases C with⟨Z,A,q⟩| ⟨Z,A,q⟩| ⟨ep,u,e,q⟩
  let#[Y,E,p,G]:=i.list A;refine WC p.isList ?_;exact#[y.1.1.size,[y.1.1.size],_,_,m,rfl,i.kept (t':=y.toks) λb o e=>QH _ e,K3 a _,#[_,QS _ rfl,rfl,rfl],j,q _ (Kc _ a Z)];let#[Y,E,p,G]:=i.tuple A;refine QB1 (show y.1.IsTuple a Y.toArray from p) ?_;exact#[y.1.1.size,[y.1.1.size],_,_,m,rfl,i.kept (t':=y.toks) λb o e=>QH _ e,RW a _,#[_,QS _ rfl,rfl,rfl],j,q _ (Ij _ a Z)];let#[z,J,Z,r,ob,B,O,N,M,L,P]:=(show fB X.prog X.w m y.1 a (.dT ep u) from i.hok a _ e)
  have W:B.size=u.length:=by have:=o9 qO L;rw[QA,Q2]at this;rw[this,<- qE r]
  refine Uf J O N.1 M ?_;exact#[y.1.1.size,[y.1.1.size],_,_,m,rfl,i.kept (t':=y.toks) λb o e=>QH _ e,V3 (a:=a) (n:=u.9) (ep:=ep),#[_,QS _ rfl,rfl,by rw[<- W];rfl],j,q _ (Vc ep a u)]
 |_=>exact Qg C
theorem Nd(g:x="range")(m:Gl X x)(l:X.mg x=kv)(n:PA X [a] ta)(i:NC a=kf) :
  PI X f (.Call (.Name x p) [a] [] pos) (MT λσ H R=>ta σ H λvs v=>pC X.K .rng1 vs v R):=by
 subst g;intro z s σ H R I h;refine Call_ (nE I m l boot_range (qJ (DB (n pos z s σ H _ I h) λY Z #[vs,v,o,b,u]=>?_) (lB _ i) rfl))
 match vs,u with
 |[.int j],#[#[u,q2],q] =>
  cases b with
  |cons r w =>
   cases w;let#[t,rfl]:=r;refine call_range_1 (R7 o () () u q2 ?_);have e:(j - 0).toNat=j.toNat:=by simp
   rw[e];have y:=jk 0 j.toNat;refine q _ ?_;simpa using y
theorem Dl(Z:x="reversed")(B:Gl X x)(A:X.mg x=kv)(C:PA X [a] ta)(W:NC a=kf) :
  PI X f (.Call (.Name x p) [a] [] pos) (MT λσ H R=>ta σ H λvs w=>pC X.K .rev vs w R):=by
 subst Z;intro z s σ H R I h;refine Call_ (nE I B A QAM (qJ (DB (C pos z s σ H _ I h) λE y #[vs,w,u,m,n]=>?_) (lB _ W) rfl))
 match vs,n with
 |[.ref l],#[xs,hq,q] =>
  cases m with
  |cons r j =>
   cases j;cases r;let#[v,i,Y,F]:=u.list hq;have hl:=i.9;refine QB2 Y.isList ?_;have g:(y.1.push (pL l ((v.toArray.size:Int) - 1))).IsRevIter y.1.1.size l ((xs.9:Int) - 1 - ((0:Nat):Int)):=#[_,QS _ rfl,rfl,by simp[pL,hl]]
   refine QBZ g ?_;refine#[y.1.1.size,[y.1.1.size],_,_,w,rfl,u.kept (t':=y.toks) λb o e=>QH _ e,j7 l _ xs.9,#[Qq _,g],λb hb=>?_,q _ (zk _ l xs)];have e:b=y.1.1.size:=by simpa using hb
   subst e;exact u.fpOk (QY _) (u.hok.fresh (QY _))
theorem A5:g7 ("enumerate":Str)=jr (.type "enumerate"):=by kernel_rfl
theorem Pa{y:IB}{σ:St}{e:Hp}{h:kt}{R:It->Hp->Prop}{c:Nat}{z:Src}{xs:LV}{its:Array kb}{h':vu}(v:Inv X y σ e h)(g:SB h.1 z its)(st:cZ (h.1.1.size+1) h.1.1.size z c 0 h')(j:∀c o,h.1.get? c=jr o->h'.get? c=jr o)
  (q:∀J,Yields J (xs.zipIdx.map λp=>.tup [.int ((c+p.2:Nat):Int),p.1]) (λH=>e6 X.K H z xs)->R J e):ku (k0 X.prog X.w) X.A (l5 (.ref (h.1.1.size+1))) (jAb X y σ (.Tuple es d k) R) X.xe { h with heap:=h' }:=by
 let#[#[i,l],_]:=id st;refine QCD l ?_;have m:=v.kept (h':=h') (t':=h.toks) j;have lt:=g.lt;refine#[_,[h.1.1.size+1,h.1.1.size],_,_,e,rfl,m,U3 (jBw (Nat.succ_ne_self _)) (Qi (WB lt)) (Qi lt),st,λb hb=>?_,q _ (Xc _ z c xs)];have u:h.1.1.size<=b:=by simp only[QK,wv,or_false]at hb;rcases hb with rfl|rfl;exact QA2 _ _;exact QY _
 exact v.fpOk u (v.hok.fresh u)
theorem Pd(l:x="enumerate")(o:Gl X x)(n:X.mg x=kv)(Y:PA X [a] ta)(m:NC a=kf) :
  PI X (.Tuple es d k) (.Call (.Name x p) [a] [] pos) (MT λσ H R=>ta σ H λvs w=>pC X.K .enum vs w R):=by
 subst l;intro u s σ H R I h;refine Call_ (nE I o n A5 (qJ (DB (Y pos u s σ H _ I h) λZ W #[vs,w,v,e,g]=>?_) (lB _ m) rfl))
 match vs,g with
 |[.ref l1],#[z,xs,e1,h1,q] =>
  subst e1;cases e with|cons r b=>cases b;cases r;let#[j,_,y,_]:=v.src h1;refine AY y λA st i=>Pa (xs:=xs) v y st i ?_;simpa using q
theorem Xf{K:QC}{u:V}{H:Hp}{R:List Item->(Hp->Prop)->Hp->Prop}(h:pC K .itm [u] H R):∃a ep kvs,u=.ref a/\H a=jr (.dT ep kvs)/\R (kvs.map λp=>.tup [.ref p.2.1,p.2.2]) (λH=>H a=jr (.dT ep kvs)) H:=by
 cases u with|ref a=>let#[ep,kvs,e,q]:=h;exact#[a,ep,kvs,rfl,e,q]|_=>exact Qg h
theorem Fl{o:Expr}{B:TE}{apos cpos:Pos}(J:PE X o B)(i:DC o "items" X.env (g6 o X.env)=g6 o X.env)(g:(apos.endLine==cpos.line)=kf) :
  bx X (.Tuple es d k) (.Call (.Attribute o "items" apos) [] [] cpos) (MT λσ H R=>B σ H λv l=>pC X.K .itm [v] l R):=by
 intro u s σ H R I h;refine QAq i g (DB (J u s σ H _ I h) λv j #[x,l,C,E,G]=>?_);let#[a,ep,y,rfl,e,q]:=Xf G;cases E;let#[z,L,P,r,ob,W,m,Z,N,M,Q]:=(show fB X.prog X.w l j.1 a (.dT ep y) from C.hok a _ e)
 refine#["dict",_,QAv,PySem.F.slot_dict_items,PySem.F.type_dict_items,#[ob,m,Z.1],λb O=>?_,Wj rfl (QBj (TY m Z.1 L ?_))];cases O;exact#[ob,m,Z.2.1];have A:Inv X u σ l { j with heap:=j.1.push { cls:=.type "dict_items",data:=.fields (qG [.ref a]) } }:=C.kept (t':=j.toks) λb o e=>QH _ e;refine ua #[_,QS _ rfl,rfl,rfl] (QH _ m) N ?_;have Y:W.size=y.length:=by have:=o9 qO M;rw[QA,Q2]at this;rw[this,<- qE r]
 refine#[_,[_],_,_,l,rfl,A.kept (t':=j.toks) λb o e=>QH _ e,TW (a:=a) (n:=y.9) (ep:=ep),#[.none,.none,?_],λb hb=>?_,q _ (K6 ep a y)];rw[<- Y];exact QS _ rfl;have e:=QI.mp hb;subst e;exact A.fpOk (QY _) (A.hok.fresh (QY _))
end
end
section
variable{u σ:St}{K:QC}{k:Tg}{H:Hp}{Q:St->Hp->Prop}
def Tg.at:Tg->LN
 | .nm i=>[i]|.tp h=>h
def JW(k:Tg)(u σ:St):Prop:=u.9=σ.9/\∀(j:Nat),j∉k.at->u[j]?=σ[j]?
theorem G3{i:Nat}{v:Option V}(h:u.9=σ.9)(x:∀j,j≠i->u[j]?=σ[j]?):u.set i v=σ.set i v:=by apply wG;intro j;by_cases e:j=i;subst e;by_cases hl:j<σ.9;rw[qi (),qi hl];rw[qD (by rw[wL];omega),qD (by rw[wL];omega)];rw[qV (qC e),qV (qC e)];exact x j e
theorem yJ:∀(x:LN) (vs:LV) (u σ:St),u.9=σ.9->(∀j,j∉x->u[j]?=σ[j]?)->gB x vs u=gB x vs σ
 |[],[],u,σ,hl,h=>by have:u=σ:=wG λj=>h j (by simp);rw[this]|[],_::_,_,_,_,_=>rfl|_::_,[],_,_,_,_=>rfl|i::x,v::vs,u,σ,hl,h=>by simp only[gB];refine yJ x vs _ _ (by simp[hl]) λj z=>?_;by_cases e:j=i;subst e;by_cases y:j<σ.9;rw[qi (),qi y];rw[qD (by rw[wL];omega),qD (by rw[wL];omega)];rw[qV (qC e),qV (qC e)];exact h j (by simp[e,z])
theorem uF:∀(h:LN) (vs:LV) (σ u:St),gB h vs σ=jr u->u.9=σ.9/\∀j,j∉h->u[j]?=σ[j]?
 |[],[],σ,u,e=>by simp only[gB]at e;cases e;exact#[rfl,λ_ _=>rfl]|[],_::_,_,_,e=>by simp[gB]at e|_::_,[],_,_,e=>by simp[gB]at e|i::h,v::vs,σ,u,e=>by simp only[gB]at e;let#[w,y]:=uF h vs _ _ e;refine#[by rw[w,wL],λj x=>?_];rw[y j (λz=>x (QF _ z)),qV (λz=>x (by simp[z]))]
theorem bW{v:V}(a:JW k u σ)(h:EE K k v σ H Q):EE K k v u H λx m=>JW k x σ/\Q x m:=by
 let#[f,g]:=a;cases k with
 |nm i=>have e:u.set i (jr v)=σ.set i (jr v):=G3 f λj y=>g j (by simpa[Tg.at]using y);show JW (.nm i) (u.set i (jr v)) σ/\Q (u.set i (jr v)) H;rw[e];exact#[#[by simp,λj y=>qV (λz=>y (by simp[Tg.at,z]))],h]|tp b =>
  cases v with|ref p=>let#[w,x,l,e,q]:=h;exact#[w,x,l,by rw[yJ b w u σ f λj y=>g j y];exact e,#[(uF b w σ x e).1,λj y=>(uF b w σ x e).2 j y],q]|_=>exact Qg h
theorem IY{v:V}{y:St->Hp->Prop}(m:∀σ H,Q σ H->y σ H)(h:EE K k v σ H Q):EE K k v σ H y:=by
 cases k with
 |nm i=>exact m _ _ h|tp a =>
  cases v with|ref p=>let#[z,x,w,e,q]:=h;exact#[z,x,w,e,m _ _ q]|_=>exact Qg h
theorem aO{it:Item}{x:V}{y:Hp}(w:match it with | .one v=>x=v/\y=H | .tup vs=>∃p,H p=kv/\x=.ref p/\y=FA H p (.tup vs))(h:bindI K k it σ H Q):EE K k x σ y Q:=by
 cases it with
 |one v=>let#[rfl,rfl]:=w;exact h|tup vs =>
  let#[p,z,rfl,rfl]:=w;cases k with
  |nm i=>exact h p z|tp a =>
   let#[u,e,q]:=h (FA H p (.tup vs)) λb o e=>by rw[uA (YA e z)];exact e
   exact#[vs,u,LD.of ZA,e,q]
theorem jb{xs:List Item}{st:Hp->Prop}{tc:TT}{te:TE}{a:St}{Q:VK}(h:sv K xs st (bindI K k) tc te a H Q):y3 K xs st k tc te a H Q:=by
 let#[W,Z,o,j,done]:=h;intro J Y;refine#[λi m v u f=>m=xs.9 - i/\i<=xs.9/\JW k u a/\W i v f,#[xs.9,by simp,Qq _,#[rfl,λ_ _=>rfl],Z],?_];rintro i m v u f ⟨rfl,C,F,w⟩;have n:=o i v f C w;by_cases g:i<xs.9;refine .inr #[Y.go i f n g,λx G y=>?_];let#[it,p,B]:=Y.yld i f x G n g y;have b:=bW F (aO B (j i it v f p w));refine IY (λl I q=>?_) b;let#[r,q]:=q;have E:∀(z:LV) (s:Hp),(∃X,X < xs.9 - i/\X=xs.9 - (i+1)/\i+1<=xs.9/\JW k l a/\W (i+1) z s)=W (i+1) z s:=λz s =>
  ot #[λ#[_,_,_,_,_,w]=>w,λw=>#[_,(),rfl,g,r,w]]
 simp only[E];exact q
 ·have e:i=xs.length:=()
  subst e;let#[A,q]:=done v f w;exact .inl #[Y.stop _ f n (QY _),A,q]
end
end L2.L3
namespace L2.L3
open PySem PySem.Spec PyProof.Rows
variable{Γ:Ev}
section
variable{X:Cx}{E:XK}{p its:PX}{es:List Expr}{e t it:Expr}{pos:Pos}{S:SC}{Q:LV->Hp->Prop}{G:Glob}{d:ItK}
def jS:PX->Bool
 | .acons _ _=>kd|_=>kf
theorem fW(h:jS p=kf):ZT X Γ E p es:=by cases p<;>first|trivial|cases h
theorem lT(Q:Bool->Hp->Prop):(λ(x:V) (h:Hp)=>Fb x h Q)=λ(x:V) (h:Hp)=>∃k,x=.bl k/\Q k h:=by funext x h;exact Tp x h Q
theorem Snd.of(pe:PE X e (wp X.K Γ p E).e)(pt:PT X e (wp X.K Γ p E).t)(hb:∀h es pos,e≠.BoolOp h es pos)(y:(wp X.K Γ p E).a=never.a)(x:jS p=true:=by rfl):Snd X Γ E p e :=
 #[pe,pt,λh es pos z=>i3 z (hb h es pos),λes pos z=>by rw[y];exact YU,λ_ _ _=>fW x]
theorem Snd.lit(pe:PE X e (wp X.K Γ p E).e)(x:(wp X.K Γ p E).t=never.t)(hb:∀h es pos,e≠.BoolOp h es pos)(z:(wp X.K Γ p E).a=never.a)(y:jS p=true:=by rfl):Snd X Γ E p e :=
 Snd.of pe (by rw[x];exact uN) hb z y
theorem Snd.args(w:PA X es (wp X.K Γ p E).a)(u:ZT X Γ E p es)(v:(wp X.K Γ p E).e=never.e)(y:(wp X.K Γ p E).t=never.t):Snd X Γ E p (.List es pos) :=
 #[by rw[v];exact e8,by rw[y];exact uN,λ_ _ _ z=>(by cases z),λx h z=>by cases z;exact w,λx h z=>by cases z;exact u]
theorem Al{x:Str}{v:V}{u:kb}(y:X.env.scope=S.sc)(h:gY S x=kf)(z:X.mg x=jr u)(r:JA v u):PE X (.Name x pos) (λ_ H Q=>Q v H):=by let#[k,w,a]:=rF h;exact Td (show X.env.scope.names.lookup x=jr .globalImplicit by rw[y];exact k) z r w
theorem rD:∀(p:PX) {es:List Expr},yC p S (.List es pos)=kf->es.all NC=true:=by
 intro p;induction p with|anil=>intro es h;have h:es.isEmpty=true:=h;rw[Qs.mp h];rfl|acons a u _ y=>intro es h;have h:Ze es _=true:=h;let#[x,t,rfl,h]:=ZL h;have z:=vA h;rw[qt,z.1,y (vA z.2).2];rfl|lst u y=>exact λh=>y h|_=>exact λh=>(QG h).elim
theorem dW{K:QC}{σ:St}{H:Hp}:∀(p:PX),oF p=kf->yC p S (.List [] pos)=kf->((wp K Γ p E).a σ H Q↔Q [] H):=by
 intro p;cases p with|anil=>exact λ_ _=>WF|acons _ _=>exact λ_ h=>(QG h).elim|_=>exact λh=>(QG h).elim
theorem z6{K:QC}{σ:St}{H:Hp}(p:PX)(h:yC p S (.List [] pos)=kf)(q:(wp K Γ p E).a σ H Q):Q [] H:=by
 cases x:oF p with
 |true=>exact(dW p x h).mp q|false =>
  cases p with|anil=>exact q|acons _ _=>exact(QG h).elim|_=>exact q.elim
theorem cW{a:Expr}(p:PX)(y:oF p=kf)(h:yC p S (.List [a] pos)=kf):∃x,p=.acons x .anil:=by
 cases p with
 |acons x r =>
  have z:yC r S (.List [] pos)=true:=(vA (vA h).2).2;cases r with|anil=>exact#[x,rfl]|acons _ _=>exact(QG z).elim|_=>exact(QG y).elim
 |anil=>exact(QG h).elim|_=>exact(QG y).elim
theorem fu(h:X.A.units+66<gp)(m:Mt):∃id,nt m.ty/\Slot m.ty m.nm id/\typeOf (.builtin id)=ti (.type "method_descriptor")/\jc X id (mf X.K m):=by
 cases m with|append=>exact#[_,Wb,PySem.F.slot_list_append,PySem.F.type_list_append,A4]|pop=>exact#[_,Wb,PySem.F.slot_list_pop,PySem.F.type_list_pop,df]|extend=>exact#[_,Wb,PySem.F.slot_list_extend,PySem.F.type_list_extend,gf]|setd=>exact#[_,QAv,PySem.F.slot_dict_setdefault,PySem.F.type_dict_setdefault,R4 h]|index=>exact#[_,PySem.F.plainAttrs_str,PySem.F.slot_str_index,PySem.F.type_str_index,Vn]
theorem RG{env:Env}{pos:Pos}:∀{es:List Expr},es.all NC=kf->(fv pos (xk es env)).any (·.1)=kd
 |[],_=>rfl|e::es,h=>by rw[qt]at h;let#[y,x]:=vA h;rw[lB env y];show(kd||(fv pos (xk es env)).any (·.1))=kd;rw[RG x];rfl
theorem gW{env:Env}{pos:Pos}:∀{es:List Expr},es.all NC=kf->(fv pos (xk es env)).all (λx=>!x.1)=kf
 |[],_=>rfl|e::es,h=>by rw[qt]at h;let#[z,y]:=vA h;rw[lB env z];show(kf&&(fv pos (xk es env)).all (λx=>!x.1))=kf;rw[gW y];rfl
theorem pX(ok:OkX X S G E)(y:Aw (oF its) S d (λes p=>yC its S (.List es p)) t it pos=kf)(j:Lu G d)(n:isItm d=kd)
  (f:∀es p,yC its S (.List es p)=kf->Snd X G.ev E its (.List es p)):PI X t it (MT λσ H R=>(wp X.K G.ev its E).a σ H λvs o=>pC X.K d vs o R):=by
 have v:∀{x:Str},gY S x=kf->Gl X x:=λ{x} h=>by show X.env.scope.names.lookup x=jr .globalImplicit;rw[ok.sc];exact(rF h).1
 have w:iS t=kf->∃es k p,t=.Tuple es k p:=λh=>by
  cases t with|Tuple es k p=>exact#[es,k,p,rfl]|_=>exact(QG h).elim
 cases d with|val=>have i:=vA y;have g:=(f _ pos i.2).pas _ pos rfl;let#[a,rfl]:=cW its i.1 i.2;exact Ld g.1|rng1=>let#[l,es,m,p,rfl,b,h]:=yE y;have u:=vA h;cases Qs.mp u.1;let#[a,rfl,z]:=ZB u.2;exact Nd rfl (v b) (ok.no _ j) ((f _ p z).pa _ p rfl) (by simpa using rD its z)|rev=>let#[l,es,m,p,rfl,b,h]:=yE y;have u:=vA h;cases Qs.mp u.1;let#[a,rfl,z]:=ZB u.2;exact Dl rfl (v b) (ok.no _ j) ((f _ p z).pa _ p rfl) (by simpa using rD its z)|enum=>have i:=vA y;let#[es,k,pt,rfl]:=w i.1;let#[l,es,m,p,rfl,b,h]:=yE i.2;have u:=vA h;cases Qs.mp u.1;let#[a,rfl,z]:=ZB u.2;exact Pd rfl (v b) (ok.no _ j) ((f _ p z).pa _ p rfl) (by simpa using rD its z)|itm=>cases n
theorem Od(ok:OkX X S G E)(x:Aw (oF its) S d (λes p=>yC its S (.List es p)) t it pos=kf)(g:Lu G d)
  (u:∀es p,yC its S (.List es p)=kf->Snd X G.ev E its (.List es p)):bx X t it (MT λσ H R=>(wp X.K G.ev its E).a σ H λvs j=>pC X.K d vs j R):=by
 cases b:isItm d with
 |false=>exact(pX ok x g b u).to0|true =>
  cases d with
  |itm =>
   have i:=vA x;have w:=vA i.2;cases t with|Tuple es k pt=>let#[v,l,es,p,rfl,hl,h]:=Z0 w.2;have f:=vA h;have z:=vA f.2;cases Qs.mp z.1;have y:=(u _ p z.2).pas _ p rfl;let#[a,rfl]:=cW its w.1 z.2;exact Fl y.1 (c9 f.1) hl|_=>exact(QG i.1).elim
  |_=>cases b
theorem gH{te x:TE}(h:PE X e te)(q:∀σ H Q,x σ H Q->te σ H Q):PE X e x:=λy s σ H Q I z=>h y s σ H Q I (q σ H Q z)
theorem snd:∀(p:PX) {X:Cx}{S:SC}{E:XK}(ok:OkX X S G E) {e:Expr},yC p S e=kf->vB G p->Snd X G.ev E p e:=by
 intro p;induction p with
 |var i =>
  intro X S E ok e h _;let#[x,pos,rfl,h]:=mG h;let#[n,A,L,O]:=Hc h;have base:=m8 (pos:=pos) (show X.N[i]?=jr x by rw[ok.N];exact n) (show Rv X.env.scope x by rw[ok.sc];exact A) L O;have pe:PE X (.Name x pos) (wp X.K G.ev (.var i) E).e:=gH base λW H Q q=>by
   have q:(match W[i]? with|some (jr v)=>Q v H|_=>False):=q;cases hs:W[i]? with
   |none=>rw[hs]at q;exact q.elim|some o =>
    rw[hs]at q;cases o with|none=>exact q.elim|some v=>exact#[v,hs,q]
  exact Snd.of pe (dE pe λ_=>rfl) (λ_ _ _ z=>by cases z) rfl
 |int i=>intro X S E ok e h _;let#[c,k,pos,rfl,h]:=GE h;let#[j,rfl,h]:=Ub h;cases qk h;exact Snd.of rX (dE (ta:=λ_ H Q=>Q (.int i) H) rX λ_=>rfl) (λ_ _ _ z=>by cases z) rfl|str x=>intro X S E ok e h _;let#[c,k,pos,rfl,h]:=GE h;let#[j,rfl,h]:=Xp h;cases qk h;exact Snd.lit Ol rfl (λ_ _ _ z=>by cases z) rfl|bl b=>intro X S E ok e h _;let#[c,k,pos,rfl,h]:=GE h;let#[j,rfl,h]:=og h;cases qk h;exact Snd.of nh (dE (ta:=λ_ H Q=>Q (.bl b) H) nh λ_=>rfl) (λ_ _ _ z=>by cases z) rfl|non=>intro X S E ok e h _;let#[c,k,pos,rfl,h]:=GE h;cases lg h;exact Snd.of t8 (dE (ta:=λ_ H Q=>Q .non H) t8 λ_=>rfl) (λ_ _ _ z=>by cases z) rfl|glo x=>intro X S E ok e h nd;let#[y,pos,rfl,h]:=mG h;have h:=vA h;cases qk h.1;let#[u,hm,r]:=ok.val x nd;have pe:=Al (pos:=pos) ok.sc h.2 hm r;exact Snd.of pe (dE pe λ_=>rfl) (λ_ _ _ z=>by cases z) rfl|bin op a b Y B=>intro X S E ok e h nd;let#[l,o,r,pos,rfl,h]:=Ke h;have n:=vA h;have A:=vA n.2;cases qk n.1;have pe:=vt (pos:=pos) (vm op) (Y ok A.1 nd.1).pe (B ok A.2 nd.2).pe;exact Snd.of pe (dE pe λ_=>rfl) (λ_ _ _ z=>by cases z) rfl|cmp op a b Y B=>intro X S E ok e h nd;let#[l,os,rs,pos,rfl,h]:=Ye h;let#[o,rfl,h]:=ZB h;let#[r,rfl,h]:=ZB h;have n:=vA h;have A:=vA n.2;have L:=vA A.2;cases qk n.1;have pa:=(Y ok L.1 nd.1).pe;have pb:=(B ok L.2 nd.2).pe;refine Snd.of (ye (pos:=pos) (C8 ok.un op) pa pb (d9 A.1)) (λJ s W H Q I q=>Xd (pos:=pos) (C8 ok.un op) pa pb (d9 A.1) J s W H Q I ?_) (λ_ _ _ z=>by cases z) rfl;show Hr _ _ _ W H (λ(x:V) (Z:Hp)=>∃k,x=.bl k/\Q k Z);rw[<- lT Q];exact q|and a b Y B =>
  intro X S E ok e h nd;let#[o,es,pos,rfl,h]:=XU h;have n:=vA h;cases qk n.1;let#[l,t,rfl,A]:=ZL n.2;let#[r,t,rfl,L]:=ZL A;have O:=vA L;have P:=Y ok O.1 nd.1;have sb:=B ok O.2 nd.2;have eqA:∀(W:St) (Q:VK),(λ(x:V) (Z:Hp)=>∃c,x=.bl c/\if c=kf then(wp X.K G.ev b E).e W Z Q else Q (.bl kd) Z)=λ(x:V) (Z:Hp)=>Fb x Z λc H2=>if c=kf then(wp X.K G.ev b E).e W H2 Q else Q (.bl kd) H2:=λW Q=>(lT _).symm
  have key:PW X (.BoolOp .And (l::r::t) pos) (wp X.K G.ev (.and a b) E).t/\PE X (.BoolOp .And (l::r::t) pos) (λW H Q=>(wp X.K G.ev a E).e W H λx Z=>∃c,x=.bl c/\if c=kf then(wp X.K G.ev b E).e W Z Q else Q (.bl kd) Z):=by
   cases t with|nil=>exact#[j8 P.pt (Kd sb.pt),Y8 (pos:=pos) P.pe (r8 sb.pe)]|cons q t=>exact#[j8 P.pt (sb.pw _ _ _ rfl),Y8 (pos:=pos) P.pe sb.pe]
  refine#[gH key.2 λW H Q q=>?_,key.1.pt,λ_ _ _ _=>key.1,λ_ _ z=>(by cases z),λ_ _ z=>trivial];rw[eqA];exact q
 |or a b Y B =>
  intro X S E ok e h nd;let#[o,es,pos,rfl,h]:=XU h;have n:=vA h;cases qk n.1;let#[l,t,rfl,A]:=ZL n.2;let#[r,t,rfl,L]:=ZL A;have O:=vA L;have P:=Y ok O.1 nd.1;have sb:=B ok O.2 nd.2;have eqA:∀(W:St) (Q:VK),(λ(x:V) (Z:Hp)=>∃c,x=.bl c/\if c=kf then Q (.bl kf) Z else(wp X.K G.ev b E).e W Z Q)=λ(x:V) (Z:Hp)=>Fb x Z λc H2=>if c=kf then Q (.bl kf) H2 else(wp X.K G.ev b E).e W H2 Q:=λW Q=>(lT _).symm
  have key:PW X (.BoolOp .Or (l::r::t) pos) (wp X.K G.ev (.or a b) E).t/\PE X (.BoolOp .Or (l::r::t) pos) (λW H Q=>(wp X.K G.ev a E).e W H λx Z=>∃c,x=.bl c/\if c=kf then Q (.bl kf) Z else(wp X.K G.ev b E).e W Z Q):=by
   cases t with|nil=>exact#[dh P.pt (Yl sb.pt),mh (pos:=pos) P.pe (r8 sb.pe)]|cons q t=>exact#[dh P.pt (sb.pw _ _ _ rfl),mh (pos:=pos) P.pe sb.pe]
  refine#[gH key.2 λW H Q q=>?_,key.1.pt,λ_ _ _ _=>key.1,λ_ _ z=>(by cases z),λ_ _ z=>trivial];rw[eqA];exact q
 |not a Y=>intro X S E ok e h nd;let#[o,x,pos,rfl,h]:=D8 h;have n:=vA h;cases qk n.1;have P:=Y ok n.2 nd;refine Snd.of (λJ s W H Q I q=>?_) (Zl P.pt) (λ_ _ _ z=>by cases z) rfl;refine UnaryOp_ (DB (P.pe J s W H _ I q) λv s1 #[x,Z,I1,r1,q1]=>?_);have q1:YH X.K x Z (λc H2=>Q (.bl (!c)) H2):=q1;rw[pZ]at q1;refine not_of (DB (z7 J s1 W Z x v _ I1 r1 q1) λc s2 #[H2,I2,q2]=>?_);exact#[.bl (!c),H2,I2,rfl,q2]|ife c a b ihc Y B=>intro X S E ok e h nd;let#[t,l,r,pos,rfl,h]:=gm h;have n:=vA h;have A:=vA n.2;exact Snd.lit (i8 (pos:=pos) (ihc ok n.1 nd.1).pt (Y ok A.1 nd.2.1).pe (B ok A.2 nd.2.2).pe) rfl (λ_ _ _ z=>by cases z) rfl|call f as ih =>
  intro X S E ok e h nd;let#[p,es,ks,pos,rfl,hg,h]:=yE h;have n:=vA h;cases Qs.mp n.1;let#[g1,g2,g3]:=rF hg;have hg:Gl X f:=show X.env.scope.names.lookup f=jr .globalImplicit by rw[ok.sc];exact g1
  let#[CX,k,a,fd,ps,F,hr,hm,hk,hb,hx,_]:=ok.fn f nd.1;have pa:=(ih ok n.2 nd.2).pa es pos rfl;have st:=rD as n.2;have pe:PE X (.Call (.Name f p) es [] pos) (wp X.K G.ev (.call f as) E).e:=by
   cases es with|nil=>exact gH (J8 (pos:=pos) (p:=p) F hr hg hm hk hb .nil hx g2) λW H Q q=>z6 as n.2 q|cons e1 M=>have st:=vA st;refine gH (ze (pos:=pos) (p:=p) F hr hg hm hk hb .nil hx pa g2 (lB _ st.1) (RG st.2)) λW H Q q=>?_;show(wp X.K G.ev as E).a W H λvs Z=>G.ev.sp f (vs++[]) Z Q E;simp only[qI];exact q
  exact Snd.of pe (dE pe λ_=>rfl) (λ_ _ _ z=>by cases z) rfl
 |idx a b Y B=>intro X S E ok e h nd;let#[v,i,pos,rfl,h]:=PR h;have n:=vA h;have A:=vA n.2;have pe:=ut (pos:=pos) (ao ok.un) (Y ok A.1 nd.1).pe (B ok A.2 nd.2).pe (Hd n.1);exact Snd.of pe (dE pe λ_=>rfl) (λ_ _ _ z=>by cases z) rfl|nop=>intro X S E ok e h nd;exact(QG h).elim|lst as ih=>intro X S E ok e h nd;let#[es,pos,rfl,h]:=XN h;have pa:=(ih ok h nd).pa es pos rfl;exact#[Pl pa,uN,λ_ _ _ z=>(by cases z),λ_ _ z=>YU,λ_ _ z=>trivial]|tup as ih=>intro X S E ok e h nd;let#[es,k,pos,rfl,h]:=re h;exact Snd.lit (Nl ((ih ok h nd).pa es pos rfl)) rfl (λ_ _ _ z=>by cases z) rfl|dnew b=>intro X S E ok e h nd;let#[ks,vs,pos,rfl,h]:=KU h;have n:=vA h;cases Qs.mp n.1;cases Qs.mp n.2;exact Snd.lit Ed rfl (λ_ _ _ z=>by cases z) rfl|dof a Y=>intro X S E ok e h nd;let#[p1,es,ks,pos,rfl,hg,h]:=yE h;have n:=vA h;cases Qs.mp n.1;let#[y,rfl,L]:=ZB n.2;have O:=vA L;exact Snd.lit (El ok.calm (show X.env.scope.names.lookup _=jr .globalImplicit by rw[ok.sc];exact(rF hg).1) (ok.no _ nd.1) (Y ok O.2 nd.2).pe (lB _ O.1)) rfl (λ_ _ _ z=>by cases z) rfl|dsp a b Y B =>
  intro X S E ok e h nd;let#[ks,vs,pos,rfl,h]:=KU h;let#[k,rfl,h]:=ZB h;let#[v,rfl,h]:=ZB h;have n:=vA h;cases k with|none=>exact(QG n.1).elim|some k=>exact Snd.lit (Ad ok.un (Y ok n.1 nd.1).pe (B ok n.2 nd.2).pe) rfl (λ_ _ _ z=>by cases z) rfl
 |ng i=>intro X S E ok e h nd;let#[o,x,pos,rfl,h]:=D8 h;have n:=vA h;cases qk n.1;let#[c,k,pos2,rfl,A]:=GE n.2;let#[j,rfl,A]:=Ub A;cases qk A;exact Snd.lit (λJ s W H Q I q=>zt (pos:=pos) (Xk (X:=X)) (ta:=λ_ H Q=>Q (.int i) H) rX J s W H Q I #[i,rfl,q]) rfl (λ_ _ _ z=>by cases z) rfl|lrv a Y=>intro X S E ok e h nd;let#[p,es,ks,pos,rfl,hg,h]:=yE h;have n:=vA h;cases Qs.mp n.1;let#[x,rfl,h]:=ZB n.2;let#[p',es,ks,pos',rfl,hg',h]:=yE h;have A:=vA h;cases Qs.mp A.1;let#[y,rfl,h5]:=ZB A.2;have L:=vA h5;refine Snd.lit (Tl ok.calm (show X.env.scope.names.lookup _=jr .globalImplicit by rw[ok.sc];exact(rF hg).1) (show X.env.scope.names.lookup _=jr .globalImplicit by rw[ok.sc];exact(rF hg').1) (ok.no _ nd.1) (ok.no _ nd.2.1) (Y ok L.2 nd.2.2).pe (lB _ L.1)) rfl (λ_ _ _ z=>by cases z) rfl|anil=>intro X S E ok e h nd;let#[es,pos,rfl,h]:=XN h;cases Qs.mp h;exact Snd.args sX trivial rfl rfl|acons a as Y ih=>intro X S E ok e h nd;let#[es,pos,rfl,h]:=XN h;let#[e1,M,rfl,h]:=ZL h;have n:=vA h;have A:=vA n.2;have P:=(Y ok A.1 nd.1).pe;have ss:=ih ok A.2 nd.2;exact Snd.args (HR P (ss.pa M pos rfl) (lB _ n.1)) #[P,ss.pas M pos rfl] rfl rfl|bi f as ih =>
  intro X S E ok e h nd;let#[p,es,ks,pos,rfl,hg,h]:=yE h;have n:=vA h;cases Qs.mp n.1;let#[e1,M,rfl,L]:=ZL n.2;let#[g1,g2,g3]:=rF hg;have hg:Gl X f.nm:=show X.env.scope.names.lookup f.nm=jr .globalImplicit by rw[ok.sc];exact g1
  have pa:=(ih ok L nd.2).pa _ pos rfl;have st:=vA (rD as L);have pe:PE X (.Call (.Name f.nm p) (e1::M) [] pos) (wp X.K G.ev (.bi f as) E).e:=by
   rcases Fv ok.un ok.calm f with⟨id,hb,hc⟩| ⟨T,hb,hc⟩
   exact JU (pos:=pos) (p:=p) hc hg (ok.no _ nd.1) hb pa g3 g2 (lB _ st.1) (RG st.2);exact y4 (pos:=pos) (p:=p) hc hg (ok.no _ nd.1) hb pa g3 g2 (lB _ st.1) (RG st.2)
  exact Snd.of pe (dE pe λ_=>rfl) (λ_ _ _ z=>by cases z) rfl
 |mt m o as iho ih =>
  intro X S E ok e h nd;let#[v,ap,es,pos,rfl,A,h]:=Z0 h;have h0:=vA h;have n:=vA h0.2;have L:=vA n.2;have O:=vA L.2;have po:=(iho ok O.1 nd.1).pe;have pa:=(ih ok O.2 nd.2).pa _ pos rfl;have st:=rD as O.2;let#[id,pat,sl,ty,mr]:=fu (X:=X) ok.un m;have pe:PE X (.Call (.Attribute v m.nm ap) es [] pos) (wp X.K G.ev (.mt m o as) E).e:=by
   cases es with
   |nil =>
    refine gH (Il (apos:=ap) (cpos:=pos) pat sl ty mr po (c9 n.1) A) λW H Q q=>?_;have e:(λ(x:V) (Z:Hp)=>f6 X.K m.ty x Z/\mf X.K m x [] Z Q)=λ(x:V) (Z:Hp)=>f6 X.K m.ty x Z/\(wp X.K G.ev as E).a W Z λvs H2=>mf X.K m x vs H2 Q:=by funext x Z;rw[ot (dW as h0.1 O.2)]
    show(wp X.K G.ev o E).e W H (λ(x:V) (Z:Hp)=>f6 X.K m.ty x Z/\mf X.K m x [] Z Q);rw[e];exact q
   |cons e1 M=>have s2:=vA st;refine bt (apos:=ap) (cpos:=pos) pat sl ty mr po pa (c9 n.1) ?_ A (lB _ s2.1) (RG s2.2);rw[gW st];have hl':(e1::M).9<20:=oa L.1;show(kf&&kf&&decide ((e1::M).9+0+0<30))=kf;rw[dT (Qr hl' (by decide:20<=30):(e1::M).9+0+0<30)];rfl
  exact Snd.of pe (dE pe λ_=>rfl) (λ_ _ _ z=>by cases z) rfl
 |slc a lo hi Y ihl ihh =>
  intro X S E ok e h nd;let#[v,sl,pos,rfl,h]:=PR h;let#[l,u,st,p2,rfl,h]:=u4 h;have n:=vA h;have A:=vA n.2;have L:=vA A.2;have part:∀(q:PX) (w:Option Expr),(∀{e:Expr},yC q S e=kf->PE X e (wp X.K G.ev q E).e)->Vt w (isNop q) (λe=>!isNop q&&yC q S e)=kf ->
    PO X w (λW H R=>(if isNop q=kf then λ(R:Option Int->Hp->Prop)=>R kv H else λR=>(wp X.K G.ev q E).e W H λl H2=>iN l H2 R) R):=by
   intro q w ihq hq;cases w with
   |none=>have e:isNop q=true:=hq;simp only[e,if_true];exact Gd|some e' =>
    have q1:=vA hq;have e:isNop q=false:=(Q7 _).mp q1.1;simp only[e,Qu,if_false];intro J s W H Q I w;refine Fd (ihq q1.2) J s W H Q I ?_;show(wp X.K G.ev q E).e W H (λ(x:V) (Z:Hp)=>∃i,x=.int i/\Q (jr i) Z);have e2:(λ(x:V) (Z:Hp)=>∃i,x=.int i/\Q (jr i) Z)=λ(x:V) (Z:Hp)=>iN x Z Q:=by funext x Z;exact(K8 x Z Q).symm
    rw[e2];exact w
  cases QAc.mp n.1;exact Snd.lit (n8 (pos:=pos) (p2:=p2) Pk (Y ok A.1 nd.1).pe (part lo l (λhc=>(ihl ok hc nd.2.1).pe) L.1) (part hi u (λhc=>(ihh ok hc nd.2.2).pe) L.2)) rfl (λ_ _ _ z=>by cases z) rfl
 |comp mask tgs tg d its cond elt ihi ihc ihe =>
  intro X S E ok e h nd;let#[e,gens,scope,pos,rfl,h]:=iX h;let#[#[t,it,ifs,asy],rfl,h]:=ZB h;have h0:=vA h;have hi:=vA h0.2;have n:=vA hi.2;have A:=vA n.2;have L:=vA A.2;have O:=vA L.2;have h5:=vA O.2;have ea:asy=0:=qk h0.1;cases ea;have C:CompSt X.N X.env.scope scope tgs mask:=by rw[ok.N,ok.sc];exact HV n.1
  let#[n1,n2,n3,n4]:=nd;have pi:PI X t it (MT λW H R=>(wp X.K G.ev its E).a W H λvs Z=>pC X.K d vs Z R):=pX ok O.1 n1 ((Q7 _).mp hi.1) λes p q=>ihi ok q n2;refine Snd.lit (je (pos:=pos) (g:=EE X.K tg) (tc:=if isNop cond=kf then λ_ H Q=>Q kf H else(wp X.K G.ev cond (λ_ _ _=>False)).t) (te:=(wp X.K G.ev elt (λ_ _ _=>False)).e) ok.calm pi C (λs H ex=>?_) (λx=>FX L.1 x)) rfl (λ_ _ _ z=>by cases z) rfl;have okc:=ok.comp scope tgs mask s H ex;refine#[RZ okc (λz=>(QG z).elim) C.nd A.1,?_,(ihe okc h5.2 n4).pe];have hif:=h5.1;cases ifs with|nil=>have e:isNop cond=true:=hif;simp only[e,if_true];exact PZ|cons c r=>have q1:=vA hif;have q2:=vA q1.2;cases Qs.mp q1.1;have e:isNop cond=false:=(Q7 _).mp q2.1;simp only[e,Qu,if_false];exact OZ (ihc okc q2.2 n3).pt
end
end L2.L3
namespace L2.L3
open PySem PySem.Spec PyProof.Rows
section
variable{s:gV}{f:Expr->List gV->List gV->Bool}
set_option genSizeOf false in
set_option genInjectivity false in
inductive PT where
 |nil|seq (s r:PT)
 |set (i:Nat) (e:PX)
 |expr (e:PX)|ret (e:PX)
 |ife (c:PX) (a b:PT)
 |for_ (tg:Tg) (ik:ItK) (its:PX) (body:PT)
 |own (i:Nat) (e:PX)|tset (is:LN) (e:PX)|six (o i e:PX)|sdf (i:Nat) (k:PX)|whl (c:PX) (body:PT)|frz (is:LN) (s:PT)
def gU(K:QC):V->V->V->Hp->(Hp->Prop)->Prop:=λo i v H Q=>match o,i with
 | .ref p,.int k=>∃h j,H p=jr (.lst h)/\UT h.9 k=jr j/\Q (FA H p (.lst (h.set j v)))|.ref p,.str z=>nq K H p (.str z) v Q|.ref p,.ref b=>nq K H p (.ref b) v Q|_,_=>False
noncomputable def Bs(i:Nat)(k:PX):PX:=.mt .setd (.var i) %[k,.dnew kf|1]
def Oz(J:It)(g:TG)(tb:TS)(D:Ends)(σ:St)(w:Hp):Prop:=∃W:Nat->Nat->St->Hp->Prop,(∃m,W 0 m σ w)/\∀i m σ H,W i m σ H ->
 (J.stop i H/\D.nx σ H)∨(J.go i H/\∃N:St->Hp->Prop,(∀h y,N h y->∃u,u < m/\W (i+1) u h y)/\∀x y,J.yld i H x y->g x σ y λz v=>tb { D with nx:=N,ct:=N,bk:=D.nx } z v)
def gq(K:QC)(xs:List Item)(st:Hp->Prop)(h:Tg)(tb:TS)(D:Ends)(σ:St)(H:Hp):Prop:=∀J,Yields J xs st->Oz J (EE K h) tb D σ H
def FT(K:QC)(Γ:Ev)(E:XK):PT->TS
 | .nil=>λD h H=>D.nx h H|.seq s r=>λD h H=>FT K Γ E s { D with nx:=λh H=>FT K Γ E r D h H } h H|.set i e=>λD h H=>(wp K Γ e E).e h H λx y=>D.nx (h.set i (jr x)) y|.own i e=>λD h H=>(wp K Γ e E).e h H λx y=>D.nx (h.set i (jr x)) y|.expr e=>λD h H=>(wp K Γ e E).e h H λ_ y=>D.nx h y|.ret e=>λD h H=>(wp K Γ e E).e h H D.rt|.ife c a b=>λD h H=>(wp K Γ c E).t h H λk y=>if k=kf then FT K Γ E a D h y else FT K Γ E b D h y|.for_ l q u z=>λD h H=>(wp K Γ u E).a h H λj y=>pC K q j y λg st w=>gq K g st l (FT K Γ E z) D h w|.tset p e=>λD h H=>(wp K Γ e E).e h H λx y=>EE K (.tp p) x h y D.nx|.six o i e=>λD h H=>(wp K Γ e E).e h H λv y=>(wp K Γ o E).e h y λm w=>(wp K Γ i E).e h w λn Y=>gU K m n v Y λX=>D.nx h X|.sdf i k=>λD h H=>(wp K Γ (Bs i k) E).e h H λ_ y=>D.nx h y|.whl c z=>v7 (wp K Γ c E).t (FT K Γ E z)|.frz _ s=>FT K Γ E s
def fF(G:Glob):PT->Prop
 | .nil=>True|.seq s r=>fF G s/\fF G r|.set _ e=>vB G e|.own _ e=>vB G e|.tset _ e=>vB G e|.six o i e=>vB G o/\vB G i/\vB G e|.sdf i k=>vB G (Bs i k)|.whl c h=>vB G c/\fF G h|.frz _ s=>fF G s|.expr e=>vB G e|.ret e=>vB G e|.ife c a b=>vB G c/\fF G a/\fF G b|.for_ _ y x h=>Lu G y/\vB G x/\fF G h
noncomputable def oG:Expr->Bool
 | .ListComp _ _ _ _ | .SetComp _ _ _ _ | .DictComp _ _ _ _ _=>kd
 |_=>kf
noncomputable def xR(S:SC)(i:Nat)(x:Str):Bool:=S.N[i]?==jr x&&(S.sc.names.lookup x==jr .local||S.sc.names.lookup x==jr .cell)
noncomputable def A0:PT->Bool
 | .nil=>kd|.seq _ _=>kd|.frz _ s=>A0 s|_=>kf
noncomputable def UU(s:gV)(f:List Expr->Expr->Bool):Bool:=match s with | .Assign h v _=>f h v|_=>kd
noncomputable def lm(s:gV)(f:Expr->Bool):Bool:=match s with | .Expr v _=>f v|_=>kd
noncomputable def ph(s:gV)(f:Option Expr->Bool):Bool:=match s with | .Return v _=>f v|_=>kd
noncomputable def rh(s:gV)(f:Expr->List gV->List gV->Bool):Bool:=match s with | .If t x y _=>f t x y|_=>kd
noncomputable def eh(s:gV)(f:Expr->Expr->List gV->List gV->Pos->Bool):Bool:=match s with | .For t it x y p=>f t it x y p|_=>kd
noncomputable def Kt(s:gV)(f:Expr->List gV->List gV->Bool):Bool:=match s with | .While t x y _=>f t x y|_=>kd
noncomputable def Dt:Expr->Bool
 | .Tuple _ _ _=>kd|.List _ _=>kd|_=>kf
theorem gM{f:List Expr->Expr->Bool}(h:UU s f=kf):∃ts v p,s=.Assign ts v p/\f ts v=true:=by
 cases s with|Assign ts v p=>exact#[ts,v,p,rfl,h]|_=>exact(QG h).elim
theorem F8{f:Expr->Bool}(h:lm s f=kf):∃v p,s=.Expr v p/\f v=true:=by
 cases s with|Expr v p=>exact#[v,p,rfl,h]|_=>exact(QG h).elim
theorem se{f:Option Expr->Bool}(h:ph s f=kf):∃v p,s=.Return v p/\f v=true:=by
 cases s with|Return v p=>exact#[v,p,rfl,h]|_=>exact(QG h).elim
theorem ae(h:rh s f=kf):∃t x y p,s=.If t x y p/\f t x y=true:=by
 cases s with|If t x y p=>exact#[t,x,y,p,rfl,h]|_=>exact(QG h).elim
theorem Je{f:Expr->Expr->List gV->List gV->Pos->Bool}(h:eh s f=kf):∃t it x y p,s=.For t it x y p/\f t it x y p=true:=by
 cases s with|For t it x y p=>exact#[t,it,x,y,p,rfl,h]|_=>exact(QG h).elim
theorem xm(h:Kt s f=kf):∃t x y p,s=.While t x y p/\f t x y=true:=by
 cases s with|While t x y p=>exact#[t,x,y,p,rfl,h]|_=>exact(QG h).elim
def setB(S:SC)(i:Nat)(c:Expr->Bool)(l:List gV):Bool:=KL l λst=>UU st λh v=>KL h λt=>tK t λx _=>xR S i x&&((oG v||S.sc.names.lookup x==jr .cell)&&c v)
def Oh:PX->Bool
 | .comp _ _ _ _ _ _ _=>kf|_=>kd
def KZ(S:SC)(i:Nat)(e:PX)(l:List gV):Bool:=KL l λst=>UU st λy v=>KL y λt=>tK t λx z=>cm v λw u sc h=>Mn S i x&&(S.sc.kind==.function&&(z.line==h.line&&(!(sc.names.any λ(n,k)=>n==x&&(k==.local||k==.cell))&&(Oh e&&yC e S (.ListComp w u sc h)))))
def RS:PT->SC->List gV->Bool
 | .nil,_,l=>l.isEmpty|.seq s r,S,l=>Ze l λst l=>A0 s&&(RS s S [st]&&RS r S l)|.set i e,S,l=>setB S i (yC e S) l||KZ S i e l
 | .own i e,S,l=>setB S i (yC e S) l||KZ S i e l
 | .frz _ s,S,l=>RS s S l|.expr e,S,l=>KL l λst=>lm st λv=>oG v&&yC e S v|.ret e,S,l=>KL l λst=>ph st λv=>Vt v kd (yC e S)|.ife c a b,S,l=>KL l λst=>rh st λt x y=>yC c S t&&(RS a S x&&RS b S y)|.for_ tg ik its body,S,l=>KL l λst=>eh st λt it x y z=>y.isEmpty&&(Ow kf S tg t&&(GU it&&(Aw (oF its) S ik (λg p=>yC its S (.List g p)) t it z&&RS body S x)))|.tset is e,S,l=>KL l λst=>UU st λh v=>KL h λt=>Dt v&&(oG v&&(iS t&&(Ow kf S (.tp is) t&&yC e S v)))|.six o i e,S,l=>KL l λst=>UU st λh v=>KL h λt=>EZ t λw u _=>zS u&&(oG v&&(yC e S v&&(yC o S w&&yC i S u)))|.sdf i k,S,l=>KL l λst=>lm st λv=>oG v&&yC (Bs i k) S v|.whl c body,S,l=>KL l λst=>Kt st λt x y=>y.isEmpty&&(yC c S t&&RS body S x)
structure OkS(X:Cx)(S:SC)(G:Glob)(E:XK):Prop extends OkX X S G E where
 po:rk (k0 X.prog X.w) X.A X.env X.xe
 nd:X.N.Nodup
 cel:∀x,X.fn x=kf
end
section
variable{X:Cx}{S:SC}{G:Glob}{E:XK}
section
variable{i:Nat}{x:Str}{e:PX}
theorem UN{e:Expr}{t:Option Expr}{n:Nat}{env:Env}(h:oG e=kf):ej e t n env=ti false:=by cases e<;>first|rfl|cases h
theorem X7(n:X.A.units+66<gp):Xg X (gU X.K):=by
 intro y s w H o i v l m u Q I f g a h;cases o with
 |ref p =>
  cases i with|int k=>let#[r,j,Z,Y,q]:=h;exact U7 y s w H _ _ v l m u Q I f g a #[p,r,k,j,rfl,rfl,Z,Y,q]|str z=>exact fU n y s w H _ _ v l m u Q I f g a h|ref b=>exact fU n y s w H _ _ v l m u Q I f g a h|_=>exact Qg h
 |_=>exact Qg h
theorem B3(ok:OkX X S G E)(h:xR S i x=kf):X.N[i]?=jr x/\Mq X.env.scope x:=by simp only[xR,Qb,Wa,beq_iff_eq]at h;rw[ok.N,ok.sc];exact#[h.1,h.2]
theorem E3(ok:OkS X S G E){v:Expr}{u pos:Pos}(g:xR S i x=kf)(w:(oG v||S.sc.names.lookup x==jr .cell)=kf)(pe:PE X v (wp X.K G.ev e E).e) :
  PS X (.Assign [.Name x u] v pos) (FT X.K G.ev E (.set i e)):=by
 let#[l,j]:=B3 ok.toOkX g;refine Kl (pos':=u) ok.nd l j pe ?_ (.inl (ok.cel x));cases z:oG v with
 |true=>exact UN z|false =>
  rw[z,QAn,beq_iff_eq,<- ok.sc]at w;have hk:X.env.kindOf x=jr .cell:=w;have key:∀(b c:Bool) (y h:Nat),(ti (b&&X.env.kindOf x==jr .local&&y==h&&!c):Sem Bool)=ti false:=λb c y h=>by
   rw[hk];have:(b&&(jr NameKind.cell==jr NameKind.local)&&y==h&&!c)=false:=by cases b<;>rfl
   rw[this]
  cases v with|ListComp m a sc f=>exact key _ _ _ _|SetComp m a sc f=>exact key _ _ _ _|DictComp k v a sc f=>exact key _ _ _ _|_=>cases z
theorem Bf(h:Oh e=kf):∃a b c d f g k,e=.comp a b c d f g k:=by
 cases e with|comp a b c d f g k=>exact#[a,b,c,d,f,g,k,rfl]|_=>exact(QG h).elim
theorem Xl(ok:OkS X S G E){l:List gV}(h:KZ S i e l=kf)(nd:vB G e):∃st,l=[st]/\PS X st (FT X.K G.ev E (.set i e)):=by
 let#[st,e1,q1]:=ZB h;let#[ts,v,p,e2,q2]:=gM q1;let#[t,e3,q3]:=ZB q2;let#[x,px,e4,q4]:=mG q3;let#[el,gs,sc,cp,e5,q5]:=iX q4;subst e1 e2 e3 e4 e5;have L:=vA q5;have J:=vA L.2;have I:=vA J.2;have F:=vA I.2;have B:=vA F.2;let#[u,a,tg,ik,o,y,j,rfl]:=Bf B.1;refine#[_,rfl,?_];have h6:=B.2;let#[el',O,m,pos,ee,g]:=iX h6;cases ee;let#[#[t,it,Y,Z],rfl,g]:=ZB g;have g0:=vA g;have M:=vA g0.2;have g1:=vA M.2;have g2:=vA g1.2;have g3:=vA g2.2;have R:=vA g3.2;have P:=vA R.2;have ea:Z=0:=qk g0.1;cases ea;have C:CompSt X.N X.env.scope sc a u:=by rw[ok.N,ok.sc];exact HV g1.1
 let#[n1,n2,n3,n4]:=nd;let#[l1,l2]:=sf L.1;have b:X.env.scope.names.lookup x=jr .local:=by rw[ok.sc];exact l2
 refine Cd (g:=EE X.K tg) (tc:=if isNop y=kf then λ_ H Q=>Q kf H else(wp X.K G.ev y (λ_ _ _=>False)).t) (te:=(wp X.K G.ev j (λ_ _ _=>False)).e) ok.calm ok.nd (by rw[ok.N];exact l1) b (pX ok.toOkX (pos:=cp) R.1 n1 ((Q7 _).mp M.1) λes p q=>snd o ok.toOkX q n2) C (λs H ex=>?_) (λx=>FX g3.1 x) ?_;have w:=ok.toOkX.comp sc a u s H ex;refine#[RZ w (λz=>(QG z).elim) C.nd g2.1,?_,(snd j w P.2 n4).pe];have f:=P.1;cases Y with|nil=>have e:isNop y=true:=f;simp only[e,if_true];exact PZ|cons c r=>have A:=vA f;have W:=vA A.2;cases Qs.mp A.1;have e:isNop y=false:=(Q7 _).mp W.1;simp only[e,Qu,if_false];exact OZ (snd y w W.2 n3).pt
 have k1:X.env.scope.kind=.function:=by rw[ok.sc];exact qk J.1
 have k2:(X.env.blockKind==.function)=true:=by simp[Env.blockKind,k1,ScopeKind.isAnnotationScope]
 have k3:(X.env.kindOf x==jr .local)=true:=by show(X.env.scope.names.lookup x==jr .local)=kf;rw[b];rfl
 show(ti (X.env.blockKind==.function&&X.env.kindOf x==jr .local&&px.line==cp.line&&!(sc.names.any λ(n,k)=>n==x&&(k==.local||k==.cell))):Sem Bool)=ti kf;rw[k2,k3,I.1,F.1];rfl
theorem ay:∀(p:PT) {l:List gV},OkS X S G E->RS p S l=kf->fF G p->bZ X l (FT X.K G.ev E p)/\(A0 p=kf->∀st,l=[st]->PS X st (FT X.K G.ev E p)):=by
 intro p;have one:∀{p:PT}{st:gV},PS X st (FT X.K G.ev E p)->bZ X [st] (FT X.K G.ev E p)/\(A0 p=kf->∀j,[st]=[j]->PS X j (FT X.K G.ev E p)):=λh=>#[HZ h,λ_ j e=>by cases e;exact h]
 have f:∀{i:Nat}{e:PX}{l:List gV},OkS X S G E->(setB S i (yC e S) l||KZ S i e l)=kf->vB G e->∃st,l=[st]/\PS X st (FT X.K G.ev E (.set i e)):=λ{i e l} ok h nd=>by
  rcases(Wa _ _).mp h with h|h
  rotate_left
  exact Xl ok h nd;let#[st,A,n]:=ZB h;let#[O,v,p,W,m]:=gM n;let#[t,e3,q3]:=ZB m;let#[x,px,N,C]:=mG q3;subst A W e3 N;have z:=vA C;have u:=vA z.2;exact#[_,rfl,E3 ok z.1 u.1 (snd e ok.toOkX u.2 nd).pe]
 induction p with
 |nil=>intro l ok h nd;cases Qs.mp h;exact#[Ud,λh=>(QG h).elim]|seq s r I J=>intro l ok h nd;let#[st,l,rfl,h]:=ZL h;have z:=vA h;have u:=vA z.2;exact#[y8 ((I ok u.1 nd.1).2 z.1 st rfl) (J ok u.2 nd.2).1,λh=>(QG h).elim]|set i e=>intro l ok h nd;let#[st,rfl,q]:=f ok h nd;exact one q|own i e=>intro l ok h nd;let#[st,rfl,q]:=f ok h nd;exact one q|expr e=>intro l ok h nd;let#[st,rfl,h]:=ZB h;let#[v,p,rfl,h]:=F8 h;have z:=vA h;exact one (MZ (snd e ok.toOkX z.2 nd).pe (UN z.1))|ret e =>
  intro l ok h nd;let#[st,rfl,h]:=ZB h;let#[v,p,rfl,h]:=se h;cases v with|none=>exact(QG h).elim|some v=>exact one (k8 (snd e ok.toOkX h nd).pe)
 |ife c a b M L=>intro l ok h nd;let#[st,rfl,h]:=ZB h;let#[t,x,y,p,rfl,h]:=ae h;have z:=vA h;have u:=vA z.2;exact one (yt (snd c ok.toOkX z.1 nd.1).pt (M ok u.1 nd.2.1).1 (L ok u.2 nd.2.2).1)|for_ tg ik F B Y=>intro l ok h nd;let#[st,rfl,h]:=ZB h;let#[t,it,x,y,p,rfl,h]:=Je h;have R:=vA h;have z:=vA R.2;have u:=vA z.2;have g:=vA u.2;cases Qs.mp R.1;exact one (Vl ok.po ok.calm (Od ok.toOkX g.1 nd.1 λH p q=>snd F ok.toOkX q nd.2.1) (RZ ok.toOkX (λ_=>ok.cel) ok.nd z.1) (Y ok g.2 nd.2.2).1 λx=>FX u.1 x)|tset is e =>
  intro l ok h nd;let#[st,A,n]:=ZB h;let#[O,v,p,W,m]:=gM n;let#[t,e3,h]:=ZB m;subst A W e3;have z:=vA h;have u:=vA z.2;have g:=vA u.2;have Z:=vA g.2;cases t with
  |Tuple H k pt =>
   refine one (x8 (snd e ok.toOkX Z.2 nd).pe (RZ ok.toOkX (λ_=>ok.cel) ok.nd Z.1) ?_ ?_ ?_);show ej v (jr (.Tuple H k pt)) p.line X.env=ti kd;exact UN u.1;cases v<;>first|rfl|exact(QG z.1).elim
   rfl
  |_=>exact(QG g.1).elim
 |six o i e =>
  intro l ok h nd;let#[st,A,n]:=ZB h;let#[O,v,p,W,m]:=gM n;let#[t,e3,h]:=ZB m;subst A W e3;let#[ov,Q,P,N,C]:=PR h;subst N;have z:=vA C;have u:=vA z.2;have g:=vA u.2;have Z:=vA g.2;refine one (x8 (snd e ok.toOkX g.1 nd.2.2).pe (Ll (pos:=P) (snd o ok.toOkX Z.1 nd.1).pe (snd i ok.toOkX Z.2 nd.2.1).pe (X7 ok.un) ?_) ?_ ?_ ?_);intro w;cases Q<;>first|rfl|exact(QG z.1).elim
  show ej v (jr (.Subscript ov Q P)) p.line X.env=ti kd;exact UN u.1;cases v<;>rfl;rfl
 |sdf i k=>intro l ok h nd;let#[st,rfl,h]:=ZB h;let#[v,p,rfl,h]:=F8 h;have z:=vA h;exact one (MZ (snd (Bs i k) ok.toOkX z.2 nd).pe (UN z.1))|whl c B Y=>intro l ok h nd;let#[st,rfl,h]:=ZB h;let#[t,x,y,p,rfl,h]:=xm h;have z:=vA h;have u:=vA z.2;cases Qs.mp z.1;exact one (z8 ok.po (snd c ok.toOkX u.1 nd.1).pt (Y ok u.2 nd.2).1)|frz is s Y=>intro l ok h nd;exact Y ok h nd
end
end
noncomputable abbrev D:=x2
set_option genInjectivity true in
inductive T where
 |d (x:D)|lst (ts:List T)|tup (ts:List T)|dct (b:Bool) (ks:List D) (ts:List T)
abbrev LT:=List T
mutual
def T.er:T->D
 | .d x=>x|.lst h=>.list (ersT h)|.tup h=>.tuple (ersT h)|.dct _ y h=>.dict (y.zip (ersT h))
def ersT:LT->List D
 |[]=>[]|t::r=>t.er::ersT r
end
theorem UA(ds:List D):ersT (ds.map T.d)=ds:=by
 induction ds with|nil=>rfl|cons d r h=>simp only[QU,ersT,h,T.er]
theorem Na:∀(ts:LT),(ersT ts).9=ts.9
 |[]=>rfl|t::r=>by simp only[ersT,QM,Na r]
theorem BJ:∀(ts:LT),ersT ts=ts.map T.er
 |[]=>rfl|t::r=>by simp only[ersT,QU,BJ r]
def T.isD:T->Bool
 | .d _=>kf|_=>kd
set_option genInjectivity true in
inductive Sl where
 |own (t:T)|bor (t:T)
noncomputable abbrev xA:=List (Option Sl)
abbrev bD(x:D):Option Sl:=jr (.bor (.d x))
abbrev oW(t:T):Option Sl:=jr (.own t)
def XH(t:T)(n:Bool):Bool:=n||t.isD
def nA(t:T):Bool->T
 |true=>.d t.er|false=>t
theorem pA(x:D)(n:Bool):nA (.d x) n=.d x:=by cases n<;>rfl
theorem B1(t:T)(n:Bool):(nA t n).er=t.er:=by cases n<;>rfl
noncomputable def MF:LT->Option (List D)
 |[]=>jr []|.d x::r=>(MF r).map (x::·)|_::_=>kv
theorem rA(ds:List D):MF (ds.map T.d)=jr ds:=by
 induction ds with|nil=>rfl|cons d r h=>simp only[QU,MF,h,Q9]
theorem FM:∀{ts:LT}{ds:List D},MF ts=jr ds->ts=ds.map T.d
 |[],ds,h=>by simp only[MF,Qp]at h;subst h;rfl|.d x::r,ds,h=>by
  simp only[MF]at h;cases e:MF r with|none=>rw[e]at h;cases h|some y=>rw[e]at h;cases h;rw[QU,FM e]
 | .lst _::_,_,h=>by simp[MF]at h|.tup _::_,_,h=>by simp[MF]at h|.dct _ _ _::_,_,h=>by simp[MF]at h
noncomputable def RC:List (D×D)->Option Bool
 | (.tuple _,_)::_=>jr kf|(.str _,_)::_=>jr kd|_=>kv
def YD:Bool->D->Prop
 |true,k=>∃q,k=tD (.t q)/\f9 (.t q)<=6|false,k=>∃z,k=.str z
open Classical in
noncomputable def dA:List D->D->Option Nat
 |[],_=>kv|x::r,k=>if x=k then jr 0 else(dA r k).map (·+1)
def rK(b:Bool)(ks:List D)(ts:LT)(k:D)(t:T):T:=match dA ks k with
 |some n=>.dct b ks (ts.set n t)|none=>.dct b (ks++[k]) (ts++[t])
theorem aC:∀{ks:List D}{k:D}{n:Nat},dA ks k=jr n->ks[n]?=jr k
 |[],_,_,h=>by cases h|x::r,k,n,h=>by
  unfold dA at h;by_cases e:x=k;rw[i0 e]at h;cases h;rw[e];rfl;rw[ii e]at h;cases q:dA r k with|none=>rw[q]at h;cases h|some m=>rw[q]at h;cases h;simpa using aC q
theorem SA:∀{ks:List D}{k:D},dA ks k=kv↔k∉ks
 |[],_=>by simp[dA]|x::r,k=>by unfold dA;by_cases e:x=k;simp[e];rw[ii e,Option.map_eq_none_iff,SA];simp[qC e]
theorem tY{ks:List D}{k:D}:(dA ks k).isSome=kf↔k∈ks:=by
 cases h:dA ks k with|none=>simp[SA.mp h]|some n=>simp[qN (aC h)]
set_option genInjectivity true in
inductive Vw where
 |sc (x:D)|ls (ts:LT)|tp (ts:LT)|dc (b:Bool) (ks:List D) (ts:LT)
def GB(kvs:List (D×D)):Vw:=match RC kvs with
 |some b=>.dc b (kvs.map (·.1)) (kvs.map λp=>T.d p.2)|none=>.sc (.dict kvs)
def T.vw:T->Vw
 | .lst h=>.ls h|.tup h=>.tp h|.dct b u h=>.dc b u h|.d x=>match x with
  | .list z=>.ls (z.map T.d)|.tuple z=>.tp (z.map T.d)|.dict y=>GB y|.none=>.sc .none|.bool b=>.sc (.bool b)|.int i=>.sc (.int i)|.str s=>.sc (.str s)
def KC(ts:LT):T:=match MF ts with
 |some h=>.d (.tuple h)|none=>.tup ts
noncomputable abbrev XD:=kb×List (Str×D)
noncomputable abbrev XE:=XD->Prop
noncomputable abbrev TK:=T->Bool->xA->Prop
inductive Md where
 |fro|shal|bor|chg
 deriving DecidableEq
structure PSp where
 md:List Md:=[]
 run:LT->(T->LT->Prop)->XE->Prop
 mono:∀{ts:LT}{Q Q':T->LT->Prop}{E E':XE},(∀t os,Q t os->Q' t os)->(∀x,E x->E' x)->run ts Q E->run ts Q' E':=by intro _ _ _ _ _ h _ z;(repeat let#[y,z]:=z;refine#[y,?_]);first|exact h _ _ z|(intros;apply h;apply z<;>assumption)
structure PEv where
 sp:Str->PSp
 va:Str->Option D
def binT(w:hZ)(x y:Vw)(Q:T->Bool->Prop):Prop:=match w with
 | .Add=>(∃i j,x=.sc (.int i)/\y=.sc (.int j)/\Q (.d (.int (i+j))) kd)∨(∃a b,x=.sc (.str a)/\y=.sc (.str b)/\a.9+b.9<=kn/\Q (.d (.str (a++b))) kd) ∨
  (∃v u z h,x=.ls v/\y=.ls u/\MF v=jr z/\MF u=jr h/\z.9+h.9<=kn/\Q (.lst ((z++h).map T.d)) kf) ∨
  (∃v u z h,x=.tp v/\y=.tp u/\MF v=jr z/\MF u=jr h/\z≠[]/\h≠[]/\z.9+h.9<=kn/\Q (.d (.tuple (z++h))) kd)
 | .Sub=>∃i j,x=.sc (.int i)/\y=.sc (.int j)/\Q (.d (.int (i - j))) kd|.Mult=>∃i j,x=.sc (.int i)/\y=.sc (.int j)/\mu i j/\Q (.d (.int (i * j))) kd|.FloorDiv=>∃i j,x=.sc (.int i)/\y=.sc (.int j)/\(0<j/\j<2 ^ 200)/\Q (.d (.int (i / j))) kd|.Mod=>∃i j,x=.sc (.int i)/\y=.sc (.int j)/\0<j/\Q (.d (.int (i % j))) kd|_=>False
section
variable{Q:T->Bool->Prop}
theorem Np(i j:Int):binT .Add (.sc (.int i)) (.sc (.int j)) Q=Q (.d (.int (i+j))) false:=by simp[binT]
theorem Mp(a b:Str):binT .Add (.sc (.str a)) (.sc (.str b)) Q=(a.9+b.9<=kn/\Q (.d (.str (a++b))) kd):=by simp[binT]
theorem Lp(xs h:LT):binT .Add (.tp xs) (.tp h) Q=∃ds es,MF xs=jr ds/\MF h=jr es/\ds≠[]/\es≠[]/\ds.9+es.9<=kn/\Q (.d (.tuple (ds++es))) false:=by simp[binT]
theorem Gp(i j:Int):binT .Sub (.sc (.int i)) (.sc (.int j)) Q=Q (.d (.int (i - j))) false:=by simp[binT]
theorem Fp(i j:Int):binT .Mult (.sc (.int i)) (.sc (.int j)) Q=(mu i j/\Q (.d (.int (i * j))) kd):=by simp[binT]
theorem Dp(i j:Int):binT .FloorDiv (.sc (.int i)) (.sc (.int j)) Q=((0<j/\j<2 ^ 200)/\Q (.d (.int (i / j))) kd):=by simp[binT]
theorem Cp(i j:Int):binT .Mod (.sc (.int i)) (.sc (.int j)) Q=(0<j/\Q (.d (.int (i % j))) kd):=by simp[binT]
end
section
variable{Q:T->Prop}
def ux:D->D->(Bool->Prop)->Prop
 | .int i,.int j,Q=>Q (decide (i=j))|.str x,.str y,Q=>Q (decide (x=y))|.bool x,.bool y,Q=>Q (decide (x=y))|a,b,Q=>RF a/\RF b/\Q (Qn a b)
noncomputable def xB:D->Bool
 | .none | .bool _ | .int _ | .str _=>kf
 |_=>kd
def Ew:D->D->(Bool->Prop)->Prop
 | .str x,.str y,Q=>Q (inStr y x)|a,.list ds,Q|a,.tuple ds,Q=>((xB a=kf/\ds.all xB=kf)∨(RF a/\RF (.list ds)))/\Q (ds.any λy=>Qn y a)
 |a,.dict kvs,Q=>∃b,(RC kvs=jr b∨kvs=[])/\YD b a/\Q (dA (kvs.map (·.1)) a).isSome|_,_,_=>False
def z4(f:Int->Int->Bool):D->D->(Bool->Prop)->Prop
 | .int i,.int j,Q=>Q (f i j)|_,_,_=>False
def ca:D->Bool
 | .none=>kf|_=>kd
def t5:D->D->(Bool->Prop)->Prop
 |a,.none,Q=>Q (ca a)|.bool a,.bool b,Q=>Q (decide (a=b))|_,_,_=>False
def M5:dy->D->D->(Bool->Prop)->Prop
 | .Eq,a,b,Q=>ux a b Q|.NotEq,a,b,Q=>ux a b λk=>Q (!k)|.Lt,a,b,Q=>z4 (λi j=>decide (i<j)) a b Q|.LtE,a,b,Q=>z4 (λi j=>decide (i<=j)) a b Q|.Gt,a,b,Q=>z4 (λi j=>decide (j<i)) a b Q|.GtE,a,b,Q=>z4 (λi j=>decide (j<=i)) a b Q|.In,a,b,Q=>Ew a b Q|.NotIn,a,b,Q=>Ew a b λk=>Q (!k)|.Is,a,b,Q=>t5 a b Q|.IsNot,a,b,Q=>t5 a b λk=>Q (!k)
def zg(h:dy)(x:D)(y:T)(Q:Bool->Prop):Prop:=match y with
 | .dct b u _=>YD b x/\((h=.In/\Q (dA u x).isSome)∨(h=.NotIn/\Q (!(dA u x).isSome)))|.d y=>M5 h x y Q|.lst z=>M5 h x (.list (ersT z)) Q|.tup z=>M5 h x (.tuple (ersT z)) Q
def HI:D->(Bool->Prop)->Prop
 | .bool b,Q=>Q b|.int i,Q=>Q (i != 0)|.none,Q=>Q kd|.str z,Q=>z.9<=kn/\Q ((z.9:Int) != 0)|.list ds,Q=>Q (!ds.isEmpty)|.tuple ds,Q=>Q (!ds.isEmpty)|_,_=>False
def Rp:D->(Bool->Prop)->Prop
 | .bool b,Q=>Q b|_,_=>False
def BV(x:Vw)(k:D)(Q:T->Prop):Prop:=∃b y h n t,x=.dc b y h/\YD b k/\dA y k=jr n/\h[n]?=jr t/\Q t
def oP(x y:Vw)(Q:T->Prop):Prop:=(∃z i c,x=.sc (.str z)/\y=.sc (.int i)/\z.9<=kn/\vD z.cps.toList i=jr c/\Q (.d (.str #[(qG [c])]))) ∨
 (∃h i t,x=.ls h/\y=.sc (.int i)/\vD h i=jr t/\Q t)∨(∃h i t,x=.tp h/\y=.sc (.int i)/\vD h i=jr t/\Q t)
theorem Ko(z:Str)(i:Int):oP (.sc (.str z)) (.sc (.int i)) Q=(z.9<=kn/\∃c,vD z.cps.toList i=jr c/\Q (.d (.str #[(qG [c])]))):=by simp[oP]
theorem ma(ts:LT)(i:Int):oP (.ls ts) (.sc (.int i)) Q=∃t,vD ts i=jr t/\Q t:=by simp[oP]
theorem Zo(ts:LT)(i:Int):oP (.tp ts) (.sc (.int i)) Q=∃t,vD ts i=jr t/\Q t:=by simp[oP]
noncomputable def FJ{α:Type}(xs:List α)(h x:Option Int):List α:=(xs.drop (HT.sIx xs.9 0 h)).take (HT.sIx xs.9 xs.9 x - HT.sIx xs.9 0 h)
def oK(x:Vw)(y u:Option Int)(Q:T->Bool->Prop):Prop:=(∃z,x=.sc (.str z)/\z.9<=kn/\Q (.d (.str (wz z y u))) kd)∨(∃h v,x=.ls h/\MF h=jr v/\Q (.lst ((FJ v y u).map T.d)) kf)
end
section
variable{Q:T->Bool->Prop}{h x:Option Int}
theorem Nk(z:Str):oK (.sc (.str z)) h x Q=(z.9<=kn/\Q (.d (.str (wz z h x))) kd):=by simp[oK]
theorem Z7(ts:LT):oK (.ls ts) h x Q=∃ds,MF ts=jr ds/\Q (.lst ((FJ ds h x).map T.d)) true:=by simp[oK]
end
def lG:D->(Option Int->Prop)->Prop
 | .int i,Q=>Q (jr i)|_,_=>False
def jC(l:LS):D:=.list (l.map j0)
def E5(f:Bi)(vs:List Vw)(Q:T->Bool->Prop):Prop:=match f with
 | .all=>∃h,∃bs:List Bool,vs=[.ls h]/\MF h=jr (bs.map PyData.bool)/\Q (.d (.bool (bs.all id))) kd|.len=>(∃z,vs=[.sc (.str z)]/\z.9<=kn/\Q (.d (.int z.9)) kd)∨(∃h,vs=[.ls h]/\Q (.d (.int h.9)) kd)∨(∃h,vs=[.tp h]/\Q (.d (.int h.9)) kd)∨∃k h,vs=[.dc kd k h]/\Q (.d (.int k.9)) kd|.any=>∃h,∃bs:List Bool,vs=[.ls h]/\MF h=jr (bs.map PyData.bool)/\Q (.d (.bool (bs.any id))) kd|.sorted=>(∃h,∃v:LS,vs=[.ls h]/\MF h=jr (v.map j0)/\v.9<64/\∀x:LS,x.Perm v->ai x=kf->Q (.lst ((x.map j0).map T.d)) kf) ∨
  (∃h,∃ls:List (LS),vs=[.ls h]/\MF h=jr (ls.map jC)/\ls.9<64/\∀u:List (LS),u.Perm ls->Q (.lst ((u.map jC).map T.d)) kf) ∨
  (∃h,∃w:LJ,vs=[.ls h]/\MF h=jr (w.map j1)/\w.9<64/\∀y:LJ,y.Perm w->y.Pairwise (·<=·)->Q (.lst ((y.map j1).map T.d)) kf)
 | .min=>∃i j,vs=[.sc (.int i),.sc (.int j)]/\Q (.d (.int (if j<i then j else i))) kd|.tuple=>∃h a,vs=[.ls h]/\MF h=jr a/\Q (.d (.tuple a)) kd
section
variable{Q:T->Bool->Prop}
theorem Fi(ts:LT):E5 .len [.ls ts] Q=Q (.d (.int ts.9)) false:=by simp[E5]
theorem Gv(ts:LT):E5 .any [.ls ts] Q=∃bs:List Bool,MF ts=jr (bs.map PyData.bool)/\Q (.d (.bool (bs.any id))) false:=by simp[E5]
theorem Pp(i j:Int):E5 .min [.sc (.int i),.sc (.int j)] Q=Q (.d (.int (if j<i then j else i))) false:=ot #[λ#[_,_,e,h]=>by cases e;exact h,λh=>#[_,_,rfl,h]]
theorem Di(ts:LT):E5 .tuple [.ls ts] Q=∃ds,MF ts=jr ds/\Q (.d (.tuple ds)) false:=by simp[E5]
end
section
variable{N:T->T->Prop}
def Sw(m:Mt)(x:Vw)(vs:List Vw)(Q:T->Bool->Prop):Prop:=match m with
 | .index=>∃z y i h,x=.sc (.str z)/\vs=[.sc (.str y)]/\qF z y 0 z.9 1=i::h/\Q (.d (.int ((i:Nat):Int))) kd|_=>False
def sd(x:Vw)(Q:T->Bool->Prop):Prop:=∃h y,x=.ls h/\MF h=jr y/\Q (.lst (y.reverse.map T.d)) kf
def Vw.isS:Vw->Bool
 | .sc (.str _)=>kf|_=>kd
noncomputable def isMut:Mt->Bool
 | .append=>kf|.pop=>kf|.setd=>kf|.extend=>kf|.index=>kd
def Z9(m:Mt)(x:Vw):Bool:=x.isS&&!isMut m
def zM(m:Mt)(s:T)(us:LT)(N:T->T->Prop):Prop:=match m with
 | .append=>∃h t,s=.lst h/\us=[t]/\h.9<kn/\N (.d .none) (.lst (h++[t]))|.pop=>∃h i k t,s=.lst h/\us=[.d (.int i)]/\UT h.9 i=jr k/\h[k]?=jr t/\N t (.lst (h.eraseIdx k))|.extend=>∃h x,s=.lst h/\us=[.lst x]/\h.9+x.9<=kn/\N (.d .none) (.lst (h++x))|_=>False
theorem J9(ts:LT)(t:T):zM .append (.lst ts) [t] N=(ts.9<kn/\N (.d .none) (.lst (ts++[t]))):=by simp[zM]
theorem e9(ts vs:LT):zM .extend (.lst ts) [.lst vs] N=(ts.9+vs.9<=kn/\N (.d .none) (.lst (ts++vs))):=by simp[zM]
theorem i9(ts:LT)(i:Int):zM .pop (.lst ts) [.d (.int i)] N=∃k t,UT ts.9 i=jr k/\ts[k]?=jr t/\N t (.lst (ts.eraseIdx k)):=by simp[zM]
noncomputable def xY:Mt->Bool
 | .append=>kf|.pop=>kf|.setd=>kd|.extend=>kf|.index=>kd
def aJ(m:Mt):T->Bool
 | .lst _=>xY m|_=>kd
noncomputable def Vw.seq:Vw->Option (LT)
 | .ls h=>jr h|.tp h=>jr h|_=>kv
def OB(u:ItK)(vs:List Vw)(R:LT->Prop):Prop:=match u with
 | .val=>(∃h,vs=[.ls h]/\R h)∨(∃h,vs=[.tp h]/\R h)∨(∃y h,vs=[.dc kf y h]/\R (y.map T.d))|.rng1=>∃j,vs=[.sc (.int j)]/\(-(2 ^ 62)<=j/\j<2 ^ 62)/\R ((Qo j.toNat).map λ(i:Nat)=>.d (.int (i:Int)))|.rev=>∃h,vs=[.ls h]/\R h.reverse|.enum=>∃x h z,vs=[x]/\x.seq=jr h/\MF h=jr z/\R (z.zipIdx.map λp=>.d (.tuple [.int (p.2:Int),p.1]))|.itm=>(∃y h z,vs=[.dc kf y h]/\MF h=jr z/\R ((y.zip z).map λp=>.d (.tuple [p.1,p.2])))∨(vs=[.sc (.dict [])]/\R [])
end
section
variable{R:LT->Prop}
theorem YJ(ts:LT):OB .val [.ls ts] R=R ts:=by simp[OB]
theorem xa(ts:LT):OB .val [.tp ts] R=R ts:=by simp[OB]
theorem ya(j:Int):OB .rng1 [.sc (.int j)] R=((-(2 ^ 62)<=j/\j<2 ^ 62)/\R ((Qo j.toNat).map λ(i:Nat)=>.d (.int (i:Int)))):=by simp[OB]
theorem rV(x:Vw):OB .enum [x] R=∃ts ds,x.seq=jr ts/\MF ts=jr ds/\R (ds.zipIdx.map λp=>.d (.tuple [.int (p.2:Int),p.1])):=by apply ot;constructor;rintro⟨_,ts,ds,⟨⟩,h⟩;exact#[ts,ds,h];rintro⟨ts,ds,h⟩;exact#[_,ts,ds,rfl,h]
theorem pV(ks:List D)(ts:LT):OB .itm [.dc kf ks ts] R=∃ds,MF ts=jr ds/\R ((ks.zip ds).map λp=>.d (.tuple [p.1,p.2])):=by apply ot;constructor;rintro(⟨_,_,ds,⟨⟩,h⟩| ⟨⟨⟩,_⟩);exact#[ds,h];rintro⟨ds,h⟩;exact .inl #[_,_,ds,rfl,h]
theorem oV(ks:List D)(ts:LT):OB .val [.dc kf ks ts] R=R (ks.map T.d):=by simp[OB]
theorem ja:OB .itm [.sc (.dict [])] R=R []:=by apply ot;constructor;rintro(⟨_,_,x,⟨⟩,h⟩| ⟨_,h⟩);exact h;exact λh=>.inr #[rfl,h]
end
noncomputable def KB:LN->LT->xA->Option xA
 |[],[],ρ=>jr ρ|i::is,t::ts,ρ=>KB is ts (ρ.set i (jr (.bor t)))|_,_,_=>kv
def CL:Tg->T->xA->(xA->Prop)->Prop
 | .nm i,t,ρ,Q=>Q (ρ.set i (jr (.bor t)))|.tp is,t,ρ,Q=>match t.vw with
  | .tp x=>∃h,KB is x ρ=jr h/\Q h|_=>False
def Tg.ix:Tg->LN
 | .nm i=>[i]|.tp h=>h
def L7:PX->Option Nat
 | .var i=>jr i|_=>kv
noncomputable def rG:Option Sl->Option Sl
 |some (.own t)=>jr (.bor t)|s=>s
def lockA(ρ:xA):xA:=ρ.map rG
def lock:LN->xA->xA
 |[],ρ=>ρ|i::is,ρ=>lock is (ρ.modify i rG)
def oY:Option Sl->Option Sl
 |some (.own t)=>bD t.er|s=>s
noncomputable def frzAt:LN->xA->xA
 |[],ρ=>ρ|i::is,ρ=>frzAt is (ρ.modify i oY)
noncomputable def TN:Option Sl->Option Sl
 |some (.bor t)=>if t.isD=kf then jr (.bor t) else kv|s=>s
def kill:LN->xA->xA
 |[],ρ=>ρ|i::is,ρ=>kill is (ρ.modify i TN)
noncomputable def clear:LN->xA->xA
 |[],ρ=>ρ|i::is,ρ=>clear is (ρ.set i kv)
noncomputable def NA:LN->xA->Option (LT)
 |[],_=>jr []|i::is,ρ=>match ρ[i]? with
  |some (jr (.own t))=>(NA is ρ).map (t::·)|_=>kv
noncomputable def uC:LN->LT->xA->Option xA
 |[],[],ρ=>jr ρ|i::is,t::ts,ρ=>uC is ts (ρ.set i (jr (.own t)))|_,_,_=>kv
noncomputable def nC:List Bool->xA->xA
 |b::m,v::ρ=>(if b then kv else v)::nC m ρ|_,ρ=>ρ
def rP(k:Nat)(h:List Bool)(ρ:xA):xA:=QAW k kv++nC h ρ
def sq{α:Type}(x:T)(ρ:xA)(b:xA->(α->xA->Prop)->Prop)(K:α->xA->Prop):Prop :=
 if x.isD=kf then b ρ K else b (lockA ρ) λy _=>K y ρ
def cu(f:xA->TK->Prop):xA->(T×Bool->xA->Prop)->Prop:=λy K=>f y λx n h=>K (x,n) h
def TF:List (T×Bool)->LT
 |[]=>[]|p::r=>p.1::TF r
def pP:List (T×Bool)->LT
 |[]=>[]|p::r=>nA p.1 p.2::pP r
noncomputable def TB:List (T×Bool)->List Vw
 |[]=>[]|p::r=>(nA p.1 p.2).vw::TB r
noncomputable def AE:List (T×Bool)->Bool
 |[]=>kf|p::r=>XH p.1 p.2&&AE r
noncomputable def pT:List (T×Bool)->Bool
 |[]=>kf|p::r=>XH p.1 p.2&&pT r
def UE(t:T):Option T:=match t.vw with
 | .ls h=>(MF h).map λx=>.lst (x.map T.d)|_=>if t.isD=kf then jr t else kv
def sA:List Md->List (T×Bool)->LT->Option (LT)
 |_,[],[]=>jr []|_,[],_::_=>kv|md,(x,n)::xs,os=>match md.headD .fro with
  | .fro=>match nA x n with
   | .d d=>(sA md.tail xs os).map (.d d::·)|_=>kv
  | .shal=>match UE (nA x n) with
   |some t=>(sA md.tail xs os).map (t::·)|none=>kv
  | .bor=>(sA md.tail xs os).map (nA x n::·)|.chg=>match os with
   |o::os=>(sA md.tail xs os).map (o::·)|[]=>kv
noncomputable def MB:List Md->LT->LT
 |_,[]=>[]|md,t::ts=>match md.headD .fro with
  | .chg=>t::MB md.tail ts|_=>MB md.tail ts
noncomputable def cA:List Md->PX->LN
 | .chg::md,.acons (.var j) as=>j::cA md as|_::md,.acons _ as=>cA md as|_,_=>[]
def Md.isMut:Md->Bool
 | .chg=>kf|_=>kd
structure D3 where
 e:xA->TK->Prop
 t:xA->(Bool->xA->Prop)->Prop
 a:List Md->xA->(List (T×Bool)->xA->Prop)->Prop
def MD:D3:=#[λ_ _=>False,λ_ _=>False,λ_ _ _=>False]
def AC(body:T->(Option T->Prop)->Prop):LT->LT->(LT->Prop)->Prop
 |[],acc,Q=>acc.9<=kn/\Q acc|x::xs,acc,Q=>body x fun
  |some y=>acc.9<kn/\AC body xs (acc++[y]) Q|none=>AC body xs acc Q
def KG(v:Tg)(u:xA)(c:xA->(Bool->xA->Prop)->Prop)(e:xA->TK->Prop)(x:T)(R:Option T->Prop):Prop :=
 CL v x u λz=>c z λb h=>if b=kf then e h λy n _=>XH y n=kf/\R (jr y) else R kv
def Af(x:Vw)(Q:T->Bool->Prop):Prop:=∃h,∃nd:List (Str×D),x=.ls h/\MF h=jr (nd.map λp=>PyData.tuple [.str p.1,p.2])/\(nd.map λp=>p.1).Nodup/\Q (.dct kd (nd.map λp=>.str p.1) ((nd.map λp=>p.2).map T.d)) kf
def Pw:Option (Option Sl)->(T->Prop)->Prop
 |some (jr (.own t)),Q=>Q t|some (jr (.bor t)),Q=>Q t|some kv,_=>False|none,_=>False
def xD:Option (Option Sl)->(T->Prop)->Prop
 |some (jr (.own t)),Q=>Q t|some (jr (.bor _)),_=>False|some kv,_=>False|none,_=>False
def zh:Option Nat->(Nat->Prop)->Prop
 |none,_=>False|some j,Q=>Q j
def ba:PX->Bool
 | .var _=>kf|_=>kd
def pe(Ψ:PEv):PX->XE->D3
 | .var i,_=>let e:xA->TK->Prop:=λv Q=>Pw v[i]? λt=>Q t kd v
  #[e,λv Q=>e v λt _ h=>HI t.er λb=>Q b h,MD.a]
 | .int i,_=>#[λv Q=>Q (.d (.int i)) kd v,λv Q=>Q (i != 0) v,MD.a]|.str x,_=>#[λv Q=>Q (.d (.str x)) kd v,MD.t,MD.a]|.bl b,_=>#[λv Q=>Q (.d (.bool b)) kd v,λv Q=>Q b v,MD.a]|.non,_=>#[λv Q=>Q (.d .none) kd v,λv Q=>Q kd v,MD.a]|.glo x,_=>let e:xA->TK->Prop:=λv Q=>match Ψ.va x with
   |some d=>Q (.d d) kd v|none=>False
  #[e,λv Q=>e v λt _ h=>HI t.er λb=>Q b h,MD.a]
 | .bin op a b,E=>let e:xA->TK->Prop:=λv Q=>(pe Ψ a E).e v λx n h=>sq (nA x n) h (cu (pe Ψ b E).e) λy w=>binT op (nA x n).vw (nA y.1 y.2).vw λz k=>Q z k w
  #[e,λv Q=>e v λt _ h=>HI t.er λb=>Q b h,MD.a]
 | .cmp op a b,E=>let t:xA->(Bool->xA->Prop)->Prop:=λv Q=>(pe Ψ a E).e v λx n h=>sq (nA x n) h (cu (pe Ψ b E).e) λy w=>zg op x.er (nA y.1 y.2) λk=>Q k w
  #[λv Q=>t v λk h=>Q (.d (.bool k)) kd h,t,MD.a]
 | .and a b,E=>#[λv Q=>(pe Ψ a E).e v λx _ h=>Rp x.er λc=>if c=kf then(pe Ψ b E).e h Q else Q (.d (.bool kd)) kd h,
   λv Q=>(pe Ψ a E).t v λc h=>if c=kf then(pe Ψ b E).t h Q else Q kd h,MD.a]
 | .or a b,E=>#[λv Q=>(pe Ψ a E).e v λx _ h=>Rp x.er λc=>if c=kf then Q (.d (.bool kf)) kd h else(pe Ψ b E).e h Q,
   λv Q=>(pe Ψ a E).t v λc h=>if c=kf then Q kf h else(pe Ψ b E).t h Q,MD.a]
 | .not a,E=>#[λv Q=>(pe Ψ a E).e v λx _ h=>HI x.er λc=>Q (.d (.bool (!c))) kd h,λv Q=>(pe Ψ a E).t v λc h=>Q (!c) h,MD.a]|.ife c a b,E=>#[λv Q=>(pe Ψ c E).t v λk h=>if k=kf then(pe Ψ a E).e h Q else(pe Ψ b E).e h Q,MD.t,MD.a]|.call f as,E=>let e:xA->TK->Prop:=λv Q=>∃Z,NA (cA (Ψ.sp f).md as) v=jr Z/\(cA (Ψ.sp f).md as).Nodup/\(pe Ψ as E).a (Ψ.sp f).md (clear (cA (Ψ.sp f).md as) v) λg h=>∃Y,sA (Ψ.sp f).md g Z=jr Y/\(Ψ.sp f).run Y (λr s=>∃w,uC (cA (Ψ.sp f).md as) s h=jr w/\Q r kf w) E
  #[e,λv Q=>e v λt _ h=>HI t.er λb=>Q b h,MD.a]
 | .bi f as,E=>let e:xA->TK->Prop:=λv Q=>(pe Ψ as E).a [] v λg h=>E5 f (TB g) λz k=>Q z k h
  #[e,λv Q=>e v λt _ h=>HI t.er λb=>Q b h,MD.a]
 | .mt m o as,E=>let e:xA->TK->Prop:=λv Q=>if isMut m=kf then zh (L7 o) λj=>xD v[j]? λt=>aJ m t=kf/\(pe Ψ as E).a [] (v.set j (jr (.bor t))) λg w=>AE g=kf/\w[j]?=jr (jr (.bor t))/\zM m t (TF g) λr K=>Q r kf (w.set j (jr (.own K))) else(pe Ψ o E).e v λx n h=>Z9 m (nA x n).vw=kf/\sq (nA x n) h ((pe Ψ as E).a []) λg w=>Sw m (nA x n).vw (TB g) λz k=>Q z k w
  #[e,λv Q=>e v λt _ h=>HI t.er λb=>Q b h,MD.a]
 | .idx a b,E=>let e:xA->TK->Prop:=λv Q=>(pe Ψ a E).e v λx n h=>sq (nA x n) h (cu (pe Ψ b E).e) λy w=>(oP (nA x n).vw (nA y.1 y.2).vw λz=>Q z kd w)∨(BV (nA x n).vw y.1.er λz=>Q z kd w)
  #[e,λv Q=>e v λt _ h=>HI t.er λb=>Q b h,MD.a]
 | .slc a lo hi,E=>#[λv Q=>(pe Ψ a E).e v λx n h =>
   sq (α:=Option Int) (nA x n) h (if isNop lo=kf then λv (R:Option Int->xA->Prop)=>R kv v else λv R=>(pe Ψ lo E).e v λl _ w=>lG l.er λo=>R o w) λl w =>
   sq (α:=Option Int) (nA x n) w (if isNop hi=kf then λv (R:Option Int->xA->Prop)=>R kv v else λv R=>(pe Ψ hi E).e v λu _ p=>lG u.er λo=>R o p) λu p=>oK (nA x n).vw l u λz k=>Q z k p,MD.t,MD.a]
 | .nop,_=>MD|.lst as,E=>#[λv Q=>(pe Ψ as E).a [] v λg h=>AE g=kf/\g.9<=kn/\Q (.lst (TF g)) kf h,MD.t,MD.a]|.tup as,E=>#[λv Q=>(pe Ψ as E).a [] v λg h=>AE g=kf/\g.9<=kn/\Q (KC (TF g)) kf h,MD.t,MD.a]|.comp mask tgs tg ik its cond elt,E=>#[λv Q=>(pe Ψ its E).a [] v λg h=>OB ik (TB g) λq =>
   AC (KG tg (rP tgs.9 mask (lockA h)) (if isNop cond=kf then λv R=>R kf v else(pe Ψ cond (λ_=>False)).t) (pe Ψ elt (λ_=>False)).e) q [] λW=>Q (.lst W) kf h,MD.t,MD.a]
 | .dnew b,_=>#[λv Q=>Q (.dct b [] []) kf v,MD.t,MD.a]|.dof a,E=>#[λv Q=>(pe Ψ a E).e v λx n h=>Af (nA x n).vw λz k=>Q z k h,MD.t,MD.a]|.dsp a b,E=>#[λv Q=>(pe Ψ a E).e v λy m h=>XH y m=kf/\(pe Ψ b E).e h λx n w=>XH x n=kf/\YD kf y.er/\Q (.dct kf [y.er] [x]) kf w,MD.t,MD.a]|.ng i,_=>#[λv Q=>Q (.d (.int (-i))) kd v,MD.t,MD.a]|.lrv a,E=>#[λv Q=>(pe Ψ a E).e v λx n h=>sd (nA x n).vw λz k=>Q z k h,MD.t,MD.a]|.anil,_=>#[MD.e,MD.t,λ_ v Q=>Q [] v]|.acons a as,E=>#[MD.e,MD.t,λX v Q=>if(X.headD .fro).isMut=kf then ba a=kf/\(pe Ψ as E).a X.tail v λg h=>Q ((.d .none,kf)::g) h
   else(pe Ψ a E).e v λx n h=>sq (α:=List (T×Bool)) (if n=kf then .d .none else x) h ((pe Ψ as E).a X.tail) λg w=>Q ((x,n)::g) w]
structure PEnds where
 nx:xA->Prop
 rt:T->xA->Prop
 bk:xA->Prop:=λ_=>False
 ct:xA->Prop:=λ_=>False
noncomputable def jG:PX->LN
 | .var i=>[i]|.idx a _=>jG a|.ife _ a b=>jG a++jG b|.and a b | .or a b=>jG a++jG b
 | .acons a h=>jG a++jG h|_=>[]
noncomputable def VN:Option (Option Sl)->Bool
 |some (jr (.own _))=>kf|some (jr (.bor _))=>kd|some kv=>kd|none=>kd
def gC(ρ:xA):LN->LN
 |[]=>[]|i::is=>if VN ρ[i]?=kf then i::gC ρ is else gC ρ is
noncomputable def HC:LN->xA->xA->xA
 |[],_,ρ=>ρ|i::L,ρ0,ρ=>HC L ρ0 (ρ.set i (ρ0[i]?.getD kv))
def OW(J L:LN)(h:xA)(N:xA->Prop)(ρ:xA):Prop:=(∀i∈L,i∉J/\ρ[i]?=h[i]?.map rG)/\N (HC L h ρ)
def oI(body:PEnds->xA->Prop)(z:Tg)(Z:PEnds):LT->xA->Prop
 |[],ρ=>Z.nx ρ|x::xs,ρ=>CL z x ρ λy=>body { Z with nx:=λh=>oI body z Z xs h,ct:=λh=>oI body z Z xs h,bk:=Z.nx } y
def Dy(ρ:xA)(i:Nat)(R:T->xA->Prop):Option (Option Sl)->Prop
 |some (jr (.own t))=>R t (ρ.set i kv)|some (jr (.bor t))=>t.isD=kf/\R t ρ|some kv=>False|none=>False
def aD(Ψ:PEv)(E:XE)(y:T->xA->Prop):PX->xA->Prop
 | .var i,ρ=>Dy ρ i y ρ[i]?|.ife c a b,ρ=>(pe Ψ c E).t ρ λk h=>if k=kf then aD Ψ E y a h else aD Ψ E y b h|e,ρ=>(pe Ψ e E).e ρ λx n h=>XH x n=kf/\y x h
def Js:T->D->D->(T->Prop)->Prop
 | .lst ts,.int i,x,Q=>∃n,UT ts.9 i=jr n/\Q (.lst (ts.set n (.d x)))|.dct b ks ts,k,x,Q=>YD b k/\ks.9<kn/\Q (rK b ks ts k (.d x))|_,_,_,_=>False
noncomputable def iy:PX->Option (Nat×Option PX)
 | .var j=>jr (j,kv)|.idx (.var j) k=>jr (j,jr k)|_=>kv
def Sk(k:D)(t:T)(Q:T->Prop):Prop:=∃h x,t=.dct kf h x/\YD kf k/\h.9<kn/\((∃n,dA h k=jr n/\Q t)∨(dA h k=kv/\Q (.dct kf (h++[k]) (x++[.dct kf [] []]))))
def Ef:T->Bool
 | .dct kf _ _=>kf|_=>kd
def Ir(z:D)(t:T)(Q:T->(T->T)->Prop):Prop:=∃b x h n s,t=.dct b x h/\YD b z/\dA x z=jr n/\h[n]?=jr s/\Q s λy=>.dct b x (h.set n y)
def mB(Ψ:PEv)(E:XE):PT->PEnds->xA->Prop
 | .nil,Z,u=>Z.nx u|.seq s r,Z,u=>mB Ψ E s { Z with nx:=λw=>mB Ψ E r Z w } u|.set i e,Z,u=>(pe Ψ e E).e u λx n h=>XH x n=kf/\Z.nx (h.set i (bD x.er))|.expr e,Z,u=>(pe Ψ e E).e u λ_ _ h=>Z.nx h|.ret e,Z,u=>aD Ψ E Z.rt e u|.ife c a b,Z,u=>(pe Ψ c E).t u λk h=>if k=kf then mB Ψ E a Z h else mB Ψ E b Z h|.for_ tg ik its body,Z,u=>(pe Ψ its E).a [] u λX h=>OB ik (TB X) λf =>
   if pT X=kf then oI (mB Ψ E body) tg { Z with nx:=λv=>Z.nx (kill tg.ix v) } f h
   else oI (mB Ψ E body) tg { Z with nx:=λv=>OW tg.ix (gC h (jG its)) h Z.nx (kill tg.ix v) } f (lock (gC h (jG its)) h)
 | .own i e,Z,u=>(pe Ψ e E).e u λx n h=>XH x n=kf/\Z.nx (h.set i (jr (.own x)))|.tset is e,Z,u=>(pe Ψ e E).e u λx n h=>XH x n=kf/\CL (.tp is) (.d x.er) h Z.nx|.six o i e,Z,u=>match iy o with
  |none=>False|some (j,kv)=>xD u[j]? λt=>(pe Ψ e E).e (u.set j (jr (.bor t))) λx n h=>XH x n=kf/\(pe Ψ i E).e h λy m v=>XH y m=kf/\v[j]?=jr (jr (.bor t))/\Js t y.er x.er λq=>Z.nx (v.set j (jr (.own q)))|some (j,jr k)=>xD u[j]? λt=>(pe Ψ e E).e (u.set j (jr (.bor t))) λx n h=>XH x n=kf/\(pe Ψ k E).e h λz l v=>XH z l=kf/\Ir z.er t λs put=>(pe Ψ i E).e v λy m g=>XH y m=kf/\g[j]?=jr (jr (.bor t))/\Js s y.er x.er λY=>Z.nx (g.set j (jr (.own (put Y))))
 | .sdf j k,Z,u=>xD u[j]? λt=>Ef t=kf/\(pe Ψ k E).e (u.set j (jr (.bor t))) λy m h=>XH y m=kf/\h[j]?=jr (jr (.bor t))/\Sk y.er t λq=>Z.nx (h.set j (jr (.own q)))|.whl c body,Z,u=>∃W:Nat->xA->Prop,(∃m,W m u)/\∀m u,W m u->(pe Ψ c E).t u λb h=>if b=kf then
   mB Ψ E body { Z with nx:=λw=>∃p,p < m/\W p w,ct:=λw=>∃p,p < m/\W p w,bk:=Z.nx } h else Z.nx h
 | .frz is s,Z,u=>mB Ψ E s Z (frzAt is u)
abbrev pF(Ψ:PEv):PT->PEnds->xA->Prop:=mB Ψ λ_=>False
theorem _root_.L2.Same.rd{H x:Hp}(e:Same H x){a:ko}{u:HO}(h:Rd H a u):Rd x a u:=by
 rcases h with h|⟨o,h⟩
 exact .inl (e _ _ h);exact .inr #[o,e _ _ h]
theorem _root_.L2.Same.tupl{K:QC}{H x:Hp}{a:ko}{xs:LV}(e:Same H x)(h:LD K H a xs):LD K x a xs:=by rcases h with h|h;exact .inl (e.rd h);exact .inr h
mutual
theorem C0{K:QC}{H x:Hp}(e:Same H x):∀{k:NK}{v:V},uq K H k v->uq K x k v
 | .s _,_,h=>h|.t _,_,#[a,xs,h,q,p]=>#[a,xs,h,e.tupl q,kys_mono e p]
theorem kys_mono{K:QC}{H y:Hp}(e:Same H y):∀{ks:List NK}{vs:LV},KyVs K H ks vs->KyVs K y ks vs
 |[],_,h=>h|_::_,_,#[x,r,h,p,q]=>#[x,r,h,C0 e p,kys_mono e q]
end
section
variable{K:QC}{H x:Hp}{vs:LV}{ds:List D}
theorem _root_.L2.Same.key(e:Same H x){b:ko}{k:NK}(h:BP K H b k):BP K x b k:=#[C0 e h.1,h.2]
theorem DI.mono(e:Same H x){b:Bool}{o:HO}{ks:List D}(h:DI K H b o ks vs):DI K x b o ks vs:=by
 cases b with|true=>let#[f,y,a,k,w,v,u]:=h;exact#[f,y,a,k,w,λp z=>e.key (v p z),u]|false=>exact h
theorem Rep.mono2(e:Same H x):(∀{v:V}{d:D},Rep K H v d->Rep K x v d)/\∀{vs:LV}{ds:List D},Reps K H vs ds->Reps K x vs ds :=
 Rep.both (P:=Rep K x) (R:=Reps K x) .non .bl .int .str (λh _ r=>.lst (e.seq h) r) (λh _ r=>.tup (e.tupl h) r) (λh q _ r=>.dct (e _ _ h) (q.mono e) r) .nil λ_ _ h r=>.cons h r
theorem Rep.mono(e:Same H x){v:V}{d:D}(h:Rep K H v d):Rep K x v d:=(Rep.mono2 e).1 h
theorem Reps.mono(e:Same H x)(h:Reps K H vs ds):Reps K x vs ds:=(Rep.mono2 e).2 h
theorem Reps.append{ws:LV}{es:List D}(h:Reps K H vs ds)(r:Reps K H ws es):Reps K H (vs++ws) (ds++es):=Reps.ind (R:=λvs ds=>Reps K H (vs++ws) (ds++es)) r (λh t=>.cons h t) h
theorem Reps.reverse(h:Reps K H vs ds):Reps K H vs.reverse ds.reverse:=Reps.ind (R:=λvs ds=>Reps K H vs.reverse ds.reverse) .nil (λr y=>by rw[wb,wb];exact y.append (.cons r .nil)) h
theorem Reps.get{K:QC}{H:Hp}:∀{vs:LV}{ds:List D}{i:Nat}{d:D},Reps K H vs ds->ds[i]?=jr d->∃v,vs[i]?=jr v/\Rep K H v d
 |_,_,i,_,.nil,h=>by simp at h|_,_,0,_,.cons h _,e=>by simp at e;subst e;exact#[_,rfl,h]|_,_,i+1,d,.cons _ t,e=>by let#[v,z,y]:=Reps.get (i:=i) t (by simpa using e);exact#[v,by simpa using z,y]
theorem Reps.drop{K:QC}{H:Hp}:∀{vs:LV}{ds:List D}(n:Nat),Reps K H vs ds->Reps K H (vs.drop n) (ds.drop n)
 |_,_,0,r=>r|_,_,_+1,.nil=>.nil|_,_,n+1,.cons _ t=>Reps.drop n t
theorem Reps.take{K:QC}{H:Hp}:∀{vs:LV}{ds:List D}(n:Nat),Reps K H vs ds->Reps K H (vs.take n) (ds.take n)
 |_,_,0,_=>.nil|_,_,_+1,.nil=>.nil|_,_,n+1,.cons h t=>.cons h (Reps.take n t)
theorem Reps.bools{K:QC}{H:Hp}:∀{vs:LV}{bs:List Bool},Reps K H vs (bs.map PyData.bool)->vs=bs.map V.bl
 |_,[],.nil=>rfl|_,b::bs,.cons h t=>by cases h;rw[QU,Reps.bools t]
theorem AB{p:ko}{o:HO}(h:H p=kv):Same H (FA H p o):=λb u q=>by rw[uA (YA q h)];exact q
end
mutual
inductive Tr(K:QC)(F H:Hp):Bool->V->T->(ko->Prop)->Prop where
 |d {st:Bool}{v:V}{x:D}{S:YB}:Rep K F v x->(∀b,¬ S b)->Tr K F H st v (.d x) S
 |lst {st:Bool}{a:ko}{vs:LV}{ts:LT}{S S':YB}:H a=jr (.lst vs)->F a=kv->Trs K F H st vs ts S'->¬ S' a->(∀b,S b↔b=a∨S' b)->Tr K F H st (.ref a) (.lst ts) S
 |tup {st:Bool}{a:ko}{vs:LV}{ts:LT}{S S':YB}:H a=jr (.tup vs)->F a=kv->Trs K F H st vs ts S'->¬ S' a->(∀b,S b↔b=a∨S' b)->Tr K F H st (.ref a) (.tup ts) S
 |lstF {a:ko}{vs:LV}{ds:List D}{S:YB}:YC K F a vs->Reps K F vs ds->(∀b,¬ S b)->Tr K F H kd (.ref a) (.lst (ds.map T.d)) S
 |dct {st b:Bool}{a:ko}{o:HO}{ks:List D}{vs:LV}{ts:LT}{S S':YB}:H a=jr o->DI K F b o ks vs->F a=kv->Trs K F H st vs ts S'->¬ S' a->(∀b,S b↔b=a∨S' b)->Tr K F H st (.ref a) (.dct b ks ts) S
inductive Trs(K:QC)(F H:Hp):Bool->LV->LT->(ko->Prop)->Prop where
 |nil {st:Bool}{S:YB}:(∀b,¬ S b)->Trs K F H st [] [] S
 |cons {st:Bool}{v:V}{t:T}{vs:LV}{ts:LT}{S S1 S2:YB}:Tr K F H st v t S1->Trs K F H st vs ts S2->(∀b,S1 b->¬ S2 b)->(∀b,S b↔S1 b∨S2 b)->Trs K F H st (v::vs) (t::ts) S
end
section
variable{K:QC}{F H w c:Hp}
section
variable{R:Bool->LV->LT->(ko->Prop)->Prop}{st b:Bool}{v:V}{t:T}{S:YB}{vs:LV}{ts:LT}{ds ks:List D}{i:Int}{kvs:List (D×D)}
theorem Tr.both{P:Bool->V->T->(ko->Prop)->Prop}
    (d:∀{st:Bool}{v:V}{x:D}{S:YB},Rep K F v x->(∀b,¬ S b)->P st v (.d x) S)
    (lst:∀{st:Bool}{a:ko}{vs:LV}{ts:LT}{S S':YB},H a=jr (.lst vs)->F a=kv->Trs K F H st vs ts S'->¬ S' a->(∀b,S b↔b=a∨S' b)->R st vs ts S'->P st (.ref a) (.lst ts) S)
    (tup:∀{st:Bool}{a:ko}{vs:LV}{ts:LT}{S S':YB},H a=jr (.tup vs)->F a=kv->Trs K F H st vs ts S'->¬ S' a->(∀b,S b↔b=a∨S' b)->R st vs ts S'->P st (.ref a) (.tup ts) S)
    (y:∀{a:ko}{vs:LV}{ds:List D}{S:YB},YC K F a vs->Reps K F vs ds->(∀b,¬ S b)->P kd (.ref a) (.lst (ds.map T.d)) S)
    (dct:∀{st b:Bool}{a:ko}{o:HO}{ks:List D}{vs:LV}{ts:LT}{S S':YB},H a=jr o->DI K F b o ks vs->F a=kv->Trs K F H st vs ts S'->¬ S' a->(∀b,S b↔b=a∨S' b)->R st vs ts S'->P st (.ref a) (.dct b ks ts) S)
    (u:∀{st:Bool}{S:YB},(∀b,¬ S b)->R st [] [] S)
    (z:∀{st:Bool}{v:V}{t:T}{vs:LV}{ts:LT}{S S1 k:YB},Tr K F H st v t S1->Trs K F H st vs ts k->(∀b,S1 b->¬ k b)->(∀b,S b↔S1 b∨k b)->P st v t S1->R st vs ts k->R st (v::vs) (t::ts) S) :
    (∀{st:Bool}{v:V}{t:T}{S:YB},Tr K F H st v t S->P st v t S)/\∀{st:Bool}{vs:LV}{ts:LT}{S:YB},Trs K F H st vs ts S->R st vs ts S :=
  #[λh=>Tr.rec (motive_1:=λst v t S _=>P st v t S) (motive_2:=λst vs ts S _=>R st vs ts S) @d @lst @tup @y @dct @u @z h,
   λh=>Trs.rec (motive_1:=λst v t S _=>P st v t S) (motive_2:=λst vs ts S _=>R st vs ts S) @d @lst @tup @y @dct @u @z h]
theorem Tr.mono2(e:Same F w):(∀{st:Bool}{v:V}{t:T}{S:YB},Tr K F H st v t S->(∀b,S b->c b=H b/\w b=kv)->Tr K w c st v t S)/\∀{st:Bool}{vs:LV}{ts:LT}{S:YB},Trs K F H st vs ts S->(∀b,S b->c b=H b/\w b=kv)->Trs K w c st vs ts S :=
 Tr.both (P:=λst v t S=>(∀b,S b->c b=H b/\w b=kv)->Tr K w c st v t S) (R:=λst v t S=>(∀b,S b->c b=H b/\w b=kv)->Trs K w c st v t S)
  (λr n _=>.d (r.mono e) n)
  (λ{_ a _ _ _ _} h _ _ n q x k=>.lst ((k a ((q a).mpr (.inl rfl))).1.trans h) (k a ((q a).mpr (.inl rfl))).2 (x λb hb=>k b ((q b).mpr (.inr hb))) n q)
  (λ{_ a _ _ _ _} h _ _ n q x k=>.tup ((k a ((q a).mpr (.inl rfl))).1.trans h) (k a ((q a).mpr (.inl rfl))).2 (x λb hb=>k b ((q b).mpr (.inr hb))) n q)
  (λh r n _=>.lstF (e.seq h) (r.mono e) n)
  (λ{_ _ a _ _ _ _ _ _} h u _ _ n q x k=>.dct ((k a ((q a).mpr (.inl rfl))).1.trans h) (u.mono e) (k a ((q a).mpr (.inl rfl))).2 (x λb hb=>k b ((q b).mpr (.inr hb))) n q)
  (λn _=>.nil n)
  (λ_ _ n q z y k=>.cons (z λb hb=>k b ((q b).mpr (.inl hb))) (y λb hb=>k b ((q b).mpr (.inr hb))) n q)
theorem Tr.mono(e:Same F w)(h:Tr K F H st v t S)(k:∀b,S b->c b=H b/\w b=kv):Tr K w c st v t S:=(Tr.mono2 e).1 h k
theorem Trs.mono(e:Same F w)(h:Trs K F H st vs ts S)(k:∀b,S b->c b=H b/\w b=kv):Trs K w c st vs ts S:=(Tr.mono2 e).2 h k
theorem Tr.weak2:(∀{st:Bool}{v:V}{t:T}{S:YB},Tr K F H st v t S->Tr K F H kd v t S)/\∀{st:Bool}{vs:LV}{ts:LT}{S:YB},Trs K F H st vs ts S->Trs K F H kd vs ts S :=
 Tr.both (P:=λ_ v t S=>Tr K F H kd v t S) (R:=λ_ v t S=>Trs K F H kd v t S) .d (λh f _ n q x=>.lst h f x n q) (λh f _ n q x=>.tup h f x n q) .lstF (λh u f _ n q x=>.dct h u f x n q) .nil λ_ _ n q z y=>.cons z y n q
theorem Tr.weak(h:Tr K F H st v t S):Tr K F H kd v t S:=Tr.weak2.1 h
theorem Trs.weak(h:Trs K F H st vs ts S):Trs K F H kd vs ts S:=Tr.weak2.2 h
theorem Cb{C:YB}{a:ko}{S':YB}(q:∀b,S b↔b=a∨S' b)(h:C a)(k:∀b,S' b->C b)(b:ko)(hb:S b):C b:=((q b).mp hb).elim (λe=>e▸h) (k b)
theorem Tr.dom2:(∀{st:Bool}{v:V}{t:T}{S:YB},Tr K F H st v t S->∀b,S b->H b≠kv/\F b=kv)/\∀{st:Bool}{vs:LV}{ts:LT}{S:YB},Trs K F H st vs ts S->∀b,S b->H b≠kv/\F b=kv :=
 have y:∀{a:ko}{o:HO},H a=jr o->H a≠none:=λh z=>by rw[h]at z;cases z
 Tr.both (P:=λ_ _ _ S=>∀b,S b->H b≠kv/\F b=kv) (R:=λ_ _ _ S=>∀b,S b->H b≠kv/\F b=kv)
  (λ_ n b hb=>i3 hb (n b)) (λh f _ _ q x=>Cb q #[y h,f] x) (λh f _ _ q x=>Cb q #[y h,f] x) (λ_ _ n b hb=>i3 hb (n b)) (λh _ f _ _ q x=>Cb q #[y h,f] x)
  (λn b hb=>i3 hb (n b)) λ_ _ _ q k u b hb=>((q b).mp hb).elim (k b) (u b)
theorem Tr.dom(h:Tr K F H st v t S):∀b,S b->H b≠kv/\F b=none:=Tr.dom2.1 h
theorem Trs.dom(h:Trs K F H st vs ts S):∀b,S b->H b≠kv/\F b=none:=Tr.dom2.2 h
theorem Tr.kept2(e:Same F w):(∀{st:Bool}{v:V}{t:T}{S:YB},Tr K F H st v t S->(∀b u,S b->H b=jr u->w b=jr u)->Rep K w v t.er)/\∀{st:Bool}{vs:LV}{ts:LT}{S:YB},Trs K F H st vs ts S->(∀b u,S b->H b=jr u->w b=jr u)->Reps K w vs (ersT ts) :=
 Tr.both (P:=λ_ v t S=>(∀b u,S b->H b=jr u->w b=jr u)->Rep K w v t.er) (R:=λ_ v t S=>(∀b u,S b->H b=jr u->w b=jr u)->Reps K w v (ersT t))
  (λr _ _=>r.mono e)
  (λ{_ a _ _ _ _} h _ _ _ q x k=>by unfold T.er;exact .lst (YC.of (k a _ ((q a).mpr (.inl rfl)) h)) (x λb u hb=>k b u ((q b).mpr (.inr hb))))
  (λ{_ a _ _ _ _} h _ _ _ q x k=>by unfold T.er;exact .tup (LD.of (k a _ ((q a).mpr (.inl rfl)) h)) (x λb u hb=>k b u ((q b).mpr (.inr hb))))
  (λh r _ _=>by unfold T.er;rw[UA];exact .lst (e.seq h) (r.mono e))
  (λ{_ _ a _ _ _ _ _ _} h f _ _ _ q x k=>by unfold T.er;exact .dct (k a _ ((q a).mpr (.inl rfl)) h) (f.mono e) (x λb u hb=>k b u ((q b).mpr (.inr hb))))
  (λ_ _=>.nil)
  (λ_ _ _ q z y k=>.cons (z λb u hb=>k b u ((q b).mpr (.inl hb))) (y λb u hb=>k b u ((q b).mpr (.inr hb))))
theorem Tr.kept(e:Same F w)(h:Tr K F H st v t S)(k:∀b u,S b->H b=jr u->w b=jr u):Rep K w v t.er:=(Tr.kept2 e).1 h k
theorem Tr.rep(f:Same F H)(h:Tr K F H st v t S):Rep K H v t.er:=h.kept f λ_ _ _ e=>e
theorem Trs.ind(z:∀{st:Bool}{S:YB},(∀b,¬ S b)->R st [] [] S)
  (x:∀{st:Bool}{v:V}{t:T}{vs:LV}{ts:LT}{S S1 y:YB},Tr K F H st v t S1->Trs K F H st vs ts y->(∀b,S1 b->¬ y b)->(∀b,S b↔S1 b∨y b)->R st vs ts y->R st (v::vs) (t::ts) S) (h:Trs K F H st vs ts S):R st vs ts S :=
 (Tr.both (P:=λ_ _ _ _=>True) (λ_ _=>trivial) (λ_ _ _ _ _ _=>trivial) (λ_ _ _ _ _ _=>trivial) (λ_ _ _=>trivial) (λ_ _ _ _ _ _ _=>trivial) z λh t n q _ r=>x h t n q r).2 h
theorem Trs.length(h:Trs K F H st vs ts S):vs.9=ts.length:=Trs.ind (R:=λ_ vs ts _=>vs.9=ts.9) (λ_=>rfl) (λ_ _ _ _ e=>o9 Nat.succ e) h
theorem Trs.of_reps(h:Reps K F vs ds):Trs K F H st vs (ds.map T.d) (λ_=>False) :=
 Reps.ind (R:=λvs ds=>Trs K F H st vs (ds.map T.d) λ_=>False) (.nil λ_ z=>z) (λh t=>.cons (.d h λ_ z=>z) t (λ_ z=>z.elim) λb=>by simp) h
theorem Trs.un(h:Trs K F H st vs ts S)(e:MF ts=jr ds):Reps K F vs ds/\∀b,¬ S b:=by
 have u:=FM e;clear e;revert ds;refine Trs.ind (R:=λ_ vs ts S=>∀{ds:List D},ts=ds.map T.d->Reps K F vs ds/\∀b,¬ S b) (λn ds e=>?_) (λh _ _ q x ds e=>?_) h;cases ds with|nil=>exact#[.nil,n]|cons d r=>cases e
 cases ds with
 |nil=>cases e|cons d r =>
  injection e with e1 e2;let#[z,y]:=x e2;subst e1;cases h with|d rep m=>exact#[.cons rep z,λb hb=>((q b).mp hb).elim (m b) (y b)]
theorem Trs.get{i:Nat}(h:Trs K F H st vs ts S)(e:ts[i]?=jr t):∃v S1,vs[i]?=jr v/\Tr K F H st v t S1/\∀b,S1 b->S b:=by
 revert i;refine Trs.ind (R:=λst vs ts S=>∀{i:Nat},ts[i]?=jr t->∃v S1,vs[i]?=jr v/\Tr K F H st v t S1/\∀b,S1 b->S b) (λn i e=>by cases e) (λh _ n q x i e=>?_) h;cases i with|zero=>cases e;exact#[_,_,rfl,h,λb hb=>(q b).mpr (.inl hb)]|succ i=>let#[v,S1,u,z,y]:=x (i:=i) e;exact#[v,S1,u,z,λb hb=>(q b).mpr (.inr (y b hb))]
theorem Trs.at(r:Trs K F H st vs ts S)(h:vD ts i=jr t):∃v S1,vD vs i=jr v/\Tr K F H st v t S1/\∀b,S1 b->S b:=by
 unfold vD at h ⊢;rw[r.9];cases e:UT ts.9 i with|none=>rw[e]at h;cases h|some j=>rw[e]at h;exact r.get h
theorem Trs.append{ws:LV}{us:LT}{S1 x:YB}(h:Trs K F H st vs ts S1)(r:Trs K F H st ws us x)(k:∀b,S1 b->¬ x b):Trs K F H st (vs++ws) (ts++us) (λb=>S1 b∨x b) :=
 Trs.ind (R:=λst vs ts S1=>Trs K F H st ws us x->(∀b,S1 b->¬ x b)->Trs K F H st (vs++ws) (ts++us) λb=>S1 b∨x b)
  (λ{_ S} n r _=>by have e:(λb=>S b∨x b)=x:=funext λb=>ot #[λz=>z.resolve_left (n b),.inr];rw[e];exact r)
  (λh _ n q y r k=>.cons h (y r λb hb=>k b ((q b).mpr (.inr hb))) (λb hb z=>z.elim (n b hb) (k b ((q b).mpr (.inl hb)))) λb=>by rw[q b,or_assoc]) h r k
theorem Trs.one(h:Tr K F H st v t S):Trs K F H st [v] [t] S:=.cons h (.nil (S:=λ_=>False) λ_ z=>z) (λ_ _ z=>z) λb=>by simp
theorem yI(e:(T.d (.dict kvs)).vw=.ls ts):False:=by
 have e:GB kvs=.ls ts:=e;unfold GB at e;cases h:RC kvs with|none=>rw[h]at e;cases e|some b=>rw[h]at e;cases e
theorem VM(e:(T.d (.dict kvs)).vw=.tp ts):False:=by
 have e:GB kvs=.tp ts:=e;unfold GB at e;cases h:RC kvs with|none=>rw[h]at e;cases e|some b=>rw[h]at e;cases e
theorem Tr.ls(f:Same F H)(h:Tr K F H st v t S)(e:t.vw=.ls ts):∃a vs S',v=.ref a/\YC K H a vs/\Trs K F H kd vs ts S'/\∀b,S' b->S b:=by
 cases h with
 |d r n =>
  cases r with|lst q r=>injection e with e;subst e;exact#[_,_,_,rfl,f.seq q,Trs.of_reps r,λb hb=>hb.elim]|dct _ _ _=>exact(yI e).elim|_=>cases e
 |lst h _ r n q=>injection e with e;subst e;exact#[_,_,_,rfl,YC.of h,r.weak,λb hb=>(q b).mpr (.inr hb)]|tup=>cases e|dct=>cases e|lstF h r n=>injection e with e;subst e;exact#[_,_,_,rfl,f.seq h,Trs.of_reps r,λb hb=>hb.elim]
theorem Tr.tp(f:Same F H)(h:Tr K F H st v t S)(e:t.vw=.tp ts):∃a vs S',v=.ref a/\LD K H a vs/\Trs K F H kd vs ts S'/\∀b,S' b->S b:=by
 cases h with
 |d r n =>
  cases r with|tup q r=>injection e with e;subst e;exact#[_,_,_,rfl,f.tupl q,Trs.of_reps r,λb hb=>hb.elim]|dct _ _ _=>exact(VM e).elim|_=>cases e
 |tup h _ r n q=>injection e with e;subst e;exact#[_,_,_,rfl,LD.of h,r.weak,λb hb=>(q b).mpr (.inr hb)]|lst=>cases e|lstF=>cases e|dct=>cases e
theorem N0{u:Bool}{o:HO}(h:DI K H u o ks vs)(e:RC (ks.zip ds)=jr b):u=b:=by
 cases ks with
 |nil=>cases e|cons k ks =>
  cases ds with
  |nil=>cases e|cons d ds =>
   cases u with
   |true =>
    let#[m,kvs,_,y,_,g,_]:=h;cases kvs with
    |nil=>cases y|cons p r =>
     have a:=(g p QE).1;let#[f,n,j]:=p;cases f with|s x=>cases a|t l=>rw[QU]at y;injection y with y _;subst y;injection e
   |false =>
    rcases h with⟨kvs,_,_,y,_⟩| ⟨_,_,y,_⟩
    rotate_left
    cases y;cases kvs with
    |nil=>cases y|cons p r =>
     rw[QU]at y;injection y with y _;subst y;let#[k,v]:=p;cases k with|inl i=>cases e|inr z=>injection e
theorem Tr.dc(f:Same F H)(h:Tr K F H st v t S)(e:t.vw=.dc b ks ts):∃a o vs S',v=.ref a/\H a=jr o/\DI K F b o ks vs/\Trs K F H kd vs ts S'/\(∀b,S' b->S b)/\∀w c,Same F w->Same w c->(∀b,S b->c b=H b)->c a=jr o:=by
 cases h with
 |d r n =>
  cases r with
  |@dct p a o y l ds h q r =>
   have hl:y.9=ds.length:=by rw[q.len,Reps.length r]
   have g:(y.zip ds).map (λx=>x.1)=y:=WK (wx hl);have u:(y.zip ds).map (λx=>x.2)=ds:=WL (wx hl.symm);have e:GB (y.zip ds)=.dc b ks ts:=e;unfold GB at e;cases z:RC (y.zip ds) with
   |none=>rw[z]at e;cases e|some m =>
    rw[z]at e;injection e with z1 z2 z3;subst z1;rw[g]at z2;subst z2;have e3:ts=ds.map T.d:=by have j:=o9 (List.map T.d) u;rw[QR]at j;rw[<- z3,<- j];rfl
    subst e3;cases N0 q z;exact#[_,_,_,_,rfl,f _ _ h,q,Trs.of_reps r,λb hb=>hb.elim,λw c g u _=>u _ _ (g _ _ h)]
  |_=>cases e
 |dct h q _ r n s=>injection e with z1 z2 z3;subst z1 z2 z3;exact#[_,_,_,_,rfl,h,q,r.weak,λb hb=>(s b).mpr (.inr hb),λw c _ _ k=>(k _ ((s _).mpr (.inl rfl))).trans h]|lst=>cases e|tup=>cases e|lstF=>cases e
theorem Tr.sc{x:D}(h:Tr K F H st v t S)(e:t.vw=.sc x):t=.d x/\Rep K F v x:=by
 cases h with
 |@d _ _ y _ r n =>
  cases y with
  |list ds=>cases e|tuple ds=>cases e|dict ds =>
   have e:GB ds=.sc x:=e;unfold GB at e;cases z:RC ds with|none=>rw[z]at e;injection e with e;subst e;exact#[rfl,r]|some b=>rw[z]at e;cases e
  |_=>injection e with e;subst e;exact#[rfl,r]
 |tup=>cases e|lst=>cases e|lstF=>cases e|dct=>cases e
theorem Tr.int(h:Tr K F H st v t S)(e:t.vw=.sc (.int i)):v=.int i:=by let#[_,r]:=h.sc e;cases r;rfl
theorem Tr.str{i:Str}(h:Tr K F H st v t S)(e:t.vw=.sc (.str i)):v=.str i:=by let#[_,r]:=h.sc e;cases r;rfl
end
end
def Sl.t:Sl->T
 | .own t=>t|.bor t=>t
def Sl.st:Sl->Bool
 | .own _=>kf|.bor _=>kd
noncomputable abbrev Ft:=Nat->ko->Prop
structure Rl(K:QC)(F H:Hp)(S:Ft)(ρ:xA)(σ:St):Prop where
 fh:Same F H
 len:ρ.9=σ.9
 sl:∀(i:Nat) s,ρ[i]?=jr (jr s)->∃v,σ[i]?=jr (jr v)/\Tr K F H s.st v s.t (S i)
 dj:∀(i j:Nat) t s,i≠j->ρ[i]?=jr (jr (.own t))->ρ[j]?=jr (jr s)->∀b,S i b->¬ S j b
def U(ρ:xA)(S:Ft)(b:ko):Prop:=∃(i:Nat) (t:T),ρ[i]?=jr (jr (.own t))/\S i b
structure Stp(F H:Hp)(S:Ft)(ρ:xA)(F' H':Hp)(S':Ft)(ρ':xA):Prop where
 ff:Same F F'
 hh:∀b u,H b=jr u->¬ U ρ S b->H' b=jr u
 dm:∀b,H' b=kv->H b=kv
 fn:∀b,F b=kv->F' b≠kv->U ρ S b∨H b=kv
 uu:∀b,U ρ' S' b->U ρ S b∨H b=kv
 bo:∀(j:Nat) t,ρ'[j]?=jr (jr (.bor t))->t.isD=kd->ρ[j]?=jr (jr (.bor t))/\S' j=S j
structure Ste(F H:Hp)(S:Ft)(ρ:xA)(F' H':Hp)(S':Ft)(ρ':xA):Prop extends Stp F H S ρ F' H' S' ρ' where
 ow:∀(j:Nat) t,ρ'[j]?=jr (jr (.own t))->∃t0,ρ[j]?=jr (jr (.own t0))
section
variable{K:QC}{F H X m B E:Hp}{S S1 C:Ft}{ρ l A:xA}{σ:St}
section
variable{v:V}{t:T}{Z W:YB}{i:Nat}{s:Sl}{b p:ko}{vs:LN}{g:Hp}{c:Ft}{y:xA}{n:Bool}
theorem Stp.refl:Stp F H S ρ F H S ρ:=#[.refl _,λ_ _ h _=>h,λ_ h=>h,λb h z=>i3 h z,λ_ h=>.inl h,λ_ _ h _=>#[h,rfl]]
theorem Ste.refl:Ste F H S ρ F H S ρ:=#[Stp.refl,λ_ t h=>#[t,h]]
theorem Stp.trans(a:Stp F H S ρ X m S1 l)(b:Stp X m S1 l B E C A):Stp F H S ρ B E C A where
 ff:=a.ff.trans b.ff
 hh:=λx u h n=>b.hh x u (a.hh x u h n) λz=>by rcases a.uu x z with q|q;exact n q;rw[q]at h;cases h
 dm:=λx h=>a.dm x (b.dm x h)
 fn:=λx h z=>by
  by_cases q:X x=kv;rcases b.fn x q z with w|w
  ·exact a.uu x w
  exact .inr (a.dm x w);exact a.fn x h q
 uu:=λx h=>by rcases b.uu x h with w|w;exact a.uu x w;exact .inr (a.dm x w)
 bo:=λj t h n=>by let#[o,f]:=b.bo j t h n;let#[e,k]:=a.bo j t o n;exact#[e,f.trans k]
theorem Ste.trans(a:Ste F H S ρ X m S1 l)(b:Ste X m S1 l B E C A):Ste F H S ρ B E C A:=#[a.toStp.trans b.toStp,λj t h=>by let#[x,z]:=b.ow j t h;exact a.ow j x z]
theorem Stp.keep(s:Stp F H S ρ X m S1 l){st:Bool}(h:Tr K F H st v t Z)(n:∀b,Z b->¬ U ρ S b):Tr K X m st v t Z :=
 h.mono s.ff λb hb=>by
  let#[x,w]:=h.dom b hb;refine#[?_,?_];cases e:H b with|none=>exact i3 e x|some u=>exact s.hh b u e (n b hb)
  by_cases q:X b=kv
  ·exact q
  rcases s.fn b w q with z|z
  ·exact i3 z (n b hb)
  exact i3 z x
theorem Rl.dom(I:Rl K F H S ρ σ)(h:ρ[i]?=jr (jr s))(hb:S i b):H b≠kv/\F b=none:=by let#[v,_,r]:=I.sl i s h;exact r.dom b hb
theorem Rl.isD(I:Rl K F H S ρ σ)(h:ρ[i]?=jr (jr s))(x:s.t.isD=kf):¬ S i b:=by
 let#[v,_,r]:=I.sl i s h;generalize s.t=t at r x;generalize s.st=st at r;cases r with|d r n=>exact n b|_=>cases x
structure Held(F H:Hp)(S:Ft)(ρ:xA)(Z:YB):Prop where
 dom:∀b,Z b->H b≠kv/\F b=kv
 nw:∀(i:Nat) s,ρ[i]?=jr (jr s)->∀b,Z b->¬ S i b
theorem Held.nu(h:Held F H S ρ Z):∀b,Z b->¬ U ρ S b:=λb hb #[i,t,z,x]=>h.nw i _ z b hb x
theorem Held.step(h:Held F H S ρ Z)(s:Stp F H S ρ X m S1 l)(j:Rl K X m S1 l σ):Held X m S1 l Z where
 dom:=λb hb=>by
  let#[u,k]:=h.dom b hb;refine#[λz=>u (s.dm b z),?_];by_cases q:X b=kv;exact q;rcases s.fn b k q with z|z
  ·exact i3 z (h.nu b hb)
  exact i3 z u
 nw:=λi w e b hb z=>by
  cases w with
  |own t=>rcases s.uu b ⟨i,t,e,z⟩ with q|q;exact h.nu b hb q;exact(h.dom b hb).1 q
  |bor t =>
   cases x:t.isD with|true=>exact j.isD e x z|false=>let#[f,a]:=s.bo i t e x;rw[a]at z;exact h.nw i _ f b hb z
theorem Held.none:Held F H S ρ λ_=>False:=#[λ_ z=>z.elim,λ_ _ _ _ z=>z.elim]
theorem Held.or{Y:YB}(a:Held F H S ρ Z)(b:Held F H S ρ Y):Held F H S ρ λx=>Z x∨Y x:=#[λx h=>h.elim (a.dom x) (b.dom x),λi s e x h=>h.elim (a.nw i s e x) (b.nw i s e x)]
noncomputable def XJ(F H:Hp)(W:YB):Hp:=open Classical in λb=>if W b then H b else F b
theorem VJ(h:W b):XJ F H W b=H b:=i0 h
theorem rC(h:¬ W b):XJ F H W b=F b:=ii h
theorem rH(h:∀b,W b->F b=kv):Same F (XJ F H W):=λb u e=>by rw[rC λz=>by rw[h b z]at e;cases e];exact e
theorem Of(f:Same F H):Same (XJ F H W) H:=λb u e=>by by_cases hb:W b;rw[VJ hb]at e;exact e;rw[rC hb]at e;exact f b u e
theorem Rl.frz(I:Rl K F H S ρ σ)(h:Held F H S ρ W):Rl K (XJ F H W) H S ρ σ where
 fh:=Of I.fh
 len:=I.len
 sl:=λi s e=>by let#[v,u,x]:=I.sl i s e;refine#[v,u,x.mono (rH λb hb=>(h.dom b hb).2) λb hb=>#[rfl,?_]];rw[rC λz=>h.nw i s e b z hb];exact(x.dom b hb).2
 dj:=I.dj
theorem Stp.frz(s:Stp F H S ρ X m S1 l)(x:∀b,W b->X b=kv)(fr:∀b,W b->H b=kv∨U ρ S b):Stp F H S ρ (XJ X m W) m S1 l :=
 #[s.ff.trans (rH x),s.hh,s.dm,λb h z=>by by_cases q:W b;exact(fr b q).symm;rw[rC q]at z;exact s.fn b h z,s.uu,s.bo]
theorem Ste.frz(s:Ste F H S ρ X m S1 l)(h:∀b,W b->X b=kv)(fr:∀b,W b->H b=kv∨U ρ S b):Ste F H S ρ (XJ X m W) m S1 l:=#[s.toStp.frz h fr,s.ow]
theorem Stp.new(s:Stp F H S ρ X m S1 l){p:ko}(h:m p=kv)(o:HO):Stp F H S ρ X (FA m p o) S1 l :=
 #[s.ff,λb u e n=>AB h b u (s.hh b u e n),λb e=>by by_cases hb:b=p;rw[hb,ZA]at e;cases e;rw[uA hb]at e;exact s.dm b e,s.fn,s.uu,s.bo]
theorem Ste.new(s:Ste F H S ρ X m S1 l){p:ko}(h:m p=kv)(o:HO):Ste F H S ρ X (FA m p o) S1 l:=#[s.toStp.new h o,s.ow]
theorem Rl.same(I:Rl K F H S ρ σ)(h:Same H m):Rl K F m S ρ σ where
 fh:=I.fh.trans h
 len:=I.len
 sl:=λi s e=>by
  let#[v,z,x]:=I.sl i s e;refine#[v,z,x.mono (.refl _) λb hb=>#[?_,(x.dom b hb).2]];cases e:H b with|none=>exact i3 e (x.dom b hb).1|some u=>exact h b u e
 dj:=I.dj
theorem Rl.new(I:Rl K F H S ρ σ){p:ko}(h:H p=kv)(o:HO):Rl K F (FA H p o) S ρ σ:=I.same (AB h)
theorem Stp.newT(s:Stp F H S ρ X m S1 l)(h:m p=kv)(u:X p=kv)(o:HO):Stp F H S ρ (FA X p o) (FA m p o) S1 l :=
 let x:=s.new h o
 #[s.ff.trans (AB u),x.hh,x.dm,λb e z=>by by_cases hb:b=p;rw[hb];exact .inr (s.dm p h);rw[uA hb]at z;exact s.fn b e z,s.uu,s.bo]
theorem Ste.newT(s:Ste F H S ρ X m S1 l)(h:m p=kv)(x:X p=kv)(o:HO):Ste F H S ρ (FA X p o) (FA m p o) S1 l:=#[s.toStp.newT h x o,s.ow]
theorem Rl.newT(I:Rl K F H S ρ σ)(h:H p=kv)(o:HO):Rl K (FA F p o) (FA H p o) S ρ σ where
 fh:=λb u e=>by by_cases hb:b=p;rw[hb,ZA]at e ⊢;exact e;rw[uA hb]at e ⊢;exact I.fh b u e
 len:=I.len
 sl:=λi s e=>by let#[v,k,x]:=I.sl i s e;refine#[v,k,x.mono (AB (I.fh.free h)) λb hb=>?_];have w:b≠p:=λz=>(x.dom b hb).1 (by rw[z];exact h);rw[uA w,uA w];exact#[rfl,(x.dom b hb).2]
 dj:=I.dj
theorem v5(ρ:xA)(i:Nat):(lockA ρ)[i]?=ρ[i]?.map rG:=by unfold lockA;rw[Qc]
theorem VB{ρ:xA}(h:(lockA ρ)[i]?=jr (jr s)):∃x,ρ[i]?=jr (jr x)/\s=.bor x.t:=by
 rw[v5]at h;cases e:ρ[i]? with
 |none=>rw[e]at h;cases h|some o =>
  rw[e]at h;cases o with
  |none=>cases h|some x =>
   cases x with|own t=>injection h with h;injection h with h;subst h;exact#[_,rfl,rfl]|bor t=>injection h with h;injection h with h;subst h;exact#[_,rfl,rfl]
theorem uD(b:ko):¬ U (lockA ρ) S b:=λ#[i,t,h,_]=>by let#[x,_,e]:=VB h;cases e
theorem Rl.lockA(I:Rl K F H S ρ σ):Rl K F H S (lockA ρ) σ where
 fh:=I.fh
 len:=by unfold L3.lockA;rw[QA];exact I.len
 sl:=λi s e=>by let#[x,h,rfl]:=VB e;let#[v,u,z]:=I.sl i x h;exact#[v,u,z.weak]
 dj:=λi j t s _ h=>by let#[x,_,e]:=VB h;cases e
theorem Stp.unlockA(s:Stp F H S (L3.lockA ρ) X m S1 l):Stp F H S ρ X m S ρ :=
 #[s.ff,λb u e _=>s.hh b u e (uD b),s.dm,λb h z=>(s.fn b h z).elim (λq=>i3 q (uD b)) .inr,λ_ h=>.inl h,λ_ _ h _=>#[h,rfl]]
theorem Rl.unlockA(I:Rl K F H S ρ σ)(s:Stp F H S (L3.lockA ρ) X m S1 l)(f:Same X m):Rl K X m S ρ σ where
 fh:=f
 len:=I.len
 sl:=λi sl e=>by let#[v,x,h]:=I.sl i sl e;exact#[v,x,s.keep h λb _=>uD b]
 dj:=I.dj
structure VR(K:QC)(vs:LN)(g:Hp)(c:Ft)(y:xA)(F H:Hp)(S:Ft)(ρ:xA)(v:V)(t:T)(n:Bool)(Z:YB):Prop where
 tr:Tr K F H n v t Z
 fr:n=kf->∀b,Z b->g b=kv∨U y c b
 tm:n=kd->∀b,Z b->∃(i:Nat) (s:Sl),i∈vs/\ρ[i]?=jr (jr s)/\S i b
 nw:n=kf->∀(i:Nat) s,ρ[i]?=jr (jr s)->∀b,Z b->¬ S i b
theorem VR.d{vs:LN}{g:Hp}{c:Ft}{y:xA}{v:V}{x:D}(n:Bool)(r:Rep K F v x):VR K vs g c y F H S ρ v (.d x) n (λ_=>False) :=
 #[.d r λ_ z=>z,λ_ _ z=>z.elim,λ_ _ z=>z.elim,λ_ _ _ _ _ z=>z.elim]
theorem VR.held(h:VR K vs g c y F H S ρ v t kf Z):Held F H S ρ Z:=#[λb hb=>h.tr.dom b hb,h.nw rfl]
theorem VR.vars{ws:LN}(h:VR K vs g c y F H S ρ v t n Z)(k:∀i∈vs,i∈ws):VR K ws g c y F H S ρ v t n Z :=
 #[h.tr,h.fr,λe b hb=>let#[i,s,z,x]:=h.tm e b hb;#[i,s,k i z,x],h.nw]
theorem VR.from(s:Stp F H S ρ X m S1 l)(h:VR K vs m S1 l B E C A v t n Z):VR K vs H S ρ B E C A v t n Z :=
 #[h.tr,λe b hb=>by rcases h.fr e b hb with q|q;exact .inl (s.dm b q);exact(s.uu b q).symm,h.tm,h.nw]
theorem VR.frz(s:Ste F H S ρ X m S1 l)(I:Rl K X m S1 l σ)(h:VR K vs H S ρ X m S1 l v t n Z) :
  ∃B o,Ste F H S ρ B m S1 l/\Rl K B m S1 l σ/\Tr K B m kd v (nA t n) o/\(XH t n=kf->Rep K B v t.er)/\(∀b,o b->∃(i:Nat) (s:Sl),i∈vs/\l[i]?=jr (jr s)/\S1 i b) /\
   ∀st a t' k,Tr K X m st a t' k->(∀b,k b->∃(i:Nat) (s:Sl),l[i]?=jr (jr s)/\S1 i b)->Tr K B m st a t' k:=by
 cases n with
 |true =>
  have w:=h.held;have j:=rH (H:=m) λb hb=>(w.dom b hb).2;have f:=h.tr.kept j λb u hb e=>by rw[VJ hb];exact e
  refine#[XJ X m Z,λ_=>False,s.frz (λb hb=>(w.dom b hb).2) (h.fr rfl),I.frz w,.d f λ_ z=>z,λ_=>f,λb z=>z.elim,λst a t' k r G=>r.mono j λb hb=>#[rfl,?_]];let#[i,Y,L,J]:=G b hb;rw[rC λz=>w.nw i Y L b z J];exact(r.dom b hb).2
 |false =>
  refine#[X,Z,s,I,h.tr,?_,h.tm rfl,λ_ _ _ _ r _=>r];intro e;have q:=h.tr;cases t with
  |d x=>cases q with|d r n=>exact r
  |_=>cases e
end
end
noncomputable abbrev cB(K:QC)(vs:LN)(F H:Hp)(S:Ft)(ρ:xA)(σ:St)(Q:TK)(R:VK):Prop :=
 ∀v z x y h t n Z,Ste F H S ρ z x y h->Rl K z x y h σ->VR K vs H S ρ z x y h v t n Z->Q t n h->R v x
noncomputable abbrev kK(K:QC)(F H:Hp)(S:Ft)(ρ:xA)(σ:St)(Q:Bool->xA->Prop)(R:Bool->Hp->Prop):Prop :=
 ∀b z x y h,Ste F H S ρ z x y h->Rl K z x y h σ->Q b h->R b x
section
variable{K:QC}{ws:LN}{F H B A:Hp}{S S1:Ft}{ρ Y:xA}{σ:St}{v w:V}{a b:T}{J G:YB}{Q:TK}{R:VK}{E C:Bool}
section
variable{X o:Hp}{m:Ft}{u:xA}{p:ko}{vs:LV}{ds:List D}
theorem cB.from(k:cB K ws F H S ρ σ Q R)(s:Ste F H S ρ X o m u):cB K ws X o m u σ Q R:=λv f e y h t n Z x z r q=>k v f e y h t n Z (s.trans x) z (r.from s.toStp) q
theorem kK.from{Q:Bool->xA->Prop}{R:Bool->Hp->Prop}(k:kK K F H S ρ σ Q R)(s:Ste F H S ρ X o m u):kK K X o m u σ Q R:=λb f e y h x z q=>k b f e y h (s.trans x) z q
theorem cB.vars{us:LN}(k:cB K ws F H S ρ σ Q R)(h:∀i∈us,i∈ws):cB K us F H S ρ σ Q R:=λv e z y x t n Z s I r q=>k v e z y x t n Z s I (r.vars h) q
theorem cB.d(k:cB K ws F H S ρ σ Q R)(s:Ste F H S ρ B A S1 Y)(I:Rl K B A S1 Y σ){x:D}{n:Bool}(r:Rep K B v x)(q:Q (.d x) n Y):R v A:=k v B A S1 Y _ n _ s I (VR.d n r) q
theorem cB.list(k:cB K ws F H S ρ σ Q R)(s:Ste F H S ρ B A S1 Y)(I:Rl K B A S1 Y σ)(x:A p=kv){ts:LT}{W:YB}(r:Trs K B A kf vs ts W)
  (fr:∀b,W b->H b=kv∨U ρ S b) (y:Held B A S1 Y W) (q:Q (.lst ts) kf Y):R (.ref p) (FA A p (.lst vs)):=by
 have g:∀b,A b≠kv->b≠p:=λb h z=>h (by rw[z];exact x);refine k _ B _ S1 Y _ kf (λb=>b=p∨W b) (s.new x _) (I.new x _) #[.lst ZA (I.fh.free x) (r.mono (.refl _) λb hb=>#[?_,(y.dom b hb).2]) (λz=>(y.dom p z).1 x) (λb=>WF),λ_ b hb=>?_,λz=>(by cases z),λ_ i f e b hb z=>?_] q;rw[uA (g b (y.dom b hb).1)];rcases hb with rfl|hb
 ·exact .inl (s.dm _ x)
 exact fr b hb;rcases hb with rfl|hb
 ·exact(I.dom e z).1 x
 exact y.nw i f e b hb z
theorem cB.listD(k:cB K ws F H S ρ σ Q R)(s:Ste F H S ρ B A S1 Y)(I:Rl K B A S1 Y σ)(h:A p=kv)(r:Reps K B vs ds)(q:Q (.lst (ds.map T.d)) kf Y):R (.ref p) (FA A p (.lst vs)) :=
 k.list s I h (Trs.of_reps r) (λb z=>z.elim) .none q
theorem cB.tupD(k:cB K ws F H S ρ σ Q R)(s:Ste F H S ρ B A S1 Y)(I:Rl K B A S1 Y σ)(h:A p=kv){n:Bool}(r:Reps K B vs ds)(q:Q (.d (.tuple ds)) n Y):R (.ref p) (FA A p (.tup vs)) :=
 cB.d k (s.newT h (I.fh.free h) _) (I.newT h _) (.tup (LD.of ZA) (r.mono (AB (I.fh.free h)))) q
theorem cB.tup(k:cB K ws F H S ρ σ Q R)(s:Ste F H S ρ B A S1 Y)(I:Rl K B A S1 Y σ){p:ko}(x:A p=kv){vs:LV}{ts:LT}{W:YB}(r:Trs K B A kf vs ts W)
  (fr:∀b,W b->H b=kv∨U ρ S b) (y:Held B A S1 Y W) (q:Q (KC ts) kf Y):R (.ref p) (FA A p (.tup vs)):=by
 unfold KC at q;cases e:MF ts with
 |some ds=>rw[e]at q;exact k.tupD s I x (r.un e).1 q|none =>
  rw[e]at q;have g:∀b,A b≠kv->b≠p:=λb h z=>h (by rw[z];exact x);refine k _ B _ S1 Y _ kf (λb=>b=p∨W b) (s.new x _) (I.new x _) #[.tup ZA (I.fh.free x) (r.mono (.refl _) λb hb=>#[?_,(y.dom b hb).2]) (λz=>(y.dom p z).1 x) (λb=>WF),λ_ b hb=>?_,λz=>(by cases z),λ_ i f e b hb z=>?_] q;rw[uA (g b (y.dom b hb).1)];rcases hb with rfl|hb
  ·exact .inl (s.dm _ x)
  exact fr b hb;rcases hb with rfl|hb
  ·exact(I.dom e z).1 x
  exact y.nw i f e b hb z
theorem Bp{op:hZ}(s:Ste F H S ρ B A S1 Y)(I:Rl K B A S1 Y σ)(L:Tr K B A E v a J)(W:Tr K B A C w b G)(h:binT op a.vw b.vw λz n=>Q z n Y)(k:cB K ws F H S ρ σ Q R):ig K op v w A R:=by
 have Z:∀{i j:Int},a.vw=.sc (.int i)->b.vw=.sc (.int j)->v=.int i/\w=.int j:=λf e=>#[L.int f,W.int e]
 cases op with
 |Add =>
  rcases h with⟨i,j,f,e,h⟩| ⟨x,y,f,e,h⟩| ⟨O,M,ds,es,f,e,e1,e2,hl,q⟩| ⟨O,M,ds,es,f,e,e1,e2,hn,hn2,hl,q⟩
  let#[rfl,rfl]:=Z f e;exact k.d s I (.int _) h;obtain rfl:=L.str f;obtain rfl:=W.str e;exact#[h.1,k.d s I (.str _) h.2];let#[p,P,_,rfl,hp,rp,_]:=L.ls I.fh f;let#[p2,N,_,rfl,hq,rq,_]:=W.ls I.fh e;have r:=(rp.un e1).1;have g:=(rq.un e2).1;exact .inl #[P,N,hp,hq,by rw[r.9,g.9];exact hl,λl hl=>k.listD s I hl (r.append g) q];let#[p,P,_,rfl,hp,rp,_]:=L.tp I.fh f;let#[p2,N,_,rfl,hq,rq,_]:=W.tp I.fh e;have r:=(rp.un e1).1;have g:=(rq.un e2).1;refine .inr #[p,p2,P,N,rfl,rfl,hp,hq,?_,by rw[r.9,g.9];exact hl,λz=>?_,λ_ l hl=>?_];intro z;subst z;cases r;exact hn rfl;subst z;cases g;exact i3 rfl hn2;exact k.tupD s I hl (r.append g) q
 |Sub=>let#[i,j,f,e,h]:=h;let#[rfl,rfl]:=Z f e;exact k.d s I (.int _) h|Mult=>let#[i,j,f,e,h]:=h;let#[rfl,rfl]:=Z f e;exact#[h.1,k.d s I (.int _) h.2]|FloorDiv=>let#[i,j,f,e,h]:=h;let#[rfl,rfl]:=Z f e;exact#[h.1,k.d s I (.int _) h.2]|Mod=>let#[i,j,f,e,h]:=h;let#[rfl,rfl]:=Z f e;exact#[h.1,k.d s I (.int _) h.2]|_=>exact h.elim
theorem xi{x y:D}{r:Bool->Prop}(neg:Bool)(e:Rep K A v x)(z:Rep K A w y)(h:ux x y λk=>r (if neg then !k else k))(k:∀c,r c->R (.bl c) A):rEq K neg v w A R:=by
 have n:RF x/\RF y/\r (if neg then !PyData.eqv x y else Qn x y)->(∃l f,Rep K A v l/\Rep K A w f/\RF l/\RF f/\R (.bl (if neg then !PyData.eqv l f else Qn l f)) A):=λ#[Z,s,q] =>
  #[x,y,e,z,Z,s,k _ q]
 unfold ux at h;split at h;cases e;cases z;exact k _ h;cases e;cases z;exact k _ h;cases e;cases z;exact k _ h;have g:=n h;rename_i n1 n2 n3;cases e with
 |int i =>
  cases z with|int j=>exact i3 rfl (n1 i j rfl)|_=>exact g
 |str i =>
  cases z with|str j=>exact i3 rfl (n2 i j rfl)|_=>exact g
 |bl i =>
  cases z with|bl j=>exact i3 rfl (n3 i j rfl)|_=>exact g
 |_=>exact g
theorem La{F:Hp}{v w:V}{a b:D}(x:Rep K F v a)(h:Rep K F w b)(z:xB a=kf)(y:xB b=kf):Rf v w=Qn a b:=by cases x<;>cases h<;>first|exact i3 (show kd=kf from z) QG|exact i3 (show kd=kf from y) QG | (simp only[Qn];rfl) | (simp only[Qn])
theorem sY{F:Hp}{v:V}{a:D}(h:Rep K F v a)(x:xB a=kf):JG v=true:=by cases h<;>first|rfl|exact i3 (show kd=kf from x) QG
theorem VV{F:Hp}(h:Reps K F vs ds)(f:ds.all xB=kf):vs.all JG=kf :=
 Reps.ind (R:=λvs ds=>ds.all xB=kf->vs.all JG=kf) (λ_=>rfl) (λh x f=>by rw[qt,Qb]at f ⊢;exact#[sY h f.1,x f.2]) h f
theorem vO{F:Hp}{v:V}{a:D}(x:Rep K F v a)(z:xB a=kf):∀{vs:LV}{ds:List D},Reps K F vs ds->ds.all xB=kf->inV v vs=ds.any λy=>Qn y a
 |_,_,.nil,_=>rfl|_,_,.cons h t,f=>by rw[qt,Qb]at f;have e:=vO x z t f.2;unfold inV at e ⊢;rw[WA,WA,La h x f.1 z,e]
end
mutual
theorem BZ{F:Hp}:∀{k:NK}{v:V},Rep K F v (tD k)->uq K F k v
 | .s x,v,h=>by have h:Rep K F v (.str x):=h;cases h;rfl|.t ks,v,h=>by
  have h:Rep K F v (.tuple (tDs ks)):=h;cases h with|tup z y=>exact#[_,_,rfl,z,reps_key y]
theorem reps_key{F:Hp}:∀{ks:List NK}{vs:LV},Reps K F vs (tDs ks)->KyVs K F ks vs
 |[],vs,h=>by have h:Reps K F vs []:=h;cases h;rfl|k::ks,vs,h=>by
  have h:Reps K F vs (tD k::tDs ks):=h;cases h with|cons h t=>exact#[_,_,rfl,BZ h,reps_key t]
end
section
variable{k x y:D}{o:HO}{ks ds:List D}{vs xs:LV}{X:Bool->Prop}{U:dy}{W:Bool->Hp->Prop}{Y:YB}{ts:LT}
theorem rS{F:Hp}{v:V}(hk:YD kf k)(r:Rep K F v k):∃q p,k=tD q/\v=.ref p/\BP K F p q:=by let#[q,rfl,h]:=hk;have r:=BZ r;let#[p,_,rfl,_]:=id r;exact#[_,p,rfl,rfl,r,h]
theorem zH(q:NK):∀(kvs:List KE),JH kvs q=(dA (kvs.map λp=>tD p.1) (tD q)).bind λn=>(kvs.map (·.2.2))[n]?
 |[]=>rfl|p::r=>by rw[QU,QU];unfold dA;by_cases e:p.1=q;rw[AT e,i0 (by rw[e])];rfl;rw[ET e,ii λz=>e (yX z),zH q r];cases dA (r.map λp=>tD p.1) (tD q)<;>rfl
theorem cK(q:Key):∀(kvs:List (Key×V)),BM kvs q=(dA (kvs.map λp=>kD p.1) (kD q)).bind λn=>(kvs.map (·.2))[n]?
 |[]=>rfl|p::r=>by rw[QU,QU];unfold dA;by_cases e:p.1=q;rw[XM e,i0 (by rw[e])];rfl;rw[UM e,ii λz=>e (E9 z),cK q r];cases dA (r.map λp=>kD p.1) (kD q)<;>rfl
theorem DI.get{a:ko}{b:Bool}(u:H1 a=jr o)(q:DI K H1 b o ks vs)(e:Rep K H1 w k)(hk:YD b k):JT K H1 a w ((dA ks k).bind λn=>vs[n]?):=by
 cases b with
 |true=>let#[v,h,rfl,rfl,rfl,g,_]:=q;let#[q,p,rfl,rfl,f]:=rS hk e;exact#[v,h,q,u,g,f,(zH q h).symm]|false =>
  let#[z,rfl]:=hk;cases e;rcases q with⟨h,_,rfl,rfl,rfl,_⟩| ⟨v,rfl,rfl,rfl⟩
  exact .inl #[h,u,(cK (.inr z) h).symm];exact .inr #[v,u,rfl]
theorem XV{b:Bool}(q:DI K H1 b o ks vs):((dA ks k).bind λn=>vs[n]?).isSome=(dA ks k).isSome:=by
 cases e:dA ks k with
 |none=>rfl|some n =>
  have z:=(Qh.mp (aC e)).1;have h:n<vs.length:=by rw[<- q.len];exact z
  simp[h]
theorem ZS{b neg:Bool}{a:ko}(u:H1 a=jr o)(q:DI K H1 b o ks vs)(z:Rep K H1 v x)(hk:YD b x)(h:R (.bl (if neg then !(dA ks x).isSome else(dA ks x).isSome)) H1):tU K neg v (.ref a) H1 R :=
 .inr (.inr #[_,q.get u z hk,by rw[XV q];exact h])
theorem So{b e:Bool}(h:DI K H1 b o [] vs):DI K H1 e o [] []:=by
 obtain⟨u,rfl⟩:∃u,o=.dT u []:=by
  cases b with
  |true =>
   let#[u,v,a,w,_]:=h;cases v with|nil=>exact#[u,a]|cons=>cases w
  |false =>
   rcases h with⟨v,f,_,w,_⟩| ⟨u,a,_⟩
   cases v with|nil=>exact i3 rfl f|cons=>cases w
   exact#[u,a]
 cases e with
 |true=>exact#[u,[],rfl,rfl,rfl,λ_ z=>(nomatch z),Qx]
 |false=>exact .inr #[u,rfl,rfl,rfl]
theorem Ph(neg:Bool)(z:Rep K H1 v x)(e:Rep K H1 w y)(h:Ew x y λk=>X (if neg then !k else k))(k:∀c,X c->R (.bl c) H1):tU K neg v w H1 R:=by
 unfold Ew at h;split at h;cases z;cases e;exact k _ h;rename_i ds;have u:=e;cases e with
 |lst n f =>
  rcases h.1 with⟨g,fs⟩| ⟨m,l⟩
  refine .inl #[_,_,rfl,.inl n,sY z g,VV f fs,?_];rw[vO z g f fs];exact k _ h.2;exact .inr (.inl #[_,ds,z,.inl u,m,l,k _ h.2])
 rename_i ds;have u:=e;cases e with
 |tup n f =>
  rcases h.1 with⟨g,fs⟩| ⟨m,l⟩
  refine .inl #[_,_,rfl,.inr n,sY z g,VV f fs,?_];rw[vO z g f fs];exact k _ h.2;exact .inr (.inl #[_,ds,z,.inr u,m,l,k _ h.2])
 let#[b,i,hk,q]:=h;cases e with
 |@dct p a o ks vs ds h j r =>
  have hl:ks.9=ds.length:=by rw[j.len,Reps.length r]
  rw[WK (wx hl)]at q;rcases i with i|i;cases N0 j i;exact ZS h j z hk (k _ q);cases ks with
  |nil=>exact ZS h (So j) z hk (k _ q)|cons x r =>
   cases ds with|nil=>cases hl|cons y s=>cases i
 exact h.elim
theorem LR{g:Int->Int->Bool}(u:Rep K H1 v x)(z:Rep K H1 w y)(h:z4 g x y X)(k:∀c,X c->R (.bl c) H1):R3 g v w H1 R:=by unfold z4 at h;split at h;cases u;cases z;exact k _ h;exact h.elim
theorem Rep.non_iff(h:Rep K H1 v x):decide (v=.non)=ca x:=by cases h<;>rfl
theorem VY(u:Rep K H1 v x)(z:Rep K H1 w y)(h:M5 U x y X)(k:∀c,X c->R (.bl c) H1):vb K U v w H1 R:=by
 cases U with|Eq=>exact xi kd u z h k|NotEq=>exact xi kf u z h k|Lt=>exact LR u z h k|LtE=>exact LR u z h k|Gt=>exact LR u z h k|GtE=>exact LR u z h k|In=>exact Ph kd u z h k|NotIn=>exact Ph kf u z h k|Is=>have a:t5 x y X:=h;unfold t5 at a;split at a;cases z;have e:=u.non_iff;show R (.bl (decide (v=.non))) H1;rw[e];exact k _ a;cases z;cases u;exact#[_,rfl,k _ a];exact a.elim|IsNot=>have a:t5 x y λk=>X (!k):=h;unfold t5 at a;split at a;cases z;have e:=u.non_iff;show R (.bl (!decide (v=.non))) H1;rw[e];exact k _ a;cases z;cases u;exact#[_,rfl,k _ a];exact a.elim
theorem yg(f:Same F1 H1)(z:Rep K H1 v x)(u:Tr K F1 H1 sb w b Zb)(h:zg U x b X)(k:∀c,X c->R (.bl c) H1):vb K U v w H1 R:=by
 cases b with
 |d y=>exact VY z (u.rep f) h k|lst ts=>exact VY z (u.rep f) h k|tup ts=>exact VY z (u.rep f) h k|dct b ks ts =>
  let#[hk,h]:=h;cases u with
  |dct a e _ _ _ _ =>
   rcases h with⟨rfl,q⟩| ⟨rfl,q⟩
   exact ZS (neg:=kd) a (e.mono f) z hk (k _ q);exact ZS (neg:=kf) a (e.mono f) z hk (k _ q)
theorem ZJ(r:Reps K F xs ds):(!ds.isEmpty)=!xs.isEmpty:=by cases r<;>rfl
theorem oZ(z:Rep K H1 v x)(h:HI x X)(k:∀c,X c->W c H1):YH K v H1 W:=by
 unfold HI at h;split at h;cases z;exact k _ h;cases z;exact k _ h;cases z;exact k _ h;cases z;exact#[h.1,k _ h.2];cases z with|lst w u=>rw[ZJ u]at h;exact#[_,.inl #[_,w,rfl],k _ h]
 cases z with|tup w u=>rw[ZJ u]at h;exact#[_,.inr (.inl #[_,w,rfl]),k _ h]
 exact h.elim
theorem Db(z:Rep K H1 v x)(h:Rp x X)(k:∀c,X c->W c H1):Fb v H1 W:=by unfold Rp at h;split at h;cases z;exact k _ h;exact h.elim
theorem Yo(s:Ste F H S ρ F1 H1 S1 ρ1)(I:Rl K F1 H1 S1 ρ1 σ)(n:Tr K F1 H1 sa v a Za)(C:∀b,Za b->∃(i:Nat) (s:Sl),i∈ws/\ρ1[i]?=jr (jr s)/\S1 i b)(m:Tr K F1 H1 sb w b Zb)(h:oP a.vw b.vw λz=>Q z kd ρ1)(k:cB K ws F H S ρ σ Q R):T3 K v w H1 R:=by
 rcases h with⟨z,i,c,j,g,f,e,q⟩| ⟨ts,i,d,j,g,f,q⟩| ⟨ts,i,d,j,g,f,q⟩
 obtain rfl:=n.str j;obtain rfl:=m.int g;exact#[f,c,e,k.d s I (.str _) q];let#[p,xs,E,rfl,B,l,A]:=n.ls I.fh j;obtain rfl:=m.int g;let#[x,Z,e,r,u]:=l.at f;exact#[xs,x,.inl B,e,k _ F1 H1 S1 ρ1 _ kd Z s I #[r,λz=>(by cases z),λ_ b hb=>C b (A b (u b hb)),λz=>(by cases z)] q];let#[p,xs,E,rfl,B,l,A]:=n.tp I.fh j;obtain rfl:=m.int g;let#[x,Z,e,r,u]:=l.at f;exact#[xs,x,.inr B,e,k _ F1 H1 S1 ρ1 _ kd Z s I #[r,λz=>(by cases z),λ_ b hb=>C b (A b (u b hb)),λz=>(by cases z)] q]
theorem Eo(s:Ste F H S ρ F1 H1 S1 ρ1)(I:Rl K F1 H1 S1 ρ1 σ)(l:Tr K F1 H1 sa v a Za)(e:∀b,Za b->∃(i:Nat) (s:Sl),i∈ws/\ρ1[i]?=jr (jr s)/\S1 i b)(j:Rep K H1 w y)(h:BV a.vw y λz=>Q z kd ρ1)(k:cB K ws F H S ρ σ Q R):T3 K v w H1 R:=by
 let#[b,ks,ts,n,d,G,hk,C,A,q]:=h;let#[p,o,vs,L,rfl,B,J,f,m,_]:=l.dc I.fh G;let#[x,Z,E,r,u]:=f.get A;have g:=(J.mono I.fh).get B j hk;rw[C]at g;have g:JT K H1 p w (vs[n]?):=g;rw[E]at g;have fin:=k _ F1 H1 S1 ρ1 _ kd Z s I #[r,λz=>(by cases z),λ_ b hb=>e b (m b (u b hb)),λz=>(by cases z)] q;cases w with|str z=>exact#[x,g,fin]|ref c=>exact#[x,g,fin]|_=>exact g.elim
theorem Reps.cut(r:Reps K F xs ds)(h z:Option Int):Reps K F (G5 xs h z) (FJ ds h z):=by unfold G5 FJ;rw[r.9];exact(r.drop _).take _
theorem Mk{b f:Option Int}(s:Ste F H S ρ F1 H1 S1 ρ1)(I:Rl K F1 H1 S1 ρ1 σ)(w:Tr K F1 H1 sa v a Za)(h:oK a.vw b f λz n=>Q z n ρ1)(k:cB K ws F H S ρ σ Q R):Fy K v b f H1 R:=by
 rcases h with⟨z,u,h⟩| ⟨ts,ds,u,e,q⟩
 obtain rfl:=w.str u;exact#[h.1,k.d s I (.str _) h.2];let#[p,xs,_,rfl,i,g,_]:=w.ls I.fh u;exact#[p,xs,rfl,i,λl hl=>k.listD s I hl ((g.un e).1.cut _ _) q]
theorem ke{P:Option Int->Prop}{z:Option Int->Hp->Prop}(u:Rep K H1 v x)(h:lG x P)(k:∀o,P o->z o H1):iN v H1 z:=by unfold lG at h;split at h;cases u;exact k _ h;exact h.elim
inductive Tn(K:QC)(F H:Hp)(Y:YB):LV->LT->Prop where
 |nil:Tn K F H Y [] []
 |cons {v:V}{t:T}{vs:LV}{ts:LT}{Z:YB}:Tr K F H kd v t Z->(∀b,Z b->Y b)->Tn K F H Y vs ts->Tn K F H Y (v::vs) (t::ts)
theorem KM(ts:LT):∀{xs:List (T×Bool)},pP xs=ts->TB xs=ts.map T.vw
 |[],h=>by subst h;rfl|p::r,h=>by subst h;simp only[TB,pP,QU,KM _ rfl]
theorem Tn.one{x:Vw}(h:Tn K F H Y vs ts)(e:ts.map T.vw=[x]):∃v t Z,vs=[v]/\ts=[t]/\t.vw=x/\Tr K F H kd v t Z/\∀b,Z b->Y b:=by
 cases h with
 |nil=>cases e|cons r z t =>
  simp only[QU,Wc]at e;cases t with|nil=>exact#[_,_,_,rfl,rfl,e.1,r,z]|cons _ _ _=>simp at e
theorem Tn.two{x y:Vw}(h:Tn K F H Y vs ts)(e:ts.map T.vw=[x,y]):∃v w t u Z a,vs=[v,w]/\ts=[t,u]/\t.vw=x/\u.vw=y/\Tr K F H kd v t Z/\Tr K F H kd w u a/\(∀b,Z b->Y b)/\(∀b,a b->Y b):=by
 cases h with|nil=>cases e|cons r z t=>simp only[QU,Wc]at e;let#[v,u,a,rfl,rfl,i,g,f]:=t.one e.2;exact#[_,_,_,_,_,_,rfl,rfl,e.1,i,r,g,z,f]
theorem pK:∀{xs:LV}{z:LS},Reps K F xs (z.map j0)->xs=z.map V.str
 |_,[],.nil=>rfl|_,y::z,.cons h t=>by cases h;rw[QU,pK t]
theorem HP:∀(h:LS),Reps K F (h.map V.str) (h.map j0)
 |[]=>.nil|y::h=>.cons (.str y) (HP h)
theorem tV:∀{xs:LV}{z:LJ},Reps K F xs (z.map j1)->xs=z.map V.int
 |_,[],.nil=>rfl|_,y::z,.cons h t=>by cases h;rw[QU,tV t]
theorem aQ:∀(h:LJ),Reps K F (h.map V.int) (h.map j1)
 |[]=>.nil|y::h=>.cons (.int y) (aQ h)
theorem N3{α:Type}{g:α->D}{u:LV}(s:xs.Perm u):∀{l:List α},Reps K F xs (l.map g)->∃z:List α,z.Perm l/\Reps K F u (z.map g):=by
 induction s with
 |nil=>intro l r;exact#[l,QBf _,r]|cons x _ m =>
  intro l r;cases l with
  |nil=>cases r|cons a l=>cases r with|cons h t=>let#[z,p,v]:=m t;exact#[a::z,p.cons _,.cons h v]
 |swap x y B =>
  intro l r;cases l with
  |nil=>cases r|cons a l=>cases l with
   |nil=>cases r with|cons h t=>cases t
   |cons b l=>cases r with
    |cons h t=>cases t with|cons Z t=>exact#[b::a::l,QCh.swap _ _ _,.cons Z (.cons h t)]
 |trans _ _ q n=>intro l r;let#[A,i,e]:=q r;let#[j,f,w]:=n e;exact#[j,f.trans i,w]
theorem mX{ls:List (LS)}(h:Reps K F xs (ls.map jC)):∀x∈xs,∃a,∃u:LS,x=.ref a/\YC K F a (u.map V.str):=by
 induction ls generalizing xs with
 |nil=>cases h;exact λ_ z=>nomatch z
 |cons l ls v =>
  cases h with
  |cons r t =>
   intro x h;rcases QK.mp h with e|h;subst e;cases r with|lst q r=>exact#[_,l,rfl,by rw[<- pK r];exact q]
   exact v t x h
theorem Op{P:Bi}(s:Ste F H S ρ F1 H1 S1 ρ1)(I:Rl K F1 H1 S1 ρ1 σ)(g:Tn K F1 H1 Y vs ts)(h:E5 P (ts.map T.vw) λz n=>Q z n ρ1)(k:cB K ws F H S ρ σ Q R):Hv K P vs H1 R:=by
 cases P with
 |all=>let#[A,bs,e,hb,q]:=h;let#[v,t,Z,rfl,rfl,e,r,_]:=g.one e;let#[p,xs,_,rfl,b,f,_]:=r.ls I.fh e;obtain rfl:=(f.un hb).1.bools;exact#[bs,b,k.d s I (.bl _) q]|len =>
  rcases h with⟨z,e,h⟩| ⟨A,e,h⟩| ⟨A,e,h⟩| ⟨ks,A,e,h⟩
  let#[v,t,Z,rfl,rfl,e,r,_]:=g.one e;obtain rfl:=r.str e;exact .inl #[_,rfl,h.1,k.d s I (.int _) h.2];let#[v,t,Z,rfl,rfl,e,r,_]:=g.one e;let#[p,xs,_,rfl,b,f,_]:=r.ls I.fh e;exact .inr (.inl #[_,xs,rfl,.inl b,by rw[f.9];exact k.d s I (.int _) h]);let#[v,t,Z,rfl,rfl,e,r,_]:=g.one e;let#[p,xs,_,rfl,b,f,_]:=r.tp I.fh e;exact .inr (.inl #[_,xs,rfl,.inr b,by rw[f.9];exact k.d s I (.int _) h]);let#[v,t,Z,rfl,rfl,e,r,_]:=g.one e;let#[a,o,vs,_,rfl,ha,dk,_]:=r.dc I.fh e;refine .inr (.inr #[a,ks.9,rfl,?_,k.d s I (.int _) h]);rcases dk with⟨O,_,rfl,rfl,_⟩| ⟨ep,rfl,rfl,_⟩
  exact .inl #[O,ha,QA _];exact .inr #[ep,ha,rfl]
 |any=>let#[A,bs,e,hb,q]:=h;let#[v,t,Z,rfl,rfl,e,r,_]:=g.one e;let#[p,xs,_,rfl,b,f,_]:=r.ls I.fh e;obtain rfl:=(f.un hb).1.bools;exact#[bs,b,k.d s I (.bl _) q]|min=>let#[i,j,e,q]:=h;let#[v,w,t,u,Z1,Z2,rfl,rfl,e1,e2,L,r2,_]:=g.two e;obtain rfl:=L.int e1;obtain rfl:=r2.int e2;exact#[i,j,rfl,k.d s I (.int _) q]|sorted =>
  rcases h with⟨A,G,e,hb,m,q⟩| ⟨A,ls,e,hb,m,q⟩| ⟨A,ns,e,hb,m,q⟩
  let#[v,t,Z,rfl,rfl,e,r,_]:=g.one e;let#[p,xs,_,rfl,b,f,_]:=r.ls I.fh e;obtain rfl:=pK (f.un hb).1;exact#[_,rfl,.inl #[G,b,m,λl B hl C M=>k.listD s I hl (HP B) (q B C M)]];let#[v,t,Z,rfl,rfl,e,r,_]:=g.one e;let#[p,xs,_,rfl,b,f,_]:=r.ls I.fh e;have J:=(f.un hb).1;refine#[_,rfl,.inr (.inl #[xs,b,by rw[Reps.length J,QA];exact m,λx hx=>?_,λl ys hl b=>?_])];let#[a,G,e,sq]:=mX J x hx;exact#[a,G,e,I.fh.seq sq];let#[N,C,L]:=N3 b.symm J;exact k.listD s I hl L (q N C);let#[v,t,Z,rfl,rfl,e,r,_]:=g.one e;let#[p,xs,_,rfl,b,f,_]:=r.ls I.fh e;obtain rfl:=tV (f.un hb).1;exact#[_,rfl,.inr (.inr #[ns,b,m,λl E hl C M=>k.listD s I hl (aQ E) (q E C M)])]
 |tuple=>let#[A,ds,e,hb,q]:=h;let#[v,t,Z,rfl,rfl,e,r,_]:=g.one e;let#[p,xs,_,rfl,b,f,_]:=r.ls I.fh e;exact#[_,xs,rfl,b,λl hl=>k.tupD s I hl (f.un hb).1 q]
theorem Zn{m:Mt}(s:Ste F H S ρ F1 H1 S1 ρ1)(I:Rl K F1 H1 S1 ρ1 σ)(w:Tr K F1 H1 sa v a Za)(b:Tn K F1 H1 Y vs ts)(h:Sw m a.vw (ts.map T.vw) λz n=>Q z n ρ1)(k:cB K ws F H S ρ σ Q R):mf K m v vs H1 R:=by
 cases m with|index=>let#[z,y,i,u,g,e,f,q]:=h;obtain rfl:=w.str g;let#[v,t,Z,rfl,rfl,e,r,_]:=b.one e;obtain rfl:=r.str e;exact#[z,y,i,u,rfl,rfl,f,k.d s I (.int _) q]|_=>exact h.elim
theorem Bu{x:Vw}(h:x.isS=kf):∃z,x=.sc (.str z):=by
 cases x with
 |sc d=>cases d with|str z=>exact#[z,rfl]|_=>exact(QG h).elim
 |_=>exact(QG h).elim
theorem du{m:Mt}(u:Tr K F1 H1 sa v a Za)(h:Z9 m a.vw=kf):f6 K m.ty v H1:=by
 have h:=vA h;let#[z,w]:=Bu h.1;obtain rfl:=u.str w;cases m with|index=>rfl|_=>exact(QG h.2).elim
end
end
inductive AV(K:QC)(F H:Hp):List Md->LV->List (T×Bool)->(ko->Prop)->(ko->Prop)->Prop where
 |nil {md:List Md}{W Y:YB}:(∀b,¬ W b)->AV K F H md [] [] W Y
 |chg {md:List Md}{v:V}{vs:LV}{x:T}{xs:List (T×Bool)}{W Y:YB}:(md.headD .fro).isMut=kf->AV K F H md.tail vs xs W Y->AV K F H md (v::vs) ((x,kf)::xs) W Y
 |new {md:List Md}{v:V}{vs:LV}{x:T}{xs:List (T×Bool)}{Z W W' Y:YB}:(md.headD .fro).isMut=kd->Tr K F H kf v x Z->AV K F H md.tail vs xs W' Y->(∀b,Z b->¬ W' b)->(∀b,W b↔Z b∨W' b) ->
   AV K F H md (v::vs) ((x,kf)::xs) W Y
 |tmp {md:List Md}{v:V}{vs:LV}{x:T}{xs:List (T×Bool)}{Z W Y:YB}:(md.headD .fro).isMut=kd->Tr K F H kd v x Z->(∀b,Z b->Y b)->AV K F H md.tail vs xs W Y ->
   AV K F H md (v::vs) ((x,kd)::xs) W Y
section
variable{K:QC}{F H o l:Hp}{S S1:Ft}{ρ g:xA}{σ:St}
section
variable{Y W:YB}{md:List Md}{vs:LV}{xs:List (T×Bool)}{ws:LN}{c:Hp}{w:Ft}{y:xA}
theorem AV.sub{u:YB}(h:AV K F H md vs xs W Y)(k:∀b,Y b->u b):AV K F H md vs xs W u:=by
 induction h with|nil h=>exact .nil h|chg h t x=>exact .chg h (x k)|new h r t n q x=>exact .new h r (x k) n q|tmp h r z t x=>exact .tmp h r (λb hb=>k b (z b hb)) (x k)
theorem AV.dom(h:AV K F H md vs xs W Y):∀b,W b->H b≠kv/\F b=none:=by
 induction h with|nil h=>exact λb hb=>i3 hb (h b)|chg h t x=>exact x|new h r t n q x=>exact λb hb=>((q b).mp hb).elim (r.dom b) (x b)|tmp h r z t x=>exact x
theorem AV.length(h:AV K F H md vs xs W Y):vs.9=xs.length:=by
 induction h with|nil h=>rfl|chg h t x=>simp[x]|new h r t n q x=>simp[x]|tmp h r z t x=>simp[x]
theorem AV.trs(h:AV K F H md vs xs W Y):(∀(i:Nat),(md.getD i .fro).isMut=kd)->AE xs=kf->Trs K F H kf vs (TF xs) W:=by
 induction h with
 |nil h=>exact λ_ _=>.nil h|@chg md _ _ _ _ _ _ h t u =>
  intro m;have:=m 0;cases md with|nil=>cases h|cons a r=>exact i3 h (by simpa using this)
 |@new md v vs x xs Z W k Y h r t n q u =>
  intro m e;simp only[AE,Qb]at e;exact .cons r (u (λi=>by cases md with|nil=>exact m i|cons a md=>exact m (i+1)) e.2) n q
 |@tmp md v vs x xs Z W Y h r z t u =>
  intro m e;simp only[AE,Qb]at e;refine .cons (S1:=λ_=>False) ?_ (u (λi=>by cases md with|nil=>exact m i|cons a md=>exact m (i+1)) e.2) (λ_ z=>z.elim) λb=>by simp
  cases x with
  |d x=>cases r with|d r n=>exact .d r λ_ z=>z
  |_=>exact i3 e.1 (by simp[XH,T.isD])
theorem on(i:Nat):((([]:List Md).getD i .fro).isMut)=false:=rfl
theorem AV.tn(h:AV K F H md vs xs W Y)(e:Same F o)(k:∀b,W b->o b=H b)(f:∀b,Y b->F b=kv->o b=kv)(i:md=[]):Tn K o H Y vs (pP xs):=by
 induction h with|nil h=>exact .nil|chg h t a=>subst i;cases h|@new md v vs x xs Z W m Y h r t n q a=>subst i;refine .cons (Z:=λ_=>False) ?_ (λb z=>z.elim) (a (λb hb=>k b ((q b).mpr (.inr hb))) f rfl);exact .d (r.kept e λb u hb j=>by rw[k b ((q b).mpr (.inl hb))];exact j) λ_ z=>z|@tmp md v vs x xs Z W Y h r z t a=>subst i;exact .cons (r.mono e λb hb=>#[rfl,f b (z b hb) (r.dom b hb).2]) z (a k f rfl)
structure AR(K:QC)(ws:LN)(md:List Md)(c:Hp)(w:Ft)(y:xA)(F H:Hp)(S:Ft)(ρ:xA)(vs:LV)(xs:List (T×Bool))(W Y:YB):Prop where
 av:AV K F H md vs xs W Y
 fr:∀b,W b->c b=kv∨U y w b
 tm:∀b,Y b->∃(i:Nat) (s:Sl),i∈ws/\ρ[i]?=jr (jr s)/\S i b
 nw:∀(i:Nat) s,ρ[i]?=jr (jr s)->∀b,W b->¬ S i b
theorem AR.held(h:AR K ws md c w y F H S ρ vs xs W Y):Held F H S ρ W:=#[h.av.dom,h.nw]
theorem AR.from{v u:Hp}{z:Ft}{x:xA}(s:Stp F H S ρ o l S1 g)(h:AR K ws md l S1 g v u z x vs xs W Y):AR K ws md H S ρ v u z x vs xs W Y :=
 #[h.av,λb hb=>by rcases h.fr b hb with q|q;exact .inl (s.dm b q);exact(s.uu b q).symm,h.tm,h.nw]
theorem AR.vars{us:LN}(h:AR K ws md c w y F H S ρ vs xs W Y)(k:∀i∈ws,i∈us):AR K us md c w y F H S ρ vs xs W Y :=
 #[h.av,h.fr,λb hb=>let#[i,s,z,x]:=h.tm b hb;#[i,s,k i z,x],h.nw]
theorem AR.frz(s:Ste F H S ρ o l S1 g)(I:Rl K o l S1 g σ)(h:AR K ws [] H S ρ o l S1 g vs xs W Y) :
  ∃v,Ste F H S ρ v l S1 g/\Rl K v l S1 g σ/\Tn K v l Y vs (pP xs) /\
   ∀st k t' u,Tr K o l st k t' u->(∀b,u b->∃(i:Nat) (s:Sl),g[i]?=jr (jr s)/\S1 i b)->Tr K v l st k t' u:=by
 have x:=h.held;have f:=rH (H:=l) λb hb=>(x.dom b hb).2;refine#[XJ o l W,s.frz (λb hb=>(x.dom b hb).2) h.fr,I.frz x,h.av.tn f (λb hb=>VJ hb) (λb m n=>?_) rfl,λst k t' u r j=>r.mono f λb hb=>#[rfl,?_]];let#[i,a,_,e,p]:=h.tm b m;rw[rC λz=>h.nw i a e b z p];exact n;let#[i,a,q,e]:=j b hb;rw[rC λz=>x.nw i a q b z e];exact(r.dom b hb).2
noncomputable def JB:List Md->LV->LV
 |_,[]=>[]|md,v::vs=>match md.headD .fro with
  | .chg=>v::JB md.tail vs|_=>JB md.tail vs
noncomputable abbrev mw(K:QC)(p:PX)(md:List Md)(F H:Hp)(S:Ft)(ρ:xA)(σ:St)(Q:List (T×Bool)->xA->Prop)(R:LV->Hp->Prop):Prop :=
 ∀vs u x z h xs W Y,Ste F H S ρ u x z h->Rl K u x z h σ->AR K (jG p) md H S ρ u x z h vs xs W Y->(JB md vs).map (λv=>jr (jr v))=(cA md p).map (λj=>σ[j]?)->Q xs h->R vs x
def Pv(K:QC)(F H:Hp)(x:XD)(h:Option ko):Prop:=∃a fs,h=jr a/\H a=jr (.xd fs)/\xo (λ(p:Str×V) (q:Str×D)=>p.1=q.1/\Rep K F p.2 q.2) fs x.2
def HF(K:QC)(F H:Hp)(S:Ft)(ρ:xA)(E:XE)(a:XK):Prop:=∀x v u h k z,Stp F H S ρ u h k z->Same u h->Pv K u h x v->E x->a x.1 v h
theorem HF.from{E:XE}{u:XK}(h:HF K F H S ρ E u)(s:Stp F H S ρ o l S1 g):HF K o l S1 g E u:=λx k e b a z v f r q=>h x k e b a z (s.trans v) f r q
theorem HF.never:HF K F H S ρ (λ_=>False) (λ_ _ _=>False):=λ_ _ _ _ _ _ _ _ _ z=>z
inductive ArgsR(K:QC)(F H:Hp)(Y:YB):List Md->LV->LT->Prop where
 |nil {md:List Md}:ArgsR K F H Y md [] []
 |chg {md:List Md}{v:V}{vs:LV}{t:T}{ts:LT}:md.headD .fro=.chg->ArgsR K F H Y md.tail vs ts->ArgsR K F H Y md (v::vs) (t::ts)
 |rd {md:List Md}{v:V}{vs:LV}{t:T}{ts:LT}{Z:YB}:md.headD .fro≠.chg->Tr K F H kd v t Z->(∀b,Z b->Y b)->ArgsR K F H Y md.tail vs ts->ArgsR K F H Y md (v::vs) (t::ts)
structure Frm(M:YB)(F H F' H':Hp):Prop where
 ff:Same F F'
 fh:Same F' H'
 hh:∀b u,H b=jr u->¬ M b->H' b=jr u
 dm:∀b,H' b=kv->H b=kv
 fn:∀b,F b=kv->F' b≠kv->M b∨H b=kv
def lift(K:QC)(P:PSp):Sp:=λvs H Q E=>∃(F:Hp) (u:LT) (M Y:YB),Same F H/\ArgsR K F H Y P.md vs u/\Trs K F H kf (JB P.md vs) (MB P.md u) M/\(∀b,Y b->¬ M b) /\
 P.run u (λr e=>∀v z h Z k,Frm M F H z h->Tr K z h kf v r Z->Trs K z h kf (JB P.md vs) e k->(∀b,Z b->¬ k b)->(∀b,Z b∨k b->M b∨H b=kv)->Q v h)
  (λx=>∀a z h,Frm M F H z h->Pv K z h x a->E x.1 a h)
structure GOk(K:QC)(Γ:Ev)(Ψ:PEv):Prop where
 sp:∀f vs H Q E,lift K (Ψ.sp f) vs H Q E->Γ.sp f vs H Q E
 va:∀x d,Ψ.va x=jr d->∀F,Rep K F (Γ.va x) d
structure PSnd(K:QC)(Γ:Ev)(Ψ:PEv)(p:PX):Prop where
 e:∀{E:XE}{EK:XK}{F H:Hp}{S:Ft}{ρ:xA}{σ:St}{Q:TK}{R:VK},Rl K F H S ρ σ->HF K F H S ρ E EK->(pe Ψ p E).e ρ Q->cB K (jG p) F H S ρ σ Q R->(wp K Γ p EK).e σ H R
 t:∀{E:XE}{EK:XK}{F H:Hp}{S:Ft}{ρ:xA}{σ:St}{Q:Bool->xA->Prop}{R:Bool->Hp->Prop},Rl K F H S ρ σ->HF K F H S ρ E EK->(pe Ψ p E).t ρ Q->kK K F H S ρ σ Q R->(wp K Γ p EK).t σ H R
 a:∀{E:XE}{EK:XK}{F H:Hp}{S:Ft}{ρ:xA}{σ:St}{md:List Md}{Q:List (T×Bool)->xA->Prop}{R:LV->Hp->Prop},Rl K F H S ρ σ->HF K F H S ρ E EK->(∀j∈cA md p,∃v,σ[j]?=jr (jr v))->(pe Ψ p E).a md ρ Q->mw K p md F H S ρ σ Q R->(wp K Γ p EK).a σ H R
end
end
section
variable{K:QC}{Γ:Ev}{Ψ:PEv}{E:XE}{c:XK}{F H A U:Hp}{S S1:Ft}{ρ o:xA}{σ:St}
section
variable{b a u:PX}{RR:LV->Hp->Prop}{P:List (T×Bool)->xA->Prop}{Y Z:YB}{t:T}{st:Bool}{ts:LT}{v:V}
theorem Zs(N:PSnd K Γ Ψ b)(I:Rl K F H S ρ σ)(X:HF K F H S ρ E c){x:T}{P:T×Bool->xA->Prop}{RR:VK}(h:sq x ρ (cu (pe Ψ b E).e) P)
  (M:∀w p g S' k y m Z,Ste F H S ρ p g S' k->Rl K p g S' k σ->(∀st v l,Tr K F H st v x l->Tr K p g st v x l)->(x.isD=kd->k=ρ/\S'=S)->VR K (jG b) H S ρ p g S' k w y m Z->P (y,m) k->RR w g) :
  (wp K Γ b c).e σ H RR:=by
 unfold sq at h;cases W:x.isD with
 |true =>
  rw[W,i0 rfl]at h;refine N.e I X h λw p g S' k y m Z s C r q=>M w p g S' k y m Z s C (λst v l B=>?_) (λz=>(by rw[W]at z;cases z)) r q;cases x with
  |d x=>cases B with|d r n=>exact .d (r.mono s.ff) n
  |_=>cases W
 |false =>
  rw[W,ii (by simp)]at h;have X':HF K F H S (lockA ρ) E c:=λx dx F2 H2 S2 O Q f r q=>X x dx F2 H2 S ρ Q.unlockA f r q;refine N.e I.lockA X' h λw p g S' k y m Z s C r q=>?_;have kp:∀st v t l,Tr K F H st v t l->Tr K p g st v t l:=λst v t l B=>s.keep B λb _=>uD b;refine M w p g S ρ y m Z #[s.unlockA,λj t h=>#[t,h]] (I.unlockA s.toStp C.fh) (λst v l B=>kp st v _ l B) (λ_=>#[rfl,rfl]) #[r.tr,λe b hb=>?_,λe b hb=>?_,λe i L hi b hb z=>?_] q;exact .inl ((r.fr e b hb).elim id λz=>i3 z (uD b));let#[i,L,h1,J,G]:=r.tm e b hb;cases L with
  |own t=>let#[t0,h0]:=s.ow i t J;let#[_,_,e0]:=VB h0;cases e0|bor t =>
   cases W:t.isD with|true=>exact i3 G (C.isD J W)|false=>let#[g1,g2]:=s.bo i t J W;let#[R,g3,_]:=VB g1;rw[g2]at G;exact#[i,R,h1,g3,G]
  rcases r.fr e b hb with q|q
  ·exact(I.dom hi z).1 q
  exact i3 q (uD b)
theorem Ks{md:List Md}(O:PSnd K Γ Ψ b)(I:Rl K F H S ρ σ)(X:HF K F H S ρ E c)(Q:∀j∈cA md b,∃v,σ[j]?=jr (jr v)){x:T}(h:sq x ρ ((pe Ψ b E).a md) P)
  (N:∀ws l e S' k L W Y,Ste F H S ρ l e S' k->Rl K l e S' k σ->(∀st v g,Tr K F H st v x g->Tr K l e st v x g)->(x.isD=kd->k=ρ/\S'=S)->AR K (jG b) md H S ρ l e S' k ws L W Y->(JB md ws).map (λv=>jr (jr v))=(cA md b).map (λj=>σ[j]?)->P L k->RR ws e) :
  (wp K Γ b c).a σ H RR:=by
 unfold sq at h;cases m:x.isD with
 |true =>
  rw[m,i0 rfl]at h;refine O.a I X Q h λw l e S' k y W Y s B r C q=>N w l e S' k y W Y s B (λst v g p=>?_) (λz=>(by rw[m]at z;cases z)) r C q;cases x with
  |d x=>cases p with|d r n=>exact .d (r.mono s.ff) n
  |_=>cases m
 |false =>
  rw[m,ii (by simp)]at h;have X':HF K F H S (lockA ρ) E c:=λx dx F2 H2 S2 R s2 f r q=>X x dx F2 H2 S ρ s2.unlockA f r q;refine O.a I.lockA X' Q h λw l e S' k y W Y s B r C q=>?_;have kp:∀st v t g,Tr K F H st v t g->Tr K l e st v t g:=λst v t g p=>s.keep p λb _=>uD b;refine N w l e S ρ y W Y #[s.unlockA,λj t h=>#[t,h]] (I.unlockA s.toStp B.fh) (λst v g p=>kp st v _ g p) (λ_=>#[rfl,rfl]) #[r.av,λb hb=>?_,λb hb=>?_,λi M hi b hb z=>?_] C q;exact .inl ((r.fr b hb).elim id λz=>i3 z (uD b));let#[i,M,h1,J,G]:=r.tm b hb;cases M with
  |own t=>let#[t0,h0]:=s.ow i t J;let#[_,_,e0]:=VB h0;cases e0|bor t =>
   cases m:t.isD with|true=>exact i3 G (B.isD J m)|false=>let#[g1,g2]:=s.bo i t J m;let#[s0,g3,_]:=VB g1;rw[g2]at G;exact#[i,s0,h1,g3,G]
  rcases r.fr b hb with q|q
  ·exact(I.dom hi z).1 q
  exact i3 q (uD b)
theorem AD(l:PSnd K Γ Ψ a)(I:Rl K F H S ρ σ)(X:HF K F H S ρ E c){P:TK}{RR:VK}(h:(pe Ψ a E).e ρ P)
  (j:∀v w z S' y x n Z,Ste F H S ρ w z S' y->Rl K w z S' y σ->HF K w z S' y E c->Tr K w z kd v (nA x n) Z->(XH x n=kf->Rep K w v x.er)->(∀b,Z b->∃(i:Nat) (s:Sl),i∈jG a/\y[i]?=jr (jr s)/\S' i b)->P x n y->RR v z) :
  (wp K Γ a c).e σ H RR:=by
 refine l.e I X h λv w z S' y x n Z s B r q=>?_;let#[C,p,k,W,g,m,f,_]:=r.frz s B;exact j v C z S' y x n p k W (X.from k.toStp) g m f q
theorem E6(ia:PSnd K Γ Ψ a)(ib:PSnd K Γ Ψ b)(I:Rl K F H S ρ σ)(X:HF K F H S ρ E c){P:T->Bool->T->Bool->xA->Prop}{RR:V->V->Hp->Prop}
  (h:(pe Ψ a E).e ρ λx n o=>sq (nA x n) o (cu (pe Ψ b E).e) λy k=>P x n y.1 y.2 k)
  (kk:∀v w l f S' z x n y m j Zb,Ste F H S ρ l f S' z->Rl K l f S' z σ->HF K l f S' z E c->Tr K l f kd v (nA x n) j->(∀b,j b->∃(i:Nat) (s:Sl),i∈jG a/\z[i]?=jr (jr s)/\S' i b)->Tr K l f kd w (nA y m) Zb ->
   P x n y m z->RR v w f):(wp K Γ a c).e σ H λv U=>(wp K Γ b c).e σ U λw W=>RR v w W:=by
 refine AD ia I X h λv A U S1 o x n j M I1 X1 p _ G R=>?_;refine Zs ib I1 X1 R λw F2 W C k y m Z L I2 kp hs O Q=>?_;let#[F3,Z3,J,I3,N,_,_,k3]:=O.frz L I2;have B:∀b,j b->∃(i:Nat) (s:Sl),i∈jG a/\k[i]?=jr (jr s)/\C i b:=by
  cases q:(nA x n).isD with
  |true =>
   intro b hb;exfalso;generalize nA x n=t at p q;cases p with|d r n=>exact n b hb|_=>cases q
  |false=>let#[e1,e2]:=hs q;rw[e1,e2];exact G
 have g:=M.trans J;exact kk v w F3 W C k x n y m j Z3 g I3 (X.from g.toStp) (k3 _ _ _ _ (kp _ _ _ p) λb hb=>let#[i,s,_,h2]:=B b hb;#[i,s,h2]) B N Q
theorem yZ(e:PSnd K Γ Ψ u)(I:Rl K F H S ρ σ)(X:HF K F H S ρ E c)(h:(pe Ψ u E).a [] ρ P)
  (k:∀vs z y S' x xs Y,Ste F H S ρ z y S' x->Rl K z y S' x σ->HF K z y S' x E c->Tn K z y Y vs (pP xs)->(∀b,Y b->∃(i:Nat) (s:Sl),i∈jG u/\x[i]?=jr (jr s)/\S' i b)->P xs x->RR vs y):(wp K Γ u c).a σ H RR:=by
 refine e.a (md:=[]) I X (λj f=>by cases u<;>cases f) h λvs z y S' x xs W Y s l r _ q=>?_;let#[m,w,g,t,_]:=r.frz s l;exact k vs m y S' x xs Y w g (X.from w.toStp) t r.tm q
theorem Br(ia:PSnd K Γ Ψ a)(ib:PSnd K Γ Ψ u)(I:Rl K F H S ρ σ)(X:HF K F H S ρ E c){P1:T->Bool->Prop}{P:T->Bool->List (T×Bool)->xA->Prop}{R1:V->Hp->Prop}{RR:V->LV->Hp->Prop}
  (h:(pe Ψ a E).e ρ λx n o=>P1 x n/\sq (nA x n) o ((pe Ψ u E).a []) λxs z=>P x n xs z)
  (k1:∀v f w x n k,Tr K f w kd v (nA x n) k->P1 x n->R1 v w)
  (kk:∀v vs f w S' y x n xs k Y,Ste F H S ρ f w S' y->Rl K f w S' y σ->HF K f w S' y E c->Tr K f w kd v (nA x n) k->(∀b,k b->∃(i:Nat) (s:Sl),i∈jG a/\y[i]?=jr (jr s)/\S' i b)->Tn K f w Y vs (pP xs) ->
   P x n xs y->RR v vs w):(wp K Γ a c).e σ H λv U=>R1 v U/\(wp K Γ u c).a σ U λvs p=>RR v vs p:=by
 refine AD ia I X h λv A U S1 o x n k L I1 X1 l _ C #[Q,O]=>#[k1 v A U x n k l Q,?_]
 refine Ks ib I1 X1 (λj hj=>by cases u<;>cases hj) O λvs F2 p B z xs W Y J I2 R hs M _ N=>?_;let#[F3,G,I3,tn,k3]:=M.frz J I2;have q:∀b,k b->∃(i:Nat) (s:Sl),i∈jG a/\z[i]?=jr (jr s)/\B i b:=by
  cases m:(nA x n).isD with
  |true =>
   intro b hb;exfalso;generalize nA x n=t at l m;cases l with|d r n=>exact n b hb|_=>cases m
  |false=>let#[e1,e2]:=hs m;rw[e1,e2];exact C
 have g:=L.trans G;exact kk v vs F3 p B z x n xs k Y g I3 (X.from g.toStp) (k3 _ _ _ _ (R _ _ _ l) λb hb=>let#[i,s,_,h2]:=q b hb;#[i,s,h2]) q tn N
def u6(K:QC)(F H:Hp)(Y:YB):Item->T->Prop
 | .one v,t=>∃Z,Tr K F H kd v t Z/\∀b,Z b->Y b|.tup vs,t=>∃h,t=.d (.tuple h)/\Reps K F vs h
theorem u6.mono{it:Item}(h:u6 K F H Y it t)(e:Same F A)(k:∀b,Y b->U b=H b/\A b=kv):u6 K A U Y it t:=by
 cases it with|one v=>let#[Z,r,z]:=h;exact#[Z,r.mono e λb hb=>k b (z b hb),z]|tup y=>let#[ts,x,r]:=h;exact#[ts,x,r.mono e]
theorem vY{xs:LV}(h:Trs K F H st xs ts Z)(z:∀b,Z b->Y b):xo (u6 K F H Y) (xs.map .one) ts :=
 Trs.ind (R:=λ_ xs ts Z=>(∀b,Z b->Y b)->xo (u6 K F H Y) (xs.map .one) ts) (λ_ _=>.nil) (λh _ _ q x z=>.cons #[_,h.weak,λb hb=>z b ((q b).mpr (.inl hb))] (x λb hb=>z b ((q b).mpr (.inr hb)))) h z
theorem O0{Y:YB}{α:Type}(f:α->V)(g:α->D)(h:∀x,Rep K F (f x) (g x)):∀(l:List α),xo (u6 K F H Y) (l.map λx=>.one (f x)) (l.map λx=>T.d (g x))
 |[]=>.nil|x::r=>.cons #[λ_=>False,.d (h x) λ_ z=>z,λ_ z=>z.elim] (O0 f g h r)
theorem Tr.lsS(f:Same F H)(h:Tr K F H st v t Z)(e:t.vw=.ls ts):∃a vs S',v=.ref a/\YC K H a vs/\Trs K F H kd vs ts S'/\(∀b,S' b->Z b)/\∀y x,Same F y->Same y x->(∀b,Z b->x b=H b)->YC K x a vs:=by
 cases h with
 |d r n =>
  cases r with|lst q r=>injection e with e;subst e;exact#[_,_,_,rfl,f.seq q,Trs.of_reps r,λb hb=>hb.elim,λy x w z _=>(w.trans z).seq q]|dct _ _ _=>exact(yI e).elim|_=>cases e
 |lst h _ r n q=>injection e with e;subst e;exact#[_,_,_,rfl,YC.of h,r.weak,λb hb=>(q b).mpr (.inr hb),λy x _ _ k=>YC.of ((k _ ((q _).mpr (.inl rfl))).trans h)]|tup=>cases e|dct=>cases e|lstF h r n=>injection e with e;subst e;exact#[_,_,_,rfl,f.seq h,Trs.of_reps r,λb hb=>hb.elim,λy x w z _=>(w.trans z).seq h]
theorem Tr.tpS(f:Same F H)(h:Tr K F H st v t Z)(e:t.vw=.tp ts):∃a vs S',v=.ref a/\LD K H a vs/\Trs K F H kd vs ts S'/\(∀b,S' b->Z b)/\∀y x,Same F y->Same y x->(∀b,Z b->x b=H b)->LD K x a vs:=by
 cases h with
 |d r n =>
  cases r with|tup q r=>injection e with e;subst e;exact#[_,_,_,rfl,f.tupl q,Trs.of_reps r,λb hb=>hb.elim,λy x w z _=>(w.trans z).tupl q]|dct _ _ _=>exact(VM e).elim|_=>cases e
 |tup h _ r n q=>injection e with e;subst e;exact#[_,_,_,rfl,LD.of h,r.weak,λb hb=>(q b).mpr (.inr hb),λy x _ _ k=>LD.of ((k _ ((q _).mpr (.inl rfl))).trans h)]|lst=>cases e|lstF=>cases e|dct=>cases e
theorem Tr.seqS(f:Same F H)(h:Tr K F H st v t Z)(e:t.vw.seq=jr ts):∃a vs sz,v=.ref (Src.adr sz)/\e6 K H sz vs/\(∃S',Trs K F H kd vs ts S')/\a=Src.adr sz/\∀g k,Same F g->Same g k->(∀b,Z b->k b=H b)->e6 K k sz vs:=by
 generalize ev:t.vw=w at e;cases w with|ls i=>cases e;let#[a,vs,S',rfl,z,x,_,y]:=h.lsS f ev;exact#[a,vs,.l a,rfl,z,#[S',x],rfl,y]|tp i=>cases e;let#[a,vs,S',rfl,z,x,_,y]:=h.tpS f ev;exact#[a,vs,.t a,rfl,z,#[S',x],rfl,y]|_=>cases e
end
mutual
theorem kY{F:Hp}:∀{k:NK}{v:V},uq K F k v->Rep K F v (tD k)
 | .s x,v,h=>by cases(show v=.str x from h);exact .str x|.t ks,v,#[a,xs,e,q,p]=>by subst e;exact .tup q (ky_reps p)
theorem ky_reps{F:Hp}:∀{ks:List NK}{vs:LV},KyVs K F ks vs->Reps K F vs (tDs ks)
 |[],vs,h=>by cases(show vs=[] from h);exact .nil|k::ks,vs,#[x,r,e,p,q]=>by subst e;exact .cons (kY p) (ky_reps q)
end
theorem T0{Y:YB}:∀{kvs:List KE}{ds:List D},IG K F kvs->Reps K F (kvs.map (·.2.2)) ds->xo (u6 K F H Y) (kvs.map λp=>.tup [.ref p.2.1,p.2.2]) (((kvs.map λp=>tD p.1).zip ds).map λp=>T.d (.tuple [p.1,p.2]))
 |[],_,_,.nil=>.nil|p::r,_,hk,.cons h t=>by simp only[QU,QAQ];exact .cons #[[_,_],rfl,.cons (kY (hk p QE).1) (.cons h .nil)] (T0 (λp x=>hk p (QF _ x)) t)
theorem R0{Y:YB}:∀{kvs:List KE},IG K F kvs->xo (u6 K F H Y) (kvs.map λp=>.one (.ref p.2.1)) ((kvs.map λp=>tD p.1).map T.d)
 |[],_=>.nil|p::r,hk=>.cons #[λ_=>False,.d (kY (hk p QE).1) λ_ z=>z,λ_ z=>z.elim] (R0 λp h=>hk p (QF _ h))
theorem nV{Y:YB}:∀{xs:LV}{ds:List D}(_:Reps K F xs ds) (g:Nat->Int) (n:Nat),xo (u6 K F H Y) ((xs.zipIdx n).map λp=>.tup [.int (g p.2),p.1]) ((ds.zipIdx n).map λp=>T.d (.tuple [.int (g p.2),p.1]))
 |_,_,.nil,g,n=>by simp only[List.zipIdx_nil,wT];exact .nil|_,_,.cons h t,g,n=>by simp only[List.zipIdx_cons,QU];exact .cons #[[_,_],rfl,.cons (.int _) (.cons h .nil)] (nV t g (n+1))
theorem ZN{α x:Type}{R:α->x->Prop}:∀{l z:List α}{m y:List x},xo R l m->xo R z y->xo R (l++z) (m++y)
 |_,_,_,_,.nil,h=>h|_,_,_,_,.cons r t,h=>.cons r (ZN t h)
theorem JN{α h:Type}{R:α->h->Prop}:∀{l:List α}{m:List h},xo R l m->xo R l.reverse m.reverse
 |_,_,.nil=>.nil|_,_,.cons r t=>by rw[wb,wb];exact ZN (JN t) (.cons r .nil)
theorem YK{M:ItK}{Y:YB}{vs:LV}{ts:LT}{RD:LT->Prop}{RR:List Item->(Hp->Prop)->Hp->Prop}(f:Same F H)(W:Tn K F H Y vs ts)(h:OB M (ts.map T.vw) RD)
  (k:∀xs R st,xo (u6 K F H Y) xs R->(∀l w,Same F l->Same l w->(∀b,Y b->w b=H b)->st w)->RD R->RR xs st H):pC K M vs H RR:=by
 cases M with
 |val =>
  rcases h with⟨I,e,h⟩| ⟨I,e,h⟩| ⟨B,I,e,h⟩
  let#[v,t,Z,rfl,rfl,e,r,z]:=W.one e;let#[p,xs,S,rfl,J,m,G,s]:=r.lsS f e;exact .inl #[xs,J,k _ _ _ (vY m λb hb=>z b (G b hb)) (λl w y u q=>s l w y u λb hb=>q b (z b hb)) h];let#[v,t,Z,rfl,rfl,e,r,z]:=W.one e;let#[p,xs,S,rfl,J,m,G,s]:=r.tpS f e;exact .inr (.inl #[xs,J,k _ _ _ (vY m λb hb=>z b (G b hb)) (λl w y u q=>s l w y u λb hb=>q b (z b hb)) h]);let#[v,t,Z,rfl,rfl,y,A,C]:=W.one e;let#[a,o,xs,_,rfl,N,Q,m,_,s]:=A.dc f y;let#[X,g,rfl,rfl,rfl,O,_]:=Q;exact .inr (.inr #[X,g,N,k _ _ _ (R0 O) (λl w y u q=>s l w y u λb hb=>q b (C b hb)) h])
 |rng1=>let#[j,e,h]:=h;let#[v,t,Z,rfl,rfl,e,r,_]:=W.one e;obtain rfl:=r.int e;exact#[h.1,k _ _ _ (O0 (λ(i:Nat)=>.int (i:Int)) (λ(i:Nat)=>.int (i:Int)) (λc=>.int _) _) (λ_ _ _ _ _=>trivial) h.2]|rev=>let#[I,e,h]:=h;let#[v,t,Z,rfl,rfl,e,r,z]:=W.one e;let#[p,xs,S,rfl,J,m,G,s]:=r.lsS f e;have q:=JN (vY m λb hb=>z b (G b hb));rw[<- W0]at q;exact#[xs,J,k _ _ _ q (λl w y u q=>s l w y u λb hb=>q b (z b hb)) h]|enum=>let#[x,I,E,e,g1,P,q]:=h;let#[v,t,Z,rfl,rfl,y,A,C]:=W.one e;let#[a,xs,sz,rfl,hq,#[_,m],_,s]:=A.seqS f (by rw[y];exact g1);exact#[sz,xs,rfl,hq,k _ _ _ (nV (m.un P).1 (λi=>(i:Int)) 0) (λl w y u q=>s l w y u λb hb=>q b (C b hb)) q]|itm =>
  rcases h with⟨B,I,E,e,P,q⟩| ⟨e,q⟩
  rotate_left
  let#[v,t,Z,rfl,rfl,y,A,C]:=W.one e;let#[_,m]:=A.sc y;generalize ed:PyData.dict []=d at m;cases m with
  |@dct b a o B vs E h L r =>
   have ez:B.zip E=[]:=by injection ed with ed;exact ed.symm
   have hl:B.9=E.length:=by rw[L.len,Reps.length r]
   have ek:B=[]:=by
    cases B with
    |nil=>rfl|cons k B =>
     cases E with|nil=>cases hl|cons d E=>cases ez
   subst ek;have eo:∃X,o=.dT X []:=by
    cases b with
    |true =>
     let#[X,g,y,u,_]:=L;cases g with|nil=>exact#[X,y]|cons p r=>cases u
    |false =>
     rcases L with⟨g,n,_,u,_⟩| ⟨X,y,_⟩
     cases g with|nil=>exact i3 rfl n|cons p r=>cases u
     exact#[X,y]
   let#[X,rfl]:=eo;exact#[X,[],f _ _ h,k _ _ _ .nil (λl w y u _=>u _ _ (y _ _ h)) q]
  |_=>cases ed
  let#[v,t,Z,rfl,rfl,y,A,C]:=W.one e;let#[a,o,xs,_,rfl,N,Q,m,_,s]:=A.dc f y;let#[X,g,rfl,rfl,rfl,O,_]:=Q;exact#[X,g,N,k _ _ _ (T0 O (m.un P).1) (λl w y u q=>s l w y u λb hb=>q b (C b hb)) q]
end
section
variable{i j:Nat}{Z:YB}
def zI(S:Ft)(i:Nat)(Z:YB):Ft:=λj=>if j=i then Z else S j
theorem yB{S:Ft}:zI S i Z i=Z:=i0 rfl
theorem VA{S:Ft}(h:j≠i):zI S i Z j=S j:=ii h
theorem gA{α:Type}{l:List α}{x y:α}(h:(l.set i x)[j]?=jr y):(i=j/\y=x/\i<l.9)∨(i≠j/\l[j]?=jr y):=by rw[wJ]at h;by_cases e:i=j;subst e;rw[i0 rfl]at h;by_cases hl:i<l.9;rw[i0 hl]at h;cases h;exact .inl #[rfl,rfl,hl];rw[ii hl]at h;cases h;rw[ii e]at h;exact .inr #[e,h]
theorem ZZ{α:Type}{l:List α}{x:α}(h:i<l.9):(l.set i x)[i]?=jr x:=by rw[wJ,i0 rfl,i0 h]
theorem bE{α:Type}{l:List α}{x:α}(h:i≠j):(l.set i x)[j]?=l[j]?:=by rw[wJ,ii h]
end
section
variable{K:QC}{Γ:Ev}{Ψ:PEv}{E:XE}{L:XK}{F H D G:Hp}{S S1:Ft}{ρ C:xA}{σ:St}
section
variable{Z Y:YB}{A X:Hp}{S':Ft}{g:xA}{o:St}{st:Bool}{B:Tg}{k:Nat}{l:List Bool}
theorem Rl.setB(I:Rl K F H S ρ σ)(i:Nat){v:V}{t:T}(r:Tr K F H kd v t Z)(m:∀(j:Nat) u,j≠i->ρ[j]?=jr (jr (.own u))->∀b,Z b->¬ S j b):Rl K F H (zI S i Z) (ρ.set i (jr (.bor t))) (σ.set i (jr v)) where
 fh:=I.fh
 len:=by simpa using I.len
 sl:=λj s h=>by
  rcases gA h with⟨rfl,e,hl⟩| ⟨w,h⟩
  cases e;exact#[v,ZZ (by rw[<- I.len];exact hl),by rw[yB];exact r];rw[bE w,VA (qC w)];exact I.sl j s h
 dj:=λj k z s n x y b hb hk=>by
  rcases gA x with⟨_,e,_⟩| ⟨f,x⟩
  cases e;rw[VA (qC f)]at hb;rcases gA y with⟨e,_,_⟩| ⟨a,y⟩
  subst e;rw[yB]at hk;exact m j z n x b hk hb;rw[VA (qC a)]at hk;exact I.dj j k z s n x y b hb hk
structure Bd(J:LN)(F H:Hp)(S:Ft)(ρ:xA)(σ:St)(A X:Hp)(S':Ft)(g:xA)(o:St):Prop where
 ff:Same F A
 hh:Same H X
 fn:∀b,F b=kv->A b≠kv->H b=kv
 out:∀j,j∉J->g[j]?=ρ[j]?/\S' j=S j/\o[j]?=σ[j]?
 inn:∀j t,j∈J->g[j]?≠jr (jr (.own t))
theorem Bd.U{J:LN}(h:Bd J F H S ρ σ A X S' g o){b:ko}(u:U g S' b):L3.U ρ S b:=by let#[i,t,x,z]:=u;by_cases y:i∈J;exact i3 x (h.inn i t y);let#[w,v,_]:=h.out i y;rw[w]at x;rw[v]at z;exact#[i,t,x,z]
theorem Bd.dm{J:LN}(h:Bd J F H S ρ σ A X S' g o)(b:ko)(e:X b=kv):H b=none:=h.hh.free e
theorem VZ{Y:YB}(s:∀b,Y b->¬ U ρ S b):∀(w:LN) {vs:LV}{ts:LT}{S1:Ft}{C g:xA}{x:St}{J:LN},(∀i∈w,i∈J)->Rl K F H S1 C x->(∀b,U C S1 b->U ρ S b)->Tn K F H Y vs ts->KB w ts C=jr g ->
  ∃o S',gB w vs x=jr o/\Rl K F H S' g o/\(∀j,j∉J->g[j]?=C[j]?/\S' j=S1 j/\o[j]?=x[j]?)/\(∀j t,g[j]?=jr (jr (.own t))->j∉w/\C[j]?=jr (jr (.own t)))
 |[],_,_,S1,C,g,x,J,hJ,I,hu,.nil,h=>by simp only[KB,Qp]at h;subst h;exact#[x,S1,rfl,I,λ_ _=>#[rfl,rfl,rfl],λj t h=>#[(by simp),h]]|[],_,_,_,_,_,_,_,_,_,_,.cons _ _ _,h=>by simp[KB]at h|_::_,_,_,_,_,_,_,_,_,_,_,.nil,h=>by simp[KB]at h|i::w,_,_,S1,C,g,x,J,hJ,I,hu,.cons (v:=v) (t:=t) (Z:=Z) r z tl,h=>by
  simp only[KB]at h;have nu:∀b,Z b->¬ U C S1 b:=λb hb u=>s b (z b hb) (hu b u);have R:=I.setB i r λj u _ y b hb M=>nu b hb #[j,u,y,M];have p:∀b,U (C.set i (jr (.bor t))) (zI S1 i Z) b->U ρ S b:=λb #[j,u,q,W]=>by
   rcases gA q with⟨_,e,_⟩| ⟨n,q⟩
   cases e;rw[VA (qC n)]at W;exact hu b #[j,u,q,W]
  let#[o,S',Q,P,O,N]:=VZ s w (λj y=>hJ j (QF _ y)) R p tl h;refine#[o,S',Q,P,λj y=>?_,λj u y=>?_];let#[f,a,e3]:=O j y;have n:i≠j:=λe=>y (e▸hJ i QE);rw[bE n]at f e3;rw[VA (qC n)]at a;exact#[f,a,e3];let#[f,a]:=N j u y;rcases gA a with⟨_,e,_⟩| ⟨n,a⟩
  cases e;exact#[λm=>(QK.mp m).elim (λe=>n e.symm) f,a]
theorem Tn.of_trs{vs:LV}{ts:LT}(h:Trs K F H st vs ts Z)(z:∀b,Z b->Y b):Tn K F H Y vs ts :=
 Trs.ind (R:=λ_ vs ts Z=>(∀b,Z b->Y b)->Tn K F H Y vs ts) (λ_ _=>.nil) (λh _ _ q x z=>.cons h.weak (λb hb=>z b ((q b).mpr (.inl hb))) (x λb hb=>z b ((q b).mpr (.inr hb)))) h z
theorem sO{it:Item}{t:T}{QP:xA->Prop}{RP:St->Hp->Prop}(I:Rl K F H S ρ σ)(hy:∀b,Y b->¬ U ρ S b)(r:u6 K F H Y it t)(h:CL B t ρ QP)
  (k:∀m f w x O,Bd B.ix F H S ρ σ w x O m f->Rl K w x O m f->QP m->RP f x):bindI K B it σ H RP:=by
 have nm:∀(i:Nat) {v:V}{t:T}{Z:YB}{w x:Hp}{O:Ft},Same F w->Same H x->(∀b,F b=kv->w b≠kv->H b=kv)->Rl K w x O ρ σ->O=S->Tr K w x kd v t Z->(∀b,Z b->¬ U ρ S b)->QP (ρ.set i (jr (.bor t)))->B=.nm i->RP (σ.set i (jr v)) x:=by
  intro i v t Z w x O R e2 e3 I2 hS r hz q ht;subst hS ht;refine k _ _ w x (zI O i Z) #[R,e2,e3,λj N=>?_,λj u N hu=>?_] (I2.setB i r λj u _ N b hb hs=>hz b hb #[j,u,N,hs]) q;have n:i≠j:=λe=>N (by subst e;exact QI.mpr rfl);exact#[bE n,VA (qC n),bE n];have e:j=i:=QI.mp N;subst e;rcases gA hu with⟨_,e,_⟩| ⟨n,_⟩
  cases e;exact n rfl
 have tp:∀(y:LN) {W:LV}{P:LT}{x:Hp}{g:xA},Same H x->B=.tp y->Tn K F x Y W P->KB y P ρ=jr g->QP g->∃o,gB y W σ=jr o/\RP o x:=by intro y W P x g e2 ht r e q;subst ht;let#[o,S',g1,g2,g3,g4]:=VZ hy y (J:=y) (λi hi=>hi) (I.same e2) (λb u=>u) r e;exact#[o,g1,k _ _ F x S' #[.refl _,e2,λb h z=>i3 h z,g3,λj u N hu=>(g4 j u hu).1 N] g2 q]
 cases it with
 |one v =>
  let#[Z,r,z]:=r;cases B with|nm i=>exact nm i (.refl _) (.refl _) (λb h z=>i3 h z) I rfl r (λb hb=>hy b (z b hb)) h rfl|tp y=>have Q:(match t.vw with | .tp P=>∃g,KB y P ρ=jr g/\QP g|_=>False):=h;split at Q;rename_i P e;let#[g,R,q]:=Q;let#[a,W,S',rfl,M,rp,z2]:=r.tp I.fh e;let#[o,g1,g2]:=tp y (.refl _) rfl (Tn.of_trs rp λb hb=>z b (z2 b hb)) R q;exact#[W,o,M,g1,g2];exact Q.elim
 |tup W =>
  let#[ds,rfl,rd]:=r;cases B with|nm i=>intro p M;refine nm i (AB (I.fh.free M)) (AB M) (λb h1 Q=>?_) (I.newT M (.tup W)) rfl (.d (S:=λ_=>False) (.tup (LD.of ZA) (rd.mono (AB (I.fh.free M)))) λ_ z=>z) (λb z=>z.elim) h rfl;by_cases hb:b=p;rw[hb];exact M;rw[uA hb]at Q;exact i3 h1 Q|tp y=>intro X s;let#[g,R,q]:=h;exact tp y s rfl (Tn.of_trs (Trs.of_reps (st:=kd) rd) λb hb=>hb.elim) R q
noncomputable def Sf(k:Nat)(S:Ft):Ft:=λi=>if i<k then λ_=>False else S (i - k)
theorem pQ:∀(m:List Bool) (ρ:xA) (i:Nat) s,(nC m ρ)[i]?=jr (jr s)->ρ[i]?=jr (jr s)/\m.getD i kd=kd
 |[],ρ,i,s,h=>by
  have e:nC [] ρ=ρ:=by cases ρ<;>rfl
  rw[e]at h;exact#[h,rfl]
 |b::m,[],i,s,h=>by simp[nC]at h|b::m,v::ρ,0,s,h=>by
  cases b with|true=>simp[nC]at h|false=>simp[nC]at h;simp[h]
 |b::m,v::ρ,i+1,s,h=>by simp only[nC,wj]at h;let#[y,x]:=pQ m ρ i s h;exact#[by simpa using y,by simpa using x]
theorem nQ:∀(m:List Bool) (σ:St) (i:Nat) v,σ[i]?=jr (jr v)->m.getD i kd=kd->(PC m σ)[i]?=jr (jr v)
 |[],σ,i,v,h,_=>by
  have e:PC [] σ=σ:=by cases σ<;>rfl
  rw[e];exact h
 |b::m,[],i,v,h,_=>by simp at h|b::m,w::σ,0,v,h,hb=>by
  have:b=false:=by simpa using hb
  subst this;simpa[PC]using h
 |b::m,w::σ,i+1,v,h,hb=>by simp only[PC,wj];exact nQ m σ i v (by simpa using h) (by simpa using hb)
theorem oQ:∀(m:List Bool) (ρ:xA),(nC m ρ).9=ρ.9
 |[],ρ=>by cases ρ<;>rfl|_::_,[]=>rfl|b::m,v::ρ=>by simp[nC,oQ m ρ]
theorem YG{ρ:xA}{i:Nat}{s:Sl}(h:(rP k l ρ)[i]?=jr (jr s)):k<=i/\ρ[i - k]?=jr (jr s)/\l.getD (i - k) kd=false:=by unfold rP at h;rcases QBH i k with z|z;rw[qL (by simpa using z),wk]at h;split at h<;>cases h;rw[Qy (by simpa using z)]at h;simp only[qz]at h;let#[y,x]:=pQ l ρ _ s h;exact#[z,y,x]
theorem Rl.ent(I:Rl K F H S ρ σ)(k:Nat)(l:List Bool):Rl K F H (Sf k S) (rP k l ρ) (DJ k l σ) where
 fh:=I.fh
 len:=by simp[rP,DJ,oQ,JK,I.len]
 sl:=λi s h=>by let#[u,z,y]:=YG h;let#[v,a,w]:=I.sl _ s z;refine#[v,?_,?_];unfold DJ;rw[Qy (by simpa using u)];simp only[qz];exact nQ l σ _ v a y;unfold Sf;rw[ii ()];exact w
 dj:=λi j t s n z y b hb x=>by let#[p,f,_]:=YG z;let#[m,e,_]:=YG y;unfold Sf at hb x;rw[ii ()]at hb x;exact I.dj (i - k) (j - k) t s () f e b hb x
theorem O1(b:ko):¬ U (rP k l (lockA ρ)) S' b:=λ#[i,t,h,_]=>by let#[_,x,_]:=YG h;let#[_,_,e]:=VB x;cases e
theorem Paired.get_of{α v:Type}{R:α->v->Prop}{xs:List α}{u:List v}(h:xo R xs u):∀{i:Nat}{x:α},xs[i]?=jr x->∃y,u.drop i=y::u.drop (i+1)/\R x y:=by
 induction h with
 |nil=>intro i x e;simp at e|@cons x y xs u h t a =>
  intro i z e;cases i with|zero=>simp at e;subst e;exact#[y,by simp,h]|succ i=>let#[w,f,b]:=a (i:=i) (by simpa using e);exact#[w,by simpa using f,b]
structure Pur(F H A X:Hp):Prop where
 ff:Same F A
 hh:Same H X
 fn:∀b,F b=kv->A b≠kv->H b=kv
theorem Pur.trans{u y:Hp}(a:Pur F H D G)(b:Pur D G u y):Pur F H u y:=#[a.ff.trans b.ff,a.hh.trans b.hh,λx h z=>by by_cases q:D x=kv;exact a.hh.free (b.fn x q z);exact a.fn x h q]
theorem Pur.ste(p:Pur F H D G):Ste F H S ρ D G S ρ:=#[#[p.ff,λb u h _=>p.hh b u h,λb h=>p.hh.free h,λb h z=>.inr (p.fn b h z),λb h=>.inl h,λ_ _ h _=>#[h,rfl]],λ_ t h=>#[t,h]]
theorem Pur.rl(p:Pur F H D G)(f:Same D G)(I:Rl K F H S ρ σ):Rl K D G S ρ σ:=#[f,I.len,λi s e=>by
 let#[v,y,h]:=I.sl i s e;exact#[v,y,h.mono p.ff λb hb=>by
  let#[x,z]:=h.dom b hb;refine#[?_,?_];cases e:H b with|none=>exact i3 e x|some u=>exact p.hh b u e
  by_cases q:D b=kv
  ·exact q
  exact i3 (p.fn b z q) x],I.dj]
theorem Stp.pur(s:Stp F H S ρ D G S' g)(n:∀b,¬ U ρ S b):Pur F H D G:=#[s.ff,λb u h=>s.hh b u h (n b),λb h z=>(s.fn b h z).elim (λq=>i3 q (n b)) id]
theorem Pur.trs(p:Pur F H D G){v:LV}{t:LT}(h:Trs K F H st v t Z):Trs K D G st v t Z:=h.mono p.ff λb hb=>by
  let#[x,y]:=h.dom b hb;refine#[?_,?_];cases e:H b with|none=>exact i3 e x|some u=>exact p.hh b u e
  by_cases q:D b=kv
  ·exact q
  exact i3 (p.fn b y q) x
theorem Ia{ws:LN}{N:Nat}{c:xA->(Bool->xA->Prop)->Prop}{e:xA->TK->Prop}{tc:TT}{te:TE}{us:LN}
  (ic:∀{F H:Hp}{S:Ft}{ρ:xA}{σ:St}{Q:Bool->xA->Prop}{R:Bool->Hp->Prop},Rl K F H S ρ σ->c ρ Q->kK K F H S ρ σ Q R->tc σ H R)
  (ie:∀{F H:Hp}{S:Ft}{ρ:xA}{σ:St}{Q:TK}{R:VK},Rl K F H S ρ σ->e ρ Q->cB K us F H S ρ σ Q R->te σ H R)
  {F0 H0:Hp}{S0:Ft}{P:xA}(s:Ste F0 H0 S0 P F H S ρ) (I:Rl K F H S ρ σ) {xs:List Item}{M:LT}{st:Hp->Prop}(pr:xo (u6 K F H Y) xs M) (hyd:∀b,Y b->H b≠kv/\F b=kv) (hst:∀A X,Same F A->Same A X->(∀b,Y b->X b=H b)->st X) {Q:TK}{R:VK}
  (h:AC (KG B (rP N l (lockA ρ)) c e) M [] λM=>Q (.lst M) kf ρ) (k:cB K ws F0 H0 S0 P σ Q R) :
  y3 K xs st B tc te (DJ N l σ) H R:=by
 refine jb ?_;have len:=qE pr;have yk:∀{A X:Hp},Pur F H A X->∀b,Y b->X b=H b/\A b=none:=λ{A X} p b hb=>by
  let#[d1,d2]:=hyd b hb;refine#[?_,?_];cases e:H b with|none=>exact i3 e d1|some u=>exact p.hh b u e
  by_cases q:A b=kv
  ·exact q
  exact i3 (p.fn b d2 q) d1
 refine#[λi m X=>∃A w W,Pur F H A X/\Same A X/\Trs K A X kf m w W/\(∀b,W b->H b=kv)/\AC (KG B (rP N l (lockA ρ)) c e) (M.drop i) w λM=>Q (.lst M) kf ρ,
  #[F,[],λ_=>False,#[.refl _,.refl _,λb h z=>i3 h z],I.fh,.nil λ_ z=>z,λ_ z=>z.elim,by simpa using h],?_,?_,?_]
 rintro i m X _ ⟨A,w,W,p,f,_,_,_⟩;exact hst A X p.ff f λb hb=>(yk p b hb).1;rintro i x m G hx ⟨D,w,W,p1,f1,J,hw,hc⟩;let#[y,hd,ry]:=Paired.get_of pr hx;rw[hd]at hc;unfold AC at hc;unfold KG at hc;have I1:Rl K D G (Sf N S) (rP N l (lockA ρ)) (DJ N l σ):=((p1.rl f1 I).lockA).ent N l;refine sO I1 (λb _=>O1 b) (ry.mono p1.ff (yk p1)) hc λρ2 σ2 F2 H2 S2 O I2 hc=>?_;have p2:Pur D G F2 H2:=#[O.ff,O.hh,O.fn]
 have nu2:∀b,¬ U ρ2 S2 b:=λb u=>O1 b (O.U u);refine ic I2 hc λb F3 H3 S3 ρ3 s3 I3 q=>?_;have p3:Pur F2 H2 F3 H3:=s3.toStp.pur nu2;have nu3:∀b,¬ U ρ3 S3 b:=λb #[j,t,h1,_]=>by let#[t0,h0]:=s3.ow j t h1;by_cases hj:j∈B.ix;exact O.inn j t0 hj h0;rw[(O.out j hj).1]at h0;let#[_,h1,_]:=YG h0;let#[_,_,e]:=VB h1;cases e
 have a:=p1.trans (p2.trans p3);cases b with
 |false=>exact#[F3,w,W,a,I3.fh,p3.trs (p2.trs J),hw,q]|true =>
  refine ie I3 q λv F4 H4 S4 ρ4 z n Z s4 I4 r4 #[hk,hl,hc]=>?_;have p4:Pur F3 H3 F4 H4:=s4.toStp.pur nu3;have ra4:=p4.trs (p3.trs (p2.trs J));have rz:∃Z',Tr K F4 H4 kf v z Z'/\∀b,Z' b->H3 b=none:=by
   cases n with
   |true=>exact#[Z,r4.tr,λb hb=>(r4.fr rfl b hb).elim id λu=>i3 u (nu3 b)]|false =>
    cases z with
    |d x =>
     have tr:=r4.tr;cases tr with|d r n=>exact#[λ_=>False,.d r λ_ z=>z,λ_ z=>z.elim]
    |_=>exact i3 hk (by simp[XH,T.isD])
  let#[Z',rz,fz]:=rz;refine#[by rw[J.9];exact hl,F4,_,λb=>W b∨Z' b,a.trans p4,I4.fh,ra4.append (Trs.one rz) λb hb hz=>?_,λb hb=>?_,hc];have q1:=(J.dom b hb).1;exact q1 ((p2.trans p3).hh.free (fz b hz));rcases hb with hb|hb
  ·exact hw b hb
  exact a.hh.free (fz b hb)
 rintro m X ⟨A,w,W,p,f,J,hw,hc⟩;rw[len,List.drop_length]at hc;unfold AC at hc;have I':=p.rl f I;refine#[by rw[J.9];exact hc.1,λq hq=>?_];refine cB.list (k.from s) (p.ste) I' hq J (λb hb=>.inl (hw b hb)) #[J.dom,λi sl hi b hb z=>?_] hc.2;exact(I.dom hi z).1 (hw b hb)
end
end
section
variable{K:QC}{Γ:Ev}{Ψ:PEv}{E:XE}{p:XK}{F H l c:Hp}{S S1:Ft}{ρ y:xA}{σ:St}
theorem Tr.shal{v:V}{u t:T}{Z:YB}(h:Tr K F H kd v u Z)(e:UE u=jr t):Tr K F H kd v t Z:=by
 unfold UE at e;split at e;rename_i ts ev;cases x:MF ts with
 |none=>rw[x]at e;cases e|some f =>
  rw[x]at e;injection e with e;subst e;cases h with
  |d r n =>
   cases r with|lst q r=>injection ev with ev;subst ev;rw[rA]at x;injection x with x;subst x;exact .lstF q r n|dct _ _ _=>exact(yI ev).elim|_=>cases ev
  |lst k w z b a=>injection ev with ev;subst ev;show Tr K F H kd _ (.lst (f.map T.d)) Z;rw[<- FM x];exact .lst k w z b a|tup=>cases ev|dct=>cases ev|lstF k w z=>injection ev with ev;subst ev;rw[rA]at x;injection x with x;subst x;exact .lstF k w z
 split at e
 ·injection e with e;subst e;exact h
 cases e
theorem AV.pass{Y:YB}{md:List Md}{vs:LV}{xs:List (T×Bool)}{W:YB}(h:AV K F H md vs xs W Y)(e:Same F l)(k:∀b,W b->l b=H b)(G:∀b,Y b->F b=kv->l b=kv) :
  ∀{g ts:LT},sA md xs g=jr ts->ArgsR K l H Y md vs ts/\MB md ts=g:=by
 induction h with
 |nil h =>
  intro g ts w;cases g with|nil=>simp only[sA,Qp]at w;subst w;exact#[.nil,rfl]|cons _ _=>simp[sA]at w
 |@chg md v vs x xs W Y h t C =>
  intro g ts w;have f:md.headD .fro=.chg:=by generalize md.headD .fro=m at h;cases m<;>first|rfl|cases h
  unfold sA at w;rw[f]at w;cases g with
  |nil=>cases w|cons o g =>
   cases a:sA md.tail xs g with|none=>simp only[a,wf]at w;cases w|some B=>simp only[a,Q9,Qp]at w;subst w;let#[s,j]:=C k G a;refine#[.chg f s,?_];unfold MB;rw[f];simp only[j]
 |@new md v vs x xs Z W J Y h r t n q C =>
  intro g ts w;have X:Tr K l H kd v (.d x.er) (λ_=>False):=.d (r.kept e λb u hb I=>by rw[k b ((q b).mpr (.inl hb))];exact I) λ_ z=>z;have i:=@C (λb hb=>k b ((q b).mpr (.inr hb))) G;unfold sA at w;cases f:md.headD .fro with
  |chg=>rw[f]at h;cases h|fro =>
   simp only[f,nA]at w;cases a:sA md.tail xs g with|none=>simp only[a,wf]at w;cases w|some B=>simp only[a,Q9,Qp]at w;subst w;let#[s,j]:=i a;exact#[.rd (by rw[f];simp) X (λ_ z=>z.elim) s,by unfold MB;rw[f];exact j]
  |shal =>
   simp only[f,nA]at w;cases A:UE (.d x.er) with
   |none=>simp only[A]at w;cases w|some u =>
    simp only[A]at w;cases a:sA md.tail xs g with|none=>simp only[a,wf]at w;cases w|some B=>simp only[a,Q9,Qp]at w;subst w;let#[s,j]:=i a;exact#[.rd (by rw[f];simp) (X.shal A) (λ_ z=>z.elim) s,by unfold MB;rw[f];exact j]
  |bor =>
   simp only[f,nA]at w;cases a:sA md.tail xs g with|none=>simp only[a,wf]at w;cases w|some B=>simp only[a,Q9,Qp]at w;subst w;let#[s,j]:=i a;exact#[.rd (by rw[f];simp) X (λ_ z=>z.elim) s,by unfold MB;rw[f];exact j]
 |@tmp md v vs x xs Z W Y h r z t C =>
  intro g ts w;have X:Tr K l H kd v x Z:=r.mono e λb hb=>#[rfl,G b (z b hb) (r.dom b hb).2]
  have i:=@C k G;unfold sA at w;cases f:md.headD .fro with
  |chg=>rw[f]at h;cases h|fro =>
   simp only[f,nA]at w;cases x with
   |d x =>
    cases a:sA md.tail xs g with|none=>simp only[a,wf]at w;cases w|some B=>simp only[a,Q9,Qp]at w;subst w;let#[s,j]:=i a;exact#[.rd (by rw[f];simp) X z s,by unfold MB;rw[f];exact j]
   |_=>cases w
  |shal =>
   simp only[f,nA]at w;cases A:UE x with
   |none=>simp only[A]at w;cases w|some u =>
    simp only[A]at w;cases a:sA md.tail xs g with|none=>simp only[a,wf]at w;cases w|some B=>simp only[a,Q9,Qp]at w;subst w;let#[s,j]:=i a;exact#[.rd (by rw[f];simp) (X.shal A) z s,by unfold MB;rw[f];exact j]
  |bor =>
   simp only[f,nA]at w;cases a:sA md.tail xs g with|none=>simp only[a,wf]at w;cases w|some B=>simp only[a,Q9,Qp]at w;subst w;let#[s,j]:=i a;exact#[.rd (by rw[f];simp) X z s,by unfold MB;rw[f];exact j]
theorem pD:∀(J:LN) (ρ:xA) (i:Nat) s,(clear J ρ)[i]?=jr (jr s)->i∉J/\ρ[i]?=jr (jr s)
 |[],ρ,i,s,h=>#[(by simp),h]|j::J,ρ,i,s,h=>by
  unfold clear at h;let#[u,z]:=pD J _ i s h;rcases gA z with⟨_,e,_⟩| ⟨n,x⟩
  cases e;exact#[λm=>(QK.mp m).elim (λe=>n e.symm) u,x]
theorem JQ:∀(J:LN) (ρ:xA),(clear J ρ).9=ρ.9
 |[],_=>rfl|j::J,ρ=>by unfold clear;rw[JQ J];simp
theorem Rl.drop(I:Rl K F H S ρ σ)(hl:y.9=ρ.9)(h:∀(i:Nat) s,y[i]?=jr (jr s)->ρ[i]?=jr (jr s)):Rl K F H S y σ :=
 #[I.fh,hl.trans I.len,λi s e=>I.sl i s (h i s e),λi j t s n z x=>I.dj i j t s n (h i _ z) (h j _ x)]
theorem TD:∀{J:LN}{ρ:xA}{x:LT},NA J ρ=jr x->x.9=J.9/\∀(i:Nat) j,J[i]?=jr j->∃t,x[i]?=jr t/\ρ[j]?=jr (jr (.own t))
 |[],ρ,x,h=>by simp only[NA,Qp]at h;subst h;exact#[rfl,λi j e=>by simp at e]|j::J,ρ,x,h=>by
  unfold NA at h;split at h;rename_i t e;cases z:NA J ρ with
  |none=>rw[z]at h;cases h|some f =>
   rw[z]at h;injection h with h;subst h;let#[w,v]:=TD z;refine#[by simp[w],λi k hk=>?_];cases i with|zero=>simp at hk;subst hk;exact#[t,rfl,e]|succ i=>let#[u,b,a]:=v i k (by simpa using hk);exact#[u,by simpa using b,a]
  cases h
theorem Rl.trs(I:Rl K F H S ρ σ):∀{J:LN}{w:LT}{vs:LV},J.Nodup->NA J ρ=jr w->vs.map (λv=>jr (jr v))=J.map (λj=>σ[j]?)->Trs K F H kf vs w (λb=>∃j∈J,S j b)
 |[],w,vs,_,h,hv=>by
  simp only[NA,Qp]at h;subst h;cases vs with|nil=>exact .nil λb #[j,m,_]=>by simp at m|cons _ _=>simp at hv
 |j::J,w,vs,nd,h,hv=>by
  unfold NA at h;split at h;rename_i t e;cases a:NA J ρ with
  |none=>rw[a]at h;cases h|some r =>
   rw[a]at h;injection h with h;subst h;cases vs with
   |nil=>simp at hv|cons v vs =>
    simp only[QU,Wc]at hv;let#[f,q,o]:=I.sl j _ e;rw[q]at hv;have:v=f:=by simpa using hv.1
    subst this;have x:=Qj.mp nd;refine .cons o (Rl.trs I x.2 a hv.2) (λb hb #[k,hk,z]=>?_) λb=>?_;let#[i,n]:=Ww.mp hk;let#[u,_,g]:=(TD a).2 i k n;exact I.dj j k t _ (λz=>x.1 (z▸hk)) e g b hb z;constructor
    ·rintro⟨k,hk,z⟩
     rcases QK.mp hk with e|e;subst e;exact .inl z;exact .inr #[k,e,z]
    rintro(z|⟨k,hk,z⟩)
    ·exact#[j,QE,z]
    exact#[k,QF _ hk,z]
  cases h
theorem Rl.setO(I:Rl K F H S ρ σ)(i:Nat){v:V}{t:T}{Z:YB}(hv:σ[i]?=jr (jr v))(r:Tr K F H kf v t Z)(w:∀(j:Nat) s,j≠i->ρ[j]?=jr (jr s)->∀b,Z b->¬ S j b):Rl K F H (zI S i Z) (ρ.set i (jr (.own t))) σ where
 fh:=I.fh
 len:=by simpa using I.len
 sl:=λj s h=>by
  rcases gA h with⟨rfl,e,hl⟩| ⟨g,h⟩
  cases e;exact#[v,hv,by rw[yB];exact r];rw[VA (qC g)];exact I.sl j s h
 dj:=λj k a s n u x b hb hk=>by
  rcases gA u with⟨e,_,_⟩| ⟨f,u⟩
  subst e;rw[yB]at hb;rcases gA x with⟨e,_,_⟩| ⟨z,x⟩
  exact n e;rw[VA (qC z)]at hk;exact w k s (qC z) x b hb hk;rw[VA (qC f)]at hb;rcases gA x with⟨e,_,_⟩| ⟨z,x⟩
  subst e;rw[yB]at hk;exact w j _ n u b hk hb;rw[VA (qC z)]at hk;exact I.dj j k a s n u x b hb hk
theorem xN:∀{J:LN}{w:LT}{vs:LV}{M:YB}{S1:Ft}{y x:xA},J.Nodup->Rl K F H S1 y σ->Trs K F H kf vs w M->vs.map (λv=>jr (jr v))=J.map (λj=>σ[j]?)->Held F H S1 y M->uC J w y=jr x ->
  ∃f,Rl K F H f x σ/\(∀i,i∉J->x[i]?=y[i]?/\f i=S1 i)/\∀i∈J,∀s,x[i]?=jr (jr s)->(∃t,s=.own t)/\∀b,f i b->M b
 |[],w,vs,M,S1,y,x,nd,I,r,hv,hm,h=>by
  cases w with|nil=>simp only[uC,Qp]at h;subst h;exact#[S1,I,λ_ _=>#[rfl,rfl],λi u=>by simp at u]|cons _ _=>simp[uC]at h
 |j::J,w,vs,M,S1,y,x,nd,I,r,hv,hm,h=>by
  cases r with
  |nil _=>simp[uC]at h|@cons _ v t vs ts _ Z Q G C n q =>
   simp only[uC]at h;simp only[QU,Wc]at hv;have a:=Qj.mp nd;have R:=I.setO j hv.1.symm G λk s _ hk b hb=>hm.nw k s hk b ((q b).mpr (.inl hb));have W:Held F H (zI S1 j Z) (y.set j (jr (.own t))) Q:=#[λb hb=>hm.dom b ((q b).mpr (.inr hb)),λi s u b hb z=>by
    rcases gA u with⟨rfl,_,_⟩| ⟨X,u⟩
    rw[yB]at z;exact n b z hb;rw[VA (qC X)]at z;exact hm.nw i s u b ((q b).mpr (.inr hb)) z]
   let#[f,P,B,O]:=xN a.2 R C hv.2 W h;refine#[f,P,λi u=>?_,λi u s Y=>?_];have A:j≠i:=λe=>u (e▸QE);let#[o,g]:=B i λm=>u (QF _ m);rw[bE A]at o;rw[VA (qC A)]at g;exact#[o,g];rcases QK.mp u with e|e
   ·subst e
    let#[o,g]:=B i a.1;rw[o]at Y;rcases gA Y with⟨_,e,_⟩| ⟨X,_⟩
    injection e with e;refine#[#[t,e],λb hb=>?_];rw[g,yB]at hb;exact(q b).mpr (.inl hb);exact i3 rfl X
   let#[N,L]:=O i e s Y;exact#[N,λb hb=>(q b).mpr (.inr (L b hb))]
theorem fg{f:Str}{as:PX}(g:GOk K Γ Ψ)(ia:PSnd K Γ Ψ as)(I:Rl K F H S ρ σ)(X:HF K F H S ρ E p){Q:TK}{R:VK}{ws:LN}(h:(pe Ψ (.call f as) E).e ρ Q)(k:cB K ws F H S ρ σ Q R):(wp K Γ (.call f as) p).e σ H R:=by
 let#[os,ho,nd,h]:=h;generalize hJ:cA (Ψ.sp f).md as=J at ho nd h;have C:∀j∈J,∃t,ρ[j]?=jr (jr (.own t)):=λj A=>by let#[i,hi]:=Ww.mp A;let#[t,_,e]:=(TD ho).2 i j hi;exact#[t,e]
 have I0:Rl K F H S (clear J ρ) σ:=I.drop (JQ J ρ) λi s e=>(pD J ρ i s e).2;have P:∀b,U (clear J ρ) S b->U ρ S b:=λb #[i,t,h1,O]=>#[i,t,(pD J ρ i _ h1).2,O]
 have X0:HF K F H S (clear J ρ) E p:=λx dx F2 H2 S2 L m ff r q=>X x dx F2 H2 (λ_ _=>False) [] #[m.ff,λb u e n=>m.hh b u e λz=>n (P b z),m.dm,λb e z=>(m.fn b e z).imp (P b) id,λb #[i,t,e,_]=>by simp at e,λj t e=>by simp at e] ff r q;have hm:∀j∈cA (Ψ.sp f).md as,∃v,σ[j]?=jr (jr v):=λj A=>by let#[t,e]:=C j (hJ▸A);let#[v,h1,_]:=I.sl j _ e;exact#[v,h1]
 show(wp K Γ as p).a σ H λvs c=>Γ.sp f vs c R p;refine ia.a I0 X0 hm h λvs l c S1 y xs W Y s1 I1 r1 mv q1=>?_;rw[hJ]at mv;let#[ts,hp,q1]:=q1;have hw:=r1.held;have m:=s1.frz (λb hb=>(hw.dom b hb).2) r1.fr;have I2:=I1.frz hw;have yk:∀b,Y b->l b=kv->XJ l c W b=none:=λb hy hf=>by let#[i,sl,_,O,h3]:=r1.tm b hy;rw[rC λz=>r1.nw i sl O b z h3];exact hf
 let#[ar,mt]:=r1.av.pass (rH λb hb=>(hw.dom b hb).2) (λb hb=>VJ hb) yk hp;generalize XJ l c W=F2 at m I2 yk ar;have M0:=I.trs nd ho mv;have hM:Held F H S (clear J ρ) (λb=>∃j∈J,S j b):=#[λb #[j,A,hb]=>let#[t,e]:=C j A;I.dom e hb,λi s e b #[j,A,hb] z=>by let#[G,B]:=pD J ρ i s e;let#[t,et]:=C j A;exact I.dj j i t s (λq=>G (q▸A)) et B b hb z]
 have N:=hM.step m.toStp I2;have M2:Trs K F2 c kf (JB (Ψ.sp f).md vs) (MB (Ψ.sp f).md ts) (λb=>∃j∈J,S j b):=by
  rw[mt];refine M0.mono m.ff λb hb=>?_;refine#[?_,(N.dom b hb).2];cases e:H b with|none=>exact i3 e (hM.dom b hb).1|some u=>exact m.hh b u e (hM.nu b hb)
 refine g.sp f vs c R p #[F2,ts,_,Y,I2.fh,ar,M2,λb hy hb=>?_,?_];let#[i,sl,_,O,h3]:=r1.tm b hy;exact N.nw i sl O b hb h3
 ·have up:∀b,(∃j∈J,S j b)->U ρ S b:=λb #[j,A,hb]=>let#[t,e]:=C j A;#[j,t,e,hb]
  have lk:∀b,(∃j∈J,S j b)∨c b=kv->U ρ S b∨H b=none:=λb hb=>hb.imp (up b) (m.dm b);refine(Ψ.sp f).mono ?_ ?_ q1
  rotate_left
  rintro x qx dx F' H' o xr;refine X x dx F' H' (λ_ _=>False) [] #[m.ff.trans o.ff,λb u e n=>o.hh b u (m.hh b u e λz=>n (P b z)) λz=>n (up b z),λb e=>m.dm b (o.dm b e),λb e z=>?_,λb #[i,t,e,_]=>by simp at e,λj t e=>by simp at e] o.fh xr qx;by_cases q:F2 b=kv;exact lk b (o.fn b q z);exact(m.fn b e q).imp (P b) id;rintro r os' ⟨L,hput,q⟩ v F' H' Z M' o tr trs dz hf;have I3:Rl K F' H' S1 y σ:=#[o.fh,I2.len,λi s e=>by
   let#[w,g1,g2]:=I2.sl i s e;refine#[w,g1,g2.mono o.ff λb hb=>?_];let#[d1,d2]:=g2.dom b hb;have nM:¬ ∃j∈J,S j b:=λz=>N.nw i s e b z hb;refine#[?_,?_];cases e:c b with|none=>exact i3 e d1|some u=>exact o.hh b u e nM
   by_cases z:F' b=kv
   ·exact z
   exact((o.fn b d2 z).elim nM d1).elim,I2.dj]
  have nw3:∀b,(∃j∈J,S j b)∨c b=kv->∀(i:Nat) s,y[i]?=jr (jr s)->¬ S1 i b:=λb hb i s e z=>by rcases hb with hb|hb;exact N.nw i s e b hb z;exact(I2.dom e z).1 hb
  have hM':Held F' H' S1 y M':=#[trs.dom,λi s e b hb=>nw3 b (hf b (.inr hb)) i s e]
  let#[S2,I4,g2,g3]:=xN nd I3 trs mv hM' hput;have M:∀i s,L[i]?=jr (jr s)->(i∈J/\(∃t,s=.own t)/\∀b,S2 i b->M' b)∨(i∉J/\y[i]?=jr (jr s)/\S2 i=S1 i):=λi s e=>by by_cases hi:i∈J;exact .inl #[hi,g3 i hi s e];let#[G,B]:=g2 i hi;exact .inr #[hi,G▸e,B]
  have st:Ste F H S ρ F' H' S2 L:=#[#[m.ff.trans o.ff,λb u e n=>o.hh b u (m.hh b u e λz=>n (P b z)) λz=>n (up b z),λb e=>m.dm b (o.dm b e),λb e z=>by
    by_cases q:F2 b=kv;exact lk b (o.fn b q z);exact(m.fn b e q).imp (P b) id,
   λb #[i,t,h1,O]=>by
    rcases M i _ h1 with⟨_,_,e⟩| ⟨_,G,B⟩
    exact lk b (hf b (.inr (e b O)));rw[B]at O;exact(m.uu b #[i,t,G,O]).imp (P b) id,
   λj t e hd=>by
    rcases M j _ e with⟨_,⟨t',z⟩,_⟩| ⟨_,G,B⟩
    cases z;let#[b1,b2]:=m.bo j t G hd;exact#[(pD J ρ j _ b1).2,B.trans b2]],
   λj t e=>by
    rcases M j _ e with⟨A,_,_⟩| ⟨_,G,B⟩
    exact C j A;let#[t0,e0]:=m.ow j t G;exact#[t0,(pD J ρ j _ e0).2]]
  refine k v F' H' S2 L r kf Z st I4 #[tr,λ_ b hb=>?_,λz=>(by cases z),λ_ i s e b hb z=>?_] q;exact(lk b (hf b (.inl hb))).symm;rcases M i s e with⟨_,_,B⟩| ⟨_,G,B⟩
  ·exact dz b hb (B b z)
  rw[B]at z;exact nw3 b (hf b (.inl hb)) i s G z
end
section
variable{K:QC}{Γ:Ev}{Ψ:PEv}{E:XE}{O:XK}{F H F1 H1:Hp}{S S1:Ft}{ρ Q:xA}{σ:St}
section
variable{j i:Nat}{t s:T}{b:Bool}{G C:Hp}{B:Ft}{Y:xA}{W P Z:YB}{vs L:LV}{ts us:LT}{a:ko}{M o:HO}{v A J:V}{x y:D}{ks:List D}{R:Hp->Prop}{N:T->Prop}
theorem bC(z:ρ[j]?=jr (jr (.own t))){s:Sl}(h:(ρ.set j (jr (.bor t)))[i]?=jr (jr s)):(i=j/\s=.bor t)∨(i≠j/\ρ[i]?=jr (jr s)):=by
 rcases gA h with⟨rfl,e,_⟩| ⟨n,h⟩
 injection e with e;exact .inl #[rfl,e];exact .inr #[qC n,h]
theorem Rl.lock1(I:Rl K F H S ρ σ)(h:ρ[j]?=jr (jr (.own t))):Rl K F H S (ρ.set j (jr (.bor t))) σ where
 fh:=I.fh
 len:=by simpa using I.len
 sl:=λi s e=>by
  rcases bC h e with⟨rfl,rfl⟩| ⟨_,e⟩
  let#[v,g,f]:=I.sl i _ h;exact#[v,g,f.weak];exact I.sl i s e
 dj:=λi k u s n p m=>by
  rcases bC h p with⟨_,z⟩| ⟨r,w⟩
  cases z;rcases bC h m with⟨q,_⟩| ⟨_,l⟩
  ·exact I.dj i k u _ n w (q▸h)
  exact I.dj i k u s n w l
theorem Rl.lock1U(I:Rl K F H S ρ σ)(w:ρ[j]?=jr (jr (.own t)))(b:ko)(hb:S j b):¬ U (ρ.set j (jr (.bor t))) S b:=λ#[i,u,h,k]=>by
 rcases bC w h with⟨_,z⟩| ⟨n,h⟩
 cases z;exact I.dj i j u _ n h w b k hb
theorem lock1U(k:ρ[j]?=jr (jr (.own t))){b:ko}(h:U (ρ.set j (jr (.bor t))) S b):U ρ S b:=by
 let#[i,u,w,e]:=h;rcases bC k w with⟨_,z⟩| ⟨n,w⟩
 cases z;exact#[i,u,w,e]
theorem HF.lock1(X:HF K F H S ρ E O)(w:ρ[j]?=jr (jr (.own t))):HF K F H S (ρ.set j (jr (.bor t))) E O:=λx k G C B Y h f r q =>
 X x k G C (λ_ _=>False) [] #[h.ff,λb u e n=>h.hh b u e λz=>n (lock1U w z),h.dm,λb e z=>(h.fn b e z).imp (lock1U w) id,λb #[i,t,e,_]=>by simp at e,λj t e=>by simp at e] f r q
theorem uV(I:Rl K F H S ρ σ)(h:ρ[j]?=jr (jr (.own t)))(s:Ste F H S (ρ.set j (jr (.bor t))) G C B Y)(l:Rl K G C B Y σ){b:ko}(hb:S j b) :
  ∀(i:Nat) w,i≠j->Y[i]?=jr (jr w)->¬ B i b:=λi w n e z=>by
 cases w with
 |own u=>rcases s.uu b ⟨i,u,e,z⟩ with q|q;exact I.lock1U h b hb q;exact(I.dom h hb).1 q
 |bor u =>
  cases f:u.isD with
  |true=>exact l.isD e f z|false =>
   let#[k,g]:=s.bo i u e f;rw[g]at z;rcases bC h k with⟨q,_⟩| ⟨_,k⟩
   exact n q;exact I.dj j i t _ (qC n) h k b hb z
theorem vJ{t':T}{v0:V}{m:Hp}{Z':YB}(I:Rl K F H S ρ σ)(w:ρ[j]?=jr (jr (.own t)))(hv:σ[j]?=jr (jr v0))(s:Ste F H S (ρ.set j (jr (.bor t))) G C B Y)(l:Rl K G C B Y σ)
  (hH:∀b u,C b=jr u->¬ S j b->m b=jr u) (dm:∀b,m b=kv->C b=kv) (r:Tr K G m kf v0 t' Z') (hz:∀b,Z' b->S j b∨W b∨C b=kv) (hw:Held G C B Y W) (frW:∀b,W b->H b=kv∨U (ρ.set j (jr (.bor t))) S b) :
  Ste F H S ρ G m (zI B j Z') (Y.set j (jr (.own t')))/\Rl K G m (zI B j Z') (Y.set j (jr (.own t'))) σ/\∀b,S j b∨W b∨C b=kv->∀(i:Nat) h,i≠j->Y[i]?=jr (jr h)->¬ B i b:=by
 have nw:∀b,S j b∨W b∨C b=kv->∀(i:Nat) h,i≠j->Y[i]?=jr (jr h)->¬ B i b:=λb hb i h n e z=>by rcases hb with hb|hb|hb;exact uV I w s l hb i h n e z;exact hw.nw i h e b hb z;exact(l.dom e z).1 hb
 have uj:∀b,S j b->U ρ S b:=λb hb=>#[j,t,w,hb]
 have lk:∀b,S j b∨W b∨C b=kv->U ρ S b∨H b=none:=λb hb=>by rcases hb with hb|hb|hb;exact .inl (uj b hb);exact(frW b hb).symm.imp (lock1U w) id;exact .inr (s.dm b hb)
 have fS:∀b,S j b->G b=none:=λb hb=>by
  by_cases q:G b=kv;exact q;rcases s.fn b (I.dom w hb).2 q with z|z
  ·exact i3 z (I.lock1U w b hb)
  exact i3 z (I.dom w hb).1
 have fh:Same G m:=λb u e=>hH b u (l.fh b u e) λz=>by rw[fS b z]at e;cases e
 have I3:Rl K G m B (Y.set j kv) σ:=#[fh,by simpa using l.len,λi h e=>by
   rcases gA e with⟨_,z,_⟩| ⟨n,e⟩
   cases z;let#[v,p,f]:=l.sl i h e;refine#[v,p,f.mono (.refl _) λb hb=>#[?_,(f.dom b hb).2]];cases eb:C b with|none=>exact i3 eb (f.dom b hb).1|some u=>exact hH b u eb λz=>uV I w s l z i h (qC n) e hb,
  λi k u h n g X=>by
   rcases gA g with⟨_,z,_⟩| ⟨_,g⟩
   cases z;rcases gA X with⟨_,z,_⟩| ⟨_,X⟩
   ·cases z
   exact l.dj i k u h n g X]
 have I4:=I3.setO j hv r λi h n e b hb=>by
  rcases gA e with⟨_,z,_⟩| ⟨_,e⟩
  cases z;exact nw b (hz b hb) i h n e
 have es:(Y.set j kv).set j (jr (.own t'))=Y.set j (jr (.own t')):=by simp
 rw[es]at I4;refine#[#[#[s.ff,λb u e n=>hH b u (s.hh b u e λz=>n (lock1U w z)) λz=>n (uj b z),λb e=>s.dm b (dm b e),λb e z=>(s.fn b e z).imp (lock1U w) id,λb #[i,u,p,f]=>?_,λi u e hd=>?_],λi u e=>?_],I4,nw];rcases gA p with⟨rfl,_,_⟩| ⟨n,p⟩
 ·rw[yB]at f
  exact lk b (hz b f)
 rw[VA (qC n)]at f;exact(s.uu b #[i,u,p,f]).imp (lock1U w) id;rcases gA e with⟨rfl,z,_⟩| ⟨n,e⟩
 ·cases z
 let#[g,X]:=s.bo i u e hd;rcases bC w g with⟨z,_⟩| ⟨_,g⟩
 exact i3 z.symm n;exact#[g,by rw[VA (qC n)];exact X];rcases gA e with⟨rfl,_,_⟩| ⟨n,e⟩
 ·exact#[t,w]
 let#[t0,e0]:=s.ow i u e;rcases bC w e0 with⟨_,z⟩| ⟨_,e0⟩
 cases z;exact#[t0,e0]
theorem Trs.erase{st:Bool}{S:YB}{k:Nat}(h:Trs K F H st vs ts S)(e:ts[k]?=jr t):∃v P1 u,vs[k]?=jr v/\Tr K F H st v t P1/\Trs K F H st (vs.eraseIdx k) (ts.eraseIdx k) u/\(∀b,P1 b->¬ u b)/\∀b,P1 b∨u b->S b:=by
 revert k;refine Trs.ind (R:=λst vs ts S=>∀{k:Nat},ts[k]?=jr t->∃v P1 u,vs[k]?=jr v/\Tr K F H st v t P1/\Trs K F H st (vs.eraseIdx k) (ts.eraseIdx k) u/\(∀b,P1 b->¬ u b)/\∀b,P1 b∨u b->S b) (λn k e=>by cases e) (λ{_ _ _ _ _ _ r _} h t n q f k e=>?_) h;cases k with|zero=>cases e;exact#[_,_,_,rfl,h,t,n,λb hb=>(q b).mpr hb]|succ k=>let#[v,P1,u,p,m,l,g,w]:=f (k:=k) e;refine#[v,P1,λb=>r b∨u b,p,m,.cons h l (λb hb z=>n b hb (w b (.inr z))) λb=>WF,λb hb z=>z.elim (λz=>n b z (w b (.inl hb))) (g b hb),λb hb=>(q b).mpr ?_];rcases hb with hb|hb|hb;exact .inr (w b (.inl hb));exact .inl hb;exact .inr (w b (.inr hb))
theorem sJ{α:Type}:∀{l:List α}{k:α},l.Nodup->¬ k∈l->(l++[k]).Nodup
 |[],k,_,_=>by simp|a::r,k,h,hk=>by let#[u,z]:=Qj.mp h;show(a::(r++[k])).Nodup;refine Qj.mpr #[λm=>?_,sJ z λm=>hk (QK.mpr (Or.inr m))];rcases Qf.mp m with q|q;exact u q;exact hk (QK.mpr (Or.inl (QI.mp q).symm))
theorem tM(h:F a=kv)(r:Trs K F H kf L us P)(n:¬ P a):Tr K F (FA H a (.lst L)) kf (.ref a) (.lst us) λb=>b=a∨P b :=
 .lst (S':=P) ZA h (r.mono (.refl _) λb hb=>#[uA λz=>n (z▸hb),(r.dom b hb).2]) n λb=>WF
theorem mD(w:Z a)(b:ko)(u:HO)(e:H b=jr u)(hb:¬ Z b):FA H a M b=jr u:=by have h:b≠a:=λz=>hb (by rw[z];exact w);rw[uA h];exact e
theorem HB(b:ko)(e:FA H a M b=kv):H b=none:=by by_cases hb:b=a;rw[hb,ZA]at e;cases e;rw[uA hb]at e;exact e
theorem bf{m:Mt}{N:T->T->Prop}{R:VK}(f:Same F H)(r:Tr K F H kf v s Z)(rv:Trs K F H kf vs ts W)(dj:∀b,Z b->¬ W b)(h:zM m s ts N)
  (k:∀w r s' H' S1 Zr,(∀b u,H b=jr u->¬ Z b->H' b=jr u)->(∀b,H' b=kv->H b=kv)->Tr K F H' kf v s' S1->Tr K F H' kf w r Zr->(∀b,Zr b->¬ S1 b)->(∀b,S1 b∨Zr b->Z b∨W b∨H b=kv)->N r s'->R w H'):mf K m v vs H R:=by
 cases m with
 |append =>
  let#[us0,t0,rfl,rfl,h]:=h;cases r with
  |@lst _ a xs _ _ S' h1 h2 l X e =>
   have g:Z a:=(e a).mpr (.inl rfl);cases rv with
   |@cons _ w t ws us _ W1 W2 p r2 n q =>
    cases r2 with
    |nil n2 =>
     have hW:∀b,W b↔W1 b:=λb=>by rw[q b];simp[n2 b]
     refine#[a,xs,w,rfl,rfl,h1,by rw[l.9];exact h.1,k .non (.d .none) _ _ _ (λ_=>False) (mD g) HB (tM h2 (Trs.append l (Trs.one p) λb hb hw=>dj b ((e b).mpr (.inr hb)) ((hW b).mpr hw)) λz=>z.elim X λz=>dj a g ((hW a).mpr z)) (.d .non λ_ z=>z) (λ_ z=>z.elim) (λb hb=>?_) h.2];rcases hb with(hb|hb|hb)|hb;exact .inl (hb▸g);exact .inl ((e b).mpr (.inr hb));exact .inr (.inl ((hW b).mpr hb));exact hb.elim
 |extend =>
  let#[us0,vs0,rfl,rfl,h]:=h;cases r with
  |@lst _ a xs _ _ S' h1 h2 l X e =>
   have g:Z a:=(e a).mpr (.inl rfl);cases rv with
   |@cons _ w t ws us _ W1 W2 p r2 n q =>
    cases r2 with
    |nil n2 =>
     have hW:∀b,W b↔W1 b:=λb=>by rw[q b];simp[n2 b]
     cases p with|@lst _ c zs _ _ B g1 g2 g3 g4 I=>have dw:∀b,B b->W b:=λb hb=>(hW b).mpr ((I b).mpr (.inr hb));refine#[a,c,xs,zs,rfl,rfl,h1,g1,by rw[l.9,g3.9];exact h.1,k .non (.d .none) _ _ _ (λ_=>False) (mD g) HB (tM h2 (Trs.append l g3 λb hb hw=>dj b ((e b).mpr (.inr hb)) (dw b hw)) λz=>z.elim X λz=>dj a g (dw a z)) (.d .non λ_ z=>z) (λ_ z=>z.elim) (λb hb=>?_) h.2];rcases hb with(hb|hb|hb)|hb;exact .inl (hb▸g);exact .inl ((e b).mpr (.inr hb));exact .inr (.inl (dw b hb));exact hb.elim
 |pop =>
  let#[us0,i,j,t0,rfl,rfl,hi,ht,q]:=h;cases r with
  |@lst _ a xs _ _ S' h1 h2 l X e =>
   have g:Z a:=(e a).mpr (.inl rfl);let#[w,P1,P2,g1,g2,g3,g4,I]:=l.erase ht;have na:¬ P1 a:=λz=>X (I a (.inl z));have nb:¬ P2 a:=λz=>X (I a (.inr z));cases rv with
   |cons p r2 n q2 =>
    cases r2;cases p with
    |d p n1 =>
     cases p;refine#[a,i,xs,j,w,rfl,rfl,h1,by rw[l.9];exact hi,g1,k w t0 _ _ _ P1 (mD g) HB (tM h2 g3 nb) (g2.mono (.refl _) λb hb=>#[uA λz=>na (z▸hb),(g2.dom b hb).2]) (λb hb z=>?_) (λb hb=>?_) q];rcases z with z|z
     ·exact na (z▸hb)
     exact g4 b hb z;rcases hb with(hb|hb)|hb
     ·exact .inl (hb▸g)
     exact .inl ((e b).mpr (.inr (I b (.inr hb))));exact .inl ((e b).mpr (.inr (I b (.inl hb))))
 |_=>exact h.elim
theorem Trs.setD(w:Rep K F A x){S:YB}(n:Nat)(h:Trs K F H kf vs ts S):∃P,Trs K F H kf (vs.set n A) (ts.set n (.d x)) P/\∀b,P b->S b:=by
 revert n;refine Trs.ind (R:=λst vs ts S=>∀n:Nat,∃P,Trs K F H st (vs.set n A) (ts.set n (.d x)) P/\∀b,P b->S b) (λ{_ S} z n=>#[S,.nil z,λ_ h=>h]) (λ{_ _ _ _ _ _ S1 B} h t m q k n=>?_) h;cases n with|zero=>exact#[B,.cons (S1:=λ_=>False) (.d w λ_ z=>z) t (λ_ z=>z.elim) λb=>by simp,λb hb=>(q b).mpr (.inr hb)]|succ n=>let#[P,e,u]:=k n;exact#[λb=>S1 b∨P b,.cons h e (λb hb z=>m b hb (u b z)) λb=>WF,λb hb=>(q b).mpr (hb.imp id (u b))]
theorem Trs.part{S:YB}(h:Trs K F H kf vs ts S)(e:ts[i]?=jr t):∃v S1,vs[i]?=jr v/\Tr K F H kf v t S1/\(∀b,S1 b->S b) /\
  ∀(w:Hp) t' u,(∀b,S b->¬ S1 b->w b=H b)->Tr K F w kf v t' u->(∀b,u b->S1 b)->∃P,Trs K F w kf vs (ts.set i t') P/\∀b,P b->S b:=by
 revert i;refine Trs.ind (R:=λst vs ts S=>∀{i:Nat},ts[i]?=jr t->∃v S1,vs[i]?=jr v/\Tr K F H st v t S1/\(∀b,S1 b->S b)/\∀(w:Hp) t' u,(∀b,S b->¬ S1 b->w b=H b)->Tr K F w st v t' u->(∀b,u b->S1 b)->∃P,Trs K F w st vs (ts.set i t') P/\∀b,P b->S b) (λn i e=>by cases e) (λ{_ _ _ _ _ _ m P2} h t n q p i e=>?_) h;cases i with|zero=>cases e;exact#[_,m,rfl,h,λb hb=>(q b).mpr (.inl hb),λw t' u k r f=>#[λb=>u b∨P2 b,.cons r (t.mono (.refl _) λb hb=>#[k b ((q b).mpr (.inr hb)) λz=>n b z hb,(t.dom b hb).2]) (λb hb z=>n b (f b hb) z) λb=>WF,λb hb=>(q b).mpr (hb.imp (f b) id)]]|succ i=>let#[v,S1,h1,h2,g,I]:=p (i:=i) e;refine#[v,S1,h1,h2,λb hb=>(q b).mpr (.inr (g b hb)),λw t' u k r f=>?_];let#[P,g1,l]:=I w t' u (λb hb X=>k b ((q b).mpr (.inr hb)) X) r f;exact#[λb=>m b∨P b,.cons (h.mono (.refl _) λb hb=>#[k b ((q b).mpr (.inl hb)) λz=>n b hb (g b z),(h.dom b hb).2]) g1 (λb hb z=>n b hb (l b z)) λb=>WF,λb hb=>(q b).mpr (hb.imp id (l b))]
def Tw(ks:List D)(k:D):List D:=match dA ks k with
 |some _=>ks|none=>ks++[k]
def Lw{α:Type}(ks:List D)(vs:List α)(k:D)(x:α):List α:=match dA ks k with
 |some n=>vs.set n x|none=>vs++[x]
theorem UR{α h:Type}[DecidableEq α](k:α)(key:h->α)(f:h->h)(hf:∀p,key (f p)=key p):∀(l:List h) (n:Nat),(l.map key).Nodup->(l.map key)[n]?=jr k->(∀(g:h->V) (x:V),(∀p,key p=k->g (f p)=x)->(l.map λp=>if key p=k then f p else p).map g=(l.map g).set n x)
 |[],n,_,e=>by simp at e|p::r,0,nd,e=>by
  intro g x w;have e:key p=k:=by simpa using e
  rw[QU]at nd;let#[u,m]:=Qj.mp nd;have e2:(r.map λp=>if key p=k then f p else p)=r:=by rw[show r=r.map id from(QCi r).symm,QR];refine wN λq I=>?_;have:key q≠k:=λz=>u (QO.mpr #[q,by simpa using I,z.trans e.symm]);simp[this]
  rw[QU,e2,QU,QU,i0 e,w p e];rfl
 |p::r,n+1,nd,e=>by
  intro g x w;rw[QU]at nd;let#[u,m]:=Qj.mp nd;have e:(r.map key)[n]?=jr k:=by simpa using e
  have X:¬ key p=k:=λz=>u (by rw[z];exact qN e);rw[QU,QU,QU,ii X,UR k key f hf r n m e g x w];rfl
theorem put_keys{α h z:Type}[DecidableEq α](k:α)(key:h->α)(f:h->h)(g:h->z)(u:∀p,g (f p)=g p)(l:List h):(l.map λp=>if key p=k then f p else p).map g=l.map g:=by rw[QR];refine wN λp _=>?_;show g (if key p=k then f p else p)=g p;split;exact u p;rfl
theorem DI.put{k:D}(f:Same F H)(ha:H a=jr o)(dk:DI K F b o ks vs)(ry:Rep K F J k)(hk:YD b k)(hl:ks.9<kn)
  (kk:∀o',DI K F b o' (Tw ks k) (Lw ks vs k A)->R (FA H a o')):gU K (.ref a) J A H R:=by
 cases b with
 |true =>
  let#[ep,u,rfl,rfl,rfl,h4,X]:=dk;cases rS hk ry with
  |intro q h =>
   let#[p,rfl,rfl,hq]:=h;refine#[ep,u,q,ha,λp hp=>f.key (h4 p hp),f.key hq,by simpa using hl,λI=>kk _ ?_];have w:=zH q u;unfold vN Tw Lw;cases e:dA (u.map λp=>tD p.1) (tD q) with
   |none =>
    rw[e]at w;have w:JH u q=none:=w;rw[w];refine#[I,u++[(q,p,A)],rfl,by simp,by simp,λx l=>?_,?_];rcases Qf.mp l with l|l
    ·exact h4 x l
    rw[QI.mp l];exact hq;rw[QT];refine sJ X λm=>SA.mp e ?_;let#[x,l,ex]:=QO.mp m;exact QO.mpr #[x,l,by rw[ex]]
   |some n =>
    rw[e]at w;have g:=aC e;have r:(u.map (·.1))[n]?=jr q:=by
     rw[Qc]at g ⊢;cases en:u[n]? with|none=>rw[en]at g;cases g|some x=>rw[en]at g;rw[Q9,Qp]at g ⊢;exact yX g
    have hs:(JH u q).isSome=true:=by
     rw[w];have:n<u.length:=by have:=(Qh.mp r).1;simpa using this
     simp[this]
    rw[i0 hs];refine#[I,_,rfl,(put_keys q (·.1) (λp=>(p.1,p.2.1,A)) (λp=>tD p.1) (λ_=>rfl) u).symm,(UR q (·.1) (λp=>(p.1,p.2.1,A)) (λ_=>rfl) u n X r (·.2.2) A λ_ _=>rfl).symm,λx l=>?_,?_];let#[y,hy,ey]:=QO.mp l;have hy:=h4 y hy;by_cases z:y.1=q;rw[i0 z]at ey;subst ey;exact hy;rw[ii z]at ey;subst ey;exact hy;have:=put_keys q (·.1) (λp:KE=>(p.1,p.2.1,A)) (·.1) (λ_=>rfl) u;rw[this];exact X
 |false =>
  let#[z,rfl]:=hk;cases ry;rcases dk with⟨u,hne,rfl,rfl,rfl,X⟩| ⟨ep,rfl,rfl,rfl⟩
  rotate_left
  exact .inr #[ep,ha,kk _ (.inl #[[(.inr z,A)],by simp,rfl,rfl,rfl,by simp])];refine .inl #[u,ha,by simpa using hl,kk _ (.inl ?_)];have w:=cK (.inr z) u;have ez:kD (.inr z)=.str z:=rfl;rw[ez]at w;unfold oX Tw Lw;rw[RT];cases e:dA (u.map λp=>kD p.1) (.str z) with
  |none=>rw[e]at w;have w:BM u (.inr z)=none:=w;rw[w];refine#[u++[(.inr z,A)],by simp,rfl,by simp[ez],by simp,?_];rw[QT];refine sJ X λm=>SA.mp e ?_;let#[x,l,ex]:=QO.mp m;exact QO.mpr #[x,l,by rw[ex];rfl]|some n =>
   rw[e]at w;have g:=aC e;have r:(u.map (·.1))[n]?=jr (.inr z):=by
    rw[Qc]at g ⊢;cases en:u[n]? with|none=>rw[en]at g;cases g|some x=>rw[en]at g;rw[Q9,Qp]at g ⊢;exact E9 g
   have hs:(BM u (.inr z)).isSome=true:=by
    rw[w];have:n<u.length:=by have:=(Qh.mp r).1;simpa using this
    simp[this]
   rw[i0 hs];refine#[_,by simpa using hne,rfl,(put_keys (.inr z) (·.1) (λp=>(p.1,A)) (λp=>kD p.1) (λ_=>rfl) u).symm,(UR (.inr z) (·.1) (λp=>(p.1,A)) (λ_=>rfl) u n X r (·.2) A λ_ _=>rfl).symm,?_];have:=put_keys (.inr z) (·.1) (λp:Key×V=>(p.1,A)) (·.1) (λ_=>rfl) u;rw[this];exact X
theorem SS(h:F a=kv)(u:DI K F b o ks L)(r:Trs K F H kf L us P)(n:¬ P a):Tr K F (FA H a o) kf (.ref a) (.dct b ks us) λb=>b=a∨P b :=
 .dct (S':=P) ZA u h (r.mono (.refl _) λb hb=>#[uA λz=>n (z▸hb),(r.dom b hb).2]) n λb=>WF
theorem f7(f:Same F H)(r:Tr K F H kf v s Z)(ry:Rep K F J y)(rx:Rep K F A x)(h:Js s y x N)
  (k:∀s' H' S1,(∀b u,H b=jr u->¬ Z b->H' b=jr u)->(∀b,H' b=kv->H b=kv)->Tr K F H' kf v s' S1->(∀b,S1 b->Z b)->N s'->R H'):gU K v J A H R:=by
 cases s with
 |lst ts =>
  cases y with
  |int i =>
   let#[n,hn,q]:=h;cases ry;cases r with|@lst _ a xs _ _ S' h1 h2 m I l=>have g:Z a:=(l a).mpr (.inl rfl);let#[P,X,p]:=m.setD rx n;refine#[xs,n,h1,by rw[m.9];exact hn,k _ _ _ (mD g) HB (tM h2 X λz=>I (p a z)) (λb hb=>?_) q];rcases hb with hb|hb;exact hb▸g;exact(l b).mpr (.inr (p b hb))
  |_=>exact h.elim
 |dct b ks ts =>
  let#[hk,hl,q]:=h;cases r with
  |@dct _ _ a o _ vs _ _ S' h1 dk h2 m I l =>
   have g:Z a:=(l a).mpr (.inl rfl);refine dk.put f h1 ry hk hl λo' w=>?_;unfold Tw Lw at w;unfold rK at q;cases e:dA ks y with
   |some n=>rw[e]at w q;let#[P,X,p]:=m.setD rx n;refine k _ _ _ (mD g) HB (SS h2 w X λz=>I (p a z)) (λb hb=>?_) q;rcases hb with hb|hb;exact hb▸g;exact(l b).mpr (.inr (p b hb))
   |none=>rw[e]at w q;have X:=Trs.append m (Trs.one (Tr.d (S:=λ_=>False) rx λ_ z=>z)) λ_ _ z=>z;refine k _ _ _ (mD g) HB (SS h2 w X λz=>z.elim I id) (λb hb=>?_) q;rcases hb with hb|hb|hb;exact hb▸g;exact(l b).mpr (.inr hb);exact hb.elim
 |_=>exact h.elim
theorem DI.vs_inj{m:Hp}{f:List D}{u:LV}(h:DI K F b o ks vs)(h':DI K m b o f u):vs=u:=by
 cases b with|true=>let#[l,k,e,_,rfl,_]:=h;let#[g,w,z,_,rfl,_]:=h';rw[e]at z;cases z;rfl|false=>rcases h with⟨k,_,e,_,rfl,_⟩| ⟨l,e,_,rfl⟩<;>rcases h' with⟨w,_,z,_,rfl,_⟩| ⟨g,z,_,rfl⟩<;>rw[e]at z<;>cases z<;>rfl
theorem Sc{F0:Hp}{n:Nat}{w:V}(f:Same F H)(r:Tr K F H kf (.ref a) (.dct b ks ts) Z)(l:H a=jr o)(q:DI K F0 b o ks vs)(hw:vs[n]?=jr w)(ht:ts[n]?=jr s)
  (ry:Rep K F J y) (rx:Rep K F A x) (h:Js s y x N)
  (k:∀s' g S1,(∀b u,H b=jr u->¬ Z b->g b=jr u)->(∀b,g b=kv->H b=kv)->Tr K F g kf (.ref a) (.dct b ks (ts.set n s')) S1->(∀b,S1 b->Z b)->N s'->R g):gU K w J A H R:=by
 cases r with
 |@dct _ _ a o' _ vs' _ _ S' h1 dk h2 h3 h4 p =>
  rw[l]at h1;cases h1;cases q.vs_inj dk;have ha:Z a:=(p a).mpr (.inl rfl);let#[w',S1,g1,g2,g3,g4]:=h3.part ht;rw[hw]at g1;cases g1;refine f7 f g2 ry rx h λs' g X hh dm rs sub q2=>?_;have keep:∀b,¬ S1 b->H b≠kv->g b=H b:=λb hb m=>by
   cases e:H b with|none=>exact i3 e m|some u=>exact hh b u e hb
  have na:¬ S1 a:=λz=>h4 (g3 a z);let#[P,p1,I]:=g4 g s' X (λb hb m=>keep b m (h3.dom b hb).1) rs sub;refine k _ g (λb=>b=a∨P b) (λb u e hb=>hh b u e λz=>hb ((p b).mpr (.inr (g3 b z)))) dm (.dct (S':=P) ((keep a na (by rw[l];simp)).trans l) dk h2 p1 (λz=>h4 (I a z)) λb=>WF) (λb hb=>?_) q2;rcases hb with hb|hb;exact hb▸ha;exact(p b).mpr (.inr (I b hb))
theorem Tk{p:ko}(f:Same F H)(X:H p=kv)(r:Tr K F H kf v t Z)(ry:Rep K F J y)(h:Sk y t N)
  (k:∀s' l S1,(∀b u,H b=jr u->¬ Z b->l b=jr u)->(∀b,l b=kv->H b=kv)->Tr K F l kf v s' S1->(∀b,S1 b->Z b∨b=p)->N s'->R l):fM K v [J,.ref p] (FA H p (.dT 0 [])) λ_ l=>R l:=by
 let#[ks,ts,rfl,hk,hl,h]:=h;cases r with
 |@dct _ _ a o _ vs _ _ S' h1 dk h2 h3 h4 h5 =>
  have ha:Z a:=(h5 a).mpr (.inl rfl);let#[ep,w,rfl,rfl,rfl,d4,d5]:=dk;have ap:a≠p:=YA h1 X;have fp:F p=none:=f.free X;have sm:Same H (FA H p (.dT 0 [])):=AB X;cases rS hk ry with
  |intro q hh =>
   let#[c,rfl,rfl,hq]:=hh;have vf:=zH q w;refine#[a,c,.ref p,ep,w,q,rfl,rfl,(uA ap).trans h1,λx g=>(f.trans sm).key (d4 x g),(f.trans sm).key hq,by simpa using hl,λu eu=>?_,λen I=>?_];rcases h with⟨n,e,q⟩| ⟨e,q⟩
   ·have r0:Tr K F H kf (.ref a) (.dct kf (w.map λp=>tD p.1) ts) Z:=.dct h1 #[ep,w,rfl,rfl,rfl,d4,d5] h2 h3 h4 h5
    refine k _ _ Z (λb u e _=>sm b u e) (λb e=>HB b e) (r0.mono (.refl _) λb hb=>#[uA λz=>(r0.dom b hb).1 (by rw[z];exact X),(r0.dom b hb).2]) (λb hb=>.inl hb) q
   rw[e]at vf;rw[vf]at eu;cases eu;rcases h with⟨n,e,q⟩| ⟨e,q2⟩
   ·have hn:=aC e
    rw[e]at vf;have:n<w.length:=by have:=(Qh.mp hn).1;simpa using this
    rw[vf]at en;have en:(w.map (·.2.2))[n]?=none:=en;rw[List.getElem?_eq_none_iff,QA]at en;omega
   have ep2:vN w q c (.ref p)=w++[(q,c,.ref p)]:=by unfold vN;rw[en];rfl
   rw[ep2];have np:¬ S' p:=λz=>(h3.dom p z).1 X;have g0:Tr K F (FA H p (.dT 0 [])) kf (.ref p) (.dct kf [] []) λb=>b=p :=
    .dct (S':=λ_=>False) (vs:=[]) ZA #[0,[],rfl,rfl,rfl,λ_ z=>(nomatch z),Qx] fp (.nil λ_ z=>z) (λz=>z) λb=>by simp
   have g3:Trs K F (FA H p (.dT 0 [])) kf (w.map (·.2.2)) ts S':=h3.mono (.refl _) λb hb=>#[uA λz=>np (z▸hb),(h3.dom b hb).2]
   have g1:=Trs.append g3 (Trs.one g0) λb hb z=>np (z▸hb);have dk':DI K F kf (.dT I (w++[(q,c,.ref p)])) ((w.map λp=>tD p.1)++[tD q]) (w.map (·.2.2)++[.ref p]):=by
    refine#[I,_,rfl,by simp,by simp,λx g=>?_,?_];rcases Qf.mp g with g|g
    ·exact d4 x g
    rw[QI.mp g];exact hq;rw[QT];refine sJ d5 λm=>SA.mp e ?_;let#[x,g,ex]:=QO.mp m;exact QO.mpr #[x,g,by rw[ex]]
   refine k _ _ _ (λb u e hb=>?_) (λb e=>HB b (HB b e)) (SS h2 dk' g1 λz=>z.elim h4 ap) (λb hb=>?_) q2;rw[uA λz=>hb (by rw[z];exact ha)];exact sm b u e;rcases hb with hb|hb|hb
   ·exact .inl (hb▸ha)
   exact .inl ((h5 b).mpr (.inr hb));exact .inr hb
end
end
section
variable{K:QC}{Γ:Ev}{Ψ:PEv}
section
variable{p:PX}{F H:Hp}{S:Ft}{ρ:xA}{Z:YB}
noncomputable abbrev v6(K:QC)(Γ:Ev)(Ψ:PEv)(p:PX):Prop:=∀{E:XE}{x:XK}{F H:Hp}{S:Ft}{ρ:xA}{h:St}{Q:TK}{R:VK},Rl K F H S ρ h->HF K F H S ρ E x->(pe Ψ p E).e ρ Q->cB K (jG p) F H S ρ h Q R->(wp K Γ p x).e h H R
theorem AW(f:v6 K Γ Ψ p){E:XE}{w:XK}{σ:St}{Q:Bool->xA->Prop}{R:Bool->Hp->Prop}(I:Rl K F H S ρ σ)(X:HF K F H S ρ E w)(h:(pe Ψ p E).e ρ λt _ y=>HI t.er λb=>Q b y)(k:kK K F H S ρ σ Q R) :
  (wp K Γ p w).e σ H λx i=>YH K x i R :=
 f I X h λv l j g z t n Z s u r q=>oZ (r.tr.rep u.fh) q λc a=>k c l j g z s u a
theorem PSnd.of_e(w:∀E ρ Q,(pe Ψ p E).t ρ Q=(pe Ψ p E).e ρ λt _ y=>HI t.er λb=>Q b y)(z:∀v σ H R,(wp K Γ p v).t σ H R=(wp K Γ p v).e σ H λx g=>YH K x g R)(f:∀E,(pe Ψ p E).a=MD.a)(u:v6 K Γ Ψ p):PSnd K Γ Ψ p where
 e:=u
 t:=λI X h k=>by rw[w]at h;rw[z];exact AW u I X h k
 a:=λI X _ h k=>by rw[f]at h;exact h.elim
theorem PSnd.of_0(x:∀E,(pe Ψ p E).t=MD.t)(z:∀E,(pe Ψ p E).a=MD.a)(y:v6 K Γ Ψ p):PSnd K Γ Ψ p where
 e:=y
 t:=λI X h k=>by rw[x]at h;exact h.elim
 a:=λI X _ h k=>by rw[z]at h;exact h.elim
theorem PSnd.of_t(l:∀E ρ Q,(pe Ψ p E).e ρ Q=(pe Ψ p E).t ρ λb u=>Q (.d (.bool b)) kd u)(v:∀z σ H R,(wp K Γ p z).t σ H R=(wp K Γ p z).e σ H λx n=>Fb x n R)(m:∀E,(pe Ψ p E).a=MD.a)
  (f:∀{E:XE}{z:XK}{F H:Hp}{S:Ft}{ρ:xA}{σ:St}{Q:Bool->xA->Prop}{R:VK},Rl K F H S ρ σ->HF K F H S ρ E z->(pe Ψ p E).t ρ Q->kK K F H S ρ σ Q (λb=>R (.bl b))->(wp K Γ p z).e σ H R):PSnd K Γ Ψ p where
 e:=λI X h k=>by rw[l]at h;exact f I X h λb j i g y s w q=>cB.d k s w (.bl b) q
 t:=λI X h k=>by rw[v];exact f I X h λb j i g y s w q=>k b j i g y s w q
 a:=λI X _ h k=>by rw[m]at h;exact h.elim
theorem Hg(i:Nat):v6 K Γ Ψ (.var i):=by
 intro E a F H S ρ y Q R I X h k;have x:Pw ρ[i]? λt=>Q t kd ρ:=h;show(match y[i]? with|some (jr v)=>R v H|_=>False);have key:∀s,ρ[i]?=jr (jr s)->Q s.t kd ρ->(match y[i]? with|some (jr v)=>R v H|_=>False):=λs e q=>by let#[v,w,u]:=I.sl i _ e;rw[w];exact k v F H S ρ s.t kd (S i) .refl I #[u.weak,λz=>(by cases z),λ_ b hb=>#[i,s,QI.mpr rfl,e,hb],λz=>(by cases z)] q
 unfold Pw at x;split at x;rename_i e;exact key _ e x;rename_i e;exact key _ e x;exact x.elim;exact x.elim
theorem Yn{m:Mt}{v:V}{s:T}(h:isMut m=kf)(x:aJ m s=kf)(r:Tr K F H kf v s Z):f6 K m.ty v H:=by
 unfold aJ at x;split at x;cases r with
 |lst y _ _ _ _ =>
  refine .inl #[?_,_,YC.of y];cases m with|append=>rfl|pop=>rfl|extend=>rfl|_=>cases x
 cases x
theorem zz{m:Mt}{o g:PX}(io:PSnd K Γ Ψ o)(ia:PSnd K Γ Ψ g):v6 K Γ Ψ (.mt m o g):=by
 intro E EK F H S ρ L Q R I X h k;show(wp K Γ o EK).e L H λx J=>f6 K m.ty x J/\(wp K Γ g EK).a L J λA l=>mf K m x A l R;cases hm:isMut m with
 |false =>
  have h:(pe Ψ o E).e ρ λx n M=>Z9 m (nA x n).vw=kf/\sq (nA x n) M ((pe Ψ g E).a []) λf y=>Sw m (nA x n).vw (TB f) λz k=>Q z k y:=by have C:(if isMut m=kf then _ else _):=h;rw[hm,ii (by simp)]at C;exact C
  refine Br (P1:=λx n=>Z9 m (nA x n).vw=kf) (R1:=λv J=>f6 K m.ty v J) (RR:=λv A l=>mf K m v A l R) io ia I X h (λv F' H' x n Za r p=>du r p) λv A F' H' S' ρ' x n f Za Y s I' X' r _ tn q=>?_;rw[KM _ rfl]at q;exact Zn s I' r tn q k
 |true =>
  have h:zh (L7 o) λj=>xD ρ[j]? λt=>aJ m t=kf/\(pe Ψ g E).a [] (ρ.set j (jr (.bor t))) λf y=>AE f=kf/\y[j]?=jr (jr (.bor t))/\zM m t (TF f) λr s'=>Q r kf (y.set j (jr (.own s'))):=by have C:(if isMut m=kf then _ else _):=h;rw[hm,i0 rfl]at C;exact C
  cases o with
  |var j =>
   have h:xD ρ[j]? _:=h;unfold xD at h;split at h;rename_i t u;let#[ht,q1]:=h;let#[v0,hv,B]:=I.sl j _ u;have IL:=I.lock1 u;have n0:=I.lock1U u;have B:Tr K F H kf v0 t (S j):=B;have XL:=X.lock1 u;show(match L[j]? with|some (jr v)=>_|_=>False);rw[hv];refine#[Yn hm ht B,?_];refine ia.a (md:=[]) IL XL (λj u=>by cases g<;>cases u) q1 λA F2 l S2 y f W Y N I2 G _ P=>?_;let#[he,hj2,P]:=P;have r2:Tr K F2 l kf v0 t (S j):=N.toStp.keep B n0;have hw:=G.held;have trs:=G.av.trs on he;have wS:∀b,S j b->¬ W b:=λb hb hb2=>by rcases G.fr b hb2 with q|q;exact(B.dom b hb).1 q;exact n0 b hb q
   refine bf I2.fh r2 trs wS P λw r s' H3 S3 Zr hh dm O rr dz hf q=>?_;let#[st,I3,nw]:=vJ I u hv N I2 hh dm O (λb hb=>hf b (.inl hb)) hw G.fr;have zr:∀b,Zr b->S j b∨W b∨l b=none:=λb hb=>hf b (.inr hb);refine k w F2 H3 _ _ r kf Zr st I3 #[rr,λ_ b hb=>?_,λz=>(by cases z),λ_ i sl e b hb z=>?_] q;rcases zr b hb with q|q|q
   ·exact .inr #[j,t,u,q]
   exact(G.fr b q).imp id (lock1U u);exact .inl (N.dm b q);rcases gA e with⟨rfl,_,_⟩| ⟨n,e⟩
   ·rw[yB]at z
    exact dz b hb z
   rw[VA (qC n)]at z;exact nw b (zr b hb) i sl (qC n) e z
   all_goals exact h.elim
  |_=>exact h.elim
theorem cB.dct{ws:LN}{F H x y:Hp}{S S1:Ft}{ρ h:xA}{σ:St}{Q:TK}{R:VK}(k:cB K ws F H S ρ σ Q R)(s:Ste F H S ρ x y S1 h)(I:Rl K x y S1 h σ){p:ko}(g:H p=kv)(m:x p=kv)(j:Held x y S1 h λb=>b=p){o:HO}{b:Bool}{ks:List D}{vs:LV}{ts:LT}{W:YB}(B:DI K x b o ks vs)(r:Trs K x y kf vs ts W)
  (fr:∀b,W b->H b=kv∨U ρ S b) (f:Held x y S1 h W) (a:¬ W p) (q:Q (.dct b ks ts) kf h):R (.ref p) (FA y p o):=by
 have Y:∀b u,H b=jr u->b≠p:=λb u e=>YA e g;have X:Ste F H S ρ x (FA y p o) S1 h:=#[#[s.ff,λb u e n=>by rw[uA (Y b u e)];exact s.hh b u e n,λb e=>s.dm b (HB b e),s.fn,s.uu,s.bo],s.ow]
 have C:Rl K x (FA y p o) S1 h σ:=#[λb u e=>by rw[uA λz=>by rw[z,m]at e;cases e];exact I.fh b u e,I.len,λi w e=>by let#[v,A,l]:=I.sl i w e;exact#[v,A,l.mono (.refl _) λb hb=>#[uA λz=>j.nw i w e b z hb,(l.dom b hb).2]],I.dj]
 refine k _ x _ S1 h _ kf (λb=>b=p∨W b) X C #[.dct ZA B m (r.mono (.refl _) λb hb=>#[uA λz=>a (z▸hb),(f.dom b hb).2]) a (λb=>WF),λ_ b hb=>?_,λz=>(by cases z),λ_ i w e b hb z=>?_] q;rcases hb with hb|hb
 ·exact .inl (hb▸g)
 exact fr b hb;rcases hb with hb|hb
 ·exact j.nw i w e b hb z
 exact f.nw i w e b hb z
theorem VR.strict{u y:Hp}{S1:Ft}{h:xA}{ws:LN}{v:V}{t:T}{n:Bool}(r:VR K ws H S ρ u y S1 h v t n Z)(e:XH t n=kf):∃W,Tr K u y kf v t W/\Held u y S1 h W/\∀b,W b->H b=kv∨U ρ S b:=by
 cases n with
 |true=>exact#[Z,r.tr,r.held,r.fr rfl]|false =>
  have w:=r.tr;cases t with
  |d x=>cases w with|d q _=>exact#[λ_=>False,.d q λ_ z=>z,.none,λ_ z=>z.elim]
  |_=>cases e
theorem KJ{σ:St}(I:Rl K F H S ρ σ){p:ko}(h:H p=kv)(o:HO):Held F (FA H p o) S ρ λb=>b=p :=
 #[λb hb=>#[by rw[hb,ZA];simp,by rw[hb];exact I.fh.free h],λi x e b hb z=>(I.dom e z).1 (by rw[hb];exact h)]
theorem u8{F:Hp}:∀{nd:List (Str×D)}{vs:LV},Reps K F vs (nd.map λp=>PyData.tuple [.str p.1,p.2])->∃x:Hq,vs=x.map (λz=>V.ref z.1)/\(∀z∈x,LD K F z.1 [.str z.2.1,z.2.2])/\(x.map λz=>z.2.1)=(nd.map λp=>p.1)/\Reps K F (x.map λz=>z.2.2) (nd.map λp=>p.2)
 |[],vs,h=>by cases h;exact#[[],rfl,λ_ z=>(nomatch z),rfl,.nil]
 | (s,d)::nd,vs,h=>by
  cases h with
  |cons a b =>
   let#[x,rfl,k,v,u]:=u8 b;cases a with
   |tup q r =>
    cases r with
    |cons c e =>
     cases e with|cons w f=>cases f;cases c;refine#[(_,s,_)::x,rfl,λz y=>?_,by rw[QU,QU,v],.cons w u];rcases QK.mp y with rfl|y;exact q;exact k z y
theorem nv{nd:List (Str×D)}{h:Hq}(u:nd≠[])(x:(h.map λz=>z.2.1)=(nd.map λp=>p.1))(y:(nd.map λp=>p.1).Nodup):DI K F kd (.dK (NZ h)) (nd.map λp=>.str p.1) (h.map λz=>z.2.2):=by refine .inl #[NZ h,λz=>u ?_,rfl,?_,?_,d8 (by rw[x];exact y)];have:h=[]:=wn.mp z;subst this;exact wn.mp x.symm;have:=o9 (List.map j0) x;rw[QR,QR]at this;unfold NZ;rw[QR];exact this.symm;unfold NZ;rw[QR];rfl
theorem MA(g:GOk K Γ Ψ):∀(p:PX),PSnd K Γ Ψ p
 | .var i=>#[Hg i,λI X h k=>AW (Γ:=Γ) (Ψ:=Ψ) (Hg i) I X h k,λI X _ h k=>h.elim]|.int i=>#[λI X h k=>cB.d k .refl I (.int i) h,λI X h k=>k _ _ _ _ _ .refl I h,λI X _ h k=>h.elim]|.str x=>#[λI X h k=>cB.d k .refl I (.str x) h,λI X h k=>h.elim,λI X _ h k=>h.elim]|.bl b=>#[λI X h k=>cB.d k .refl I (.bl b) h,λI X h k=>k _ _ _ _ _ .refl I h,λI X _ h k=>h.elim]|.non=>#[λI X h k=>cB.d k .refl I .non h,λI X h k=>k _ _ _ _ _ .refl I h,λI X _ h k=>h.elim]|.glo x=>.of_e (λ_ _ _=>rfl) (λ_ _ _ _=>rfl) (λ_=>rfl) λ{E M F H S ρ G Q R} I X h k=>by have h:(match Ψ.va x with|some d=>Q (.d d) kd ρ|none=>False):=h;split at h;rename_i d e;exact cB.d k .refl I (g.va x d e F) h;exact h.elim
 | .bin op a b=>.of_e (λ_ _ _=>rfl) (λ_ _ _ _=>rfl) (λ_=>rfl) λ{E M F H S ρ G Q R} I X h k =>
  E6 (P:=λx n y m L=>binT op (nA x n).vw (nA y m).vw λz k=>Q z k L) (RR:=λx y H2=>ig K op x y H2 R) (MA g a) (MA g b) I X h λv w F' O S' B x n y m Za Zb s C X' ra _ rb q=>Bp s C ra rb q k
 | .cmp op a b=>.of_t (λ_ _ _=>rfl) (λ_ _ _ _=>rfl) (λ_=>rfl) λ{E M F H S ρ G Q R} I X h k =>
  E6 (P:=λx n y m L=>zg op x.er (nA y m) λk=>Q k L) (RR:=λx y H2=>vb K op x y H2 R) (MA g a) (MA g b) I X h λv w F' O S' B x n y m Za Zb s C X' ra _ rb q =>
   yg C.fh (by have:=ra.rep C.fh;rwa [B1]at this) rb q λc qc=>k c F' O S' B s C qc
 | .and a b=>#[λ{E M F H S ρ G Q R} I X h k=>by
   refine(MA g a).e (Q:=λx _ A=>Rp x.er λc=>if c=kf then(pe Ψ b E).e A Q else Q (.d (.bool kd)) kd A) (R:=λx J=>Fb x J λc H2=>if c=kf then(wp K Γ b M).e G H2 R else R (.bl kd) H2) I X h λv F' O S' B x n Z s C r q=>?_;refine Db (r.tr.rep C.fh) q λc qc=>?_;cases c with|false=>exact cB.d k s C (.bl kd) qc|true=>exact(MA g b).e C (X.from s.toStp) qc ((k.from s).vars λi hi=>QZ _ hi),
  λ{E M F H S ρ G Q R} I X h k=>by
   refine(MA g a).t (Q:=λc A=>if c=kf then(pe Ψ b E).t A Q else Q kd A) (R:=λc J=>if c=kf then(wp K Γ b M).t G J R else R kd J) I X h λc F' O S' B s C qc=>?_;cases c with|false=>exact k _ F' O S' B s C qc|true=>exact(MA g b).t C (X.from s.toStp) qc (kK.from k s),λI X _ h k=>h.elim]
 | .or a b=>#[λ{E M F H S ρ G Q R} I X h k=>by
   refine(MA g a).e (Q:=λx _ A=>Rp x.er λc=>if c=kf then Q (.d (.bool kf)) kd A else(pe Ψ b E).e A Q) (R:=λx J=>Fb x J λc H2=>if c=kf then R (.bl kf) H2 else(wp K Γ b M).e G H2 R) I X h λv F' O S' B x n Z s C r q=>?_;refine Db (r.tr.rep C.fh) q λc qc=>?_;cases c with|true=>exact cB.d k s C (.bl kf) qc|false=>exact(MA g b).e C (X.from s.toStp) qc ((k.from s).vars λi hi=>QZ _ hi),
  λ{E M F H S ρ G Q R} I X h k=>by
   refine(MA g a).t (Q:=λc A=>if c=kf then Q kf A else(pe Ψ b E).t A Q) (R:=λc J=>if c=kf then R kf J else(wp K Γ b M).t G J R) I X h λc F' O S' B s C qc=>?_;cases c with|true=>exact k _ F' O S' B s C qc|false=>exact(MA g b).t C (X.from s.toStp) qc (kK.from k s),λI X _ h k=>h.elim]
 | .not a=>#[λ{E M F H S ρ G Q R} I X h k=>by
   refine(MA g a).e (Q:=λx _ A=>HI x.er λc=>Q (.d (.bool (!c))) kd A) (R:=λx J=>YH K x J λc H2=>R (.bl (!c)) H2) I X h λv F' O S' B x n Z s C r q=>?_;exact oZ (r.tr.rep C.fh) q λc qc=>cB.d k s C (.bl _) qc,
  λ{E M F H S ρ G Q R} I X h k=>(MA g a).t (Q:=λc A=>Q (!c) A) (R:=λc J=>R (!c) J) I X h λc F' O S' B s C qc=>k _ F' O S' B s C qc,λI X _ h k=>h.elim]
 | .ife c a b=>.of_0 (λ_=>rfl) (λ_=>rfl) λ{E M F H S ρ G Q R} I X h k=>by
  refine(MA g c).t (Q:=λk A=>if k=kf then(pe Ψ a E).e A Q else(pe Ψ b E).e A Q) (R:=λk J=>if k=kf then(wp K Γ a M).e G J R else(wp K Γ b M).e G J R) I X h λc F' O S' B s C qc=>?_;cases c with|true=>exact(MA g a).e C (X.from s.toStp) qc ((k.from s).vars λi hi=>Ql _ hi)|false=>exact(MA g b).e C (X.from s.toStp) qc ((k.from s).vars λi hi=>QZ _ hi)
 | .call f as=>.of_e (λ_ _ _=>rfl) (λ_ _ _ _=>rfl) (λ_=>rfl) λ{E M F H S ρ G Q R} I X h k=>fg g (MA g as) I X h k|.bi f as=>.of_e (λ_ _ _=>rfl) (λ_ _ _ _=>rfl) (λ_=>rfl) λ{E M F H S ρ G Q R} I X h k =>
  yZ (P:=λxs A=>E5 f (TB xs) λz k=>Q z k A) (RR:=λvs J=>Hv K f vs J R) (MA g as) I X h λvs F' O S' B xs Y s C X' tn _ q=>by rw[KM _ rfl]at q;exact Op s C tn q k
 | .mt m o as=>.of_e (λ_ _ _=>rfl) (λ_ _ _ _=>rfl) (λ_=>rfl) (zz (MA g o) (MA g as))|.idx a b=>by
  have he:v6 K Γ Ψ (.idx a b):=λ{E M F H S ρ G Q R} I X h k =>
   E6 (P:=λx n y m L=>(oP (nA x n).vw (nA y m).vw λz=>Q z kd L)∨(BV (nA x n).vw y.er λz=>Q z kd L)) (RR:=λx y H2=>T3 K x y H2 R) (MA g a) (MA g b) I X h λv w F' O S' B x n y m Za Zb s C X' ra za rb q=>by rcases q with q|q;exact Yo s C ra za rb q k;exact Eo s C ra za (by have:=rb.rep C.fh;rwa [B1]at this) q k
  exact#[he,λI X h k=>AW he I X h k,λI X _ h k=>h.elim]
 | .slc a lo hi=>.of_0 (λ_=>rfl) (λ_=>rfl) λ{E M F H S ρ G Q R} I X h k=>by
  have part:∀(p:PX),PSnd K Γ Ψ p->∀{F H:Hp}{S:Ft}{ρ:xA}{x:T}{P:Option Int->xA->Prop}{RP:Option Int->Hp->Prop},Rl K F H S ρ G->HF K F H S ρ E M ->
    sq (α:=Option Int) x ρ (if isNop p=kf then λρ (R:Option Int->xA->Prop)=>R kv ρ else λρ R=>(pe Ψ p E).e ρ λl _ L=>lG l.er λo=>R o L) P ->
    (∀o F' O S' B,Ste F H S ρ F' O S' B->Rl K F' O S' B G->(∀st v Zx,Tr K F H st v x Zx->Tr K F' O st v x Zx)->P o B->RP o O) ->
    (if isNop p=kf then λ(R:Option Int->Hp->Prop)=>R kv H else λR=>(wp K Γ p M).e G H λl H2=>iN l H2 R) RP:=by
   intro p ip F H S ρ x P RP I X h k;cases hn:isNop p with
   |true=>simp only[hn,if_true]at h ⊢;refine k kv F H S ρ .refl I (λ_ _ _ r=>r) ?_;unfold sq at h;split at h<;>exact h|false =>
    simp only[hn,Qu,if_false]at h ⊢;have h2:sq x ρ (cu (pe Ψ p E).e) λy B=>lG y.1.er λo=>P o B:=by unfold sq at h ⊢;exact h
    refine Zs ip I X h2 λw F' O S' B y m Z s C kp _ r q=>ke (r.tr.rep C.fh) q λo qo=>k o F' O S' B s C kp qo
  refine AD (MA g a) I X h λv F1 J S1 A x n Za s1 I1 X1 r1 _ z1 h1=>?_;refine part lo (MA g lo) I1 X1 h1 λl F2 H2 S2 L s2 I2 k2 h2=>?_;refine part hi (MA g hi) I2 (X1.from s2.toStp) h2 λu F3 H3 S3 ρ3 s3 I3 k3 h3=>?_;exact Mk (s1.trans (s2.trans s3)) I3 (k3 _ _ _ (k2 _ _ _ r1)) h3 k
 | .nop=>#[λI X h k=>h.elim,λI X h k=>h.elim,λI X _ h k=>h.elim]|.lst as=>.of_0 (λ_=>rfl) (λ_=>rfl) λ{E M F H S ρ G Q R} I X h k=>by refine(MA g as).a (md:=[]) (R:=λxs J=>xs.9<=kn/\∀p,J p=kv->R (.ref p) (FA J p (.lst xs))) I X (λj hj=>by cases as<;>cases hj) h λvs F' O S' B xs W Y s C r _ q=>?_;exact#[by rw[r.av.9];exact q.2.1,λp hp=>cB.list k s C hp (r.av.trs on q.1) r.fr r.held q.2.2]|.tup as=>.of_0 (λ_=>rfl) (λ_=>rfl) λ{E M F H S ρ G Q R} I X h k=>by refine(MA g as).a (md:=[]) (R:=λxs J=>xs.9<=kn/\∀p,J p=kv->R (.ref p) (FA J p (.tup xs))) I X (λj hj=>by cases as<;>cases hj) h λvs F' O S' B xs W Y s C r _ q=>?_;exact#[by rw[r.av.9];exact q.2.1,λp hp=>cB.tup k s C hp (r.av.trs on q.1) r.fr r.held q.2.2]|.comp mask tgs tg ik its cond elt=>.of_0 (λ_=>rfl) (λ_=>rfl) λ{E M F H S ρ G Q R} I X h k=>by
  refine yZ (RR:=λvs J=>pC K ik vs J λxs st H2=>y3 K xs st tg (if isNop cond=kf then λ_ H Q=>Q kf H else(wp K Γ cond (λ_ _ _=>False)).t) (wp K Γ elt (λ_ _ _=>False)).e (DJ tgs.9 mask G) H2 R) (MA g its) I X h λvs F1 J S1 A xs Y s1 I1 X1 tn tm q1=>?_;rw[KM _ rfl]at q1;refine YK I1.fh tn q1 λxs ys st pr hst hc=>?_;refine Ia (us:=jG elt) ?_ ?_ s1 I1 pr (λb hb=>?_) hst hc k;intro F H S ρ G Q R I h k;cases hn:isNop cond with|true=>simp only[hn,if_true]at h ⊢;exact k kf F H S ρ .refl I h|false=>simp only[hn,Qu,if_false]at h ⊢;exact(MA g cond).t I HF.never h k
  intro F H S ρ G Q R I h k;exact(MA g elt).e I HF.never h k;let#[i,sl,_,h2,h3]:=tm b hb;exact I1.dom h2 h3
 | .ng i=>.of_0 (λ_=>rfl) (λ_=>rfl) λI X h k=>cB.d k .refl I (.int _) h|.lrv a=>.of_0 (λ_=>rfl) (λ_=>rfl) λ{E M F H S ρ G Q R} I X h k =>
  AD (P:=λx n A=>sd (nA x n).vw λz k=>Q z k A) (RR:=λx J=>nX K x J R) (MA g a) I X h λv F' O S' B x n Z s C _ r _ _ #[us,ds,e,hb,q]=>by let#[p,xs,_,rfl,hp,rp,_]:=r.ls C.fh e;exact#[p,xs,rfl,hp,λl hl=>k.listD s C hl (rp.un hb).1.reverse q]
 | .dnew b=>.of_0 (λ_=>rfl) (λ_=>rfl) λ{E M F H S ρ G Q R} I X h k=>by
  intro p hp;have hh:=KJ I hp (.dT 0 []);have e:=cB.dct (o:=.dT 0 []) (b:=b) (ks:=[]) (vs:=[]) (ts:=[]) (W:=λ_=>False) k (Ste.refl.new hp (.dT 0 [])) (I.new hp _) hp (I.fh.free hp) hh ?_ (.nil λ_ z=>z) (λ_ z=>z.elim) .none (λz=>z) h;rw[zR]at e;exact e;cases b with
  |true=>exact#[0,[],rfl,rfl,rfl,λ_ z=>(nomatch z),Qx]
  |false=>exact .inr #[0,rfl,rfl,rfl]
 | .dof a=>.of_0 (λ_=>rfl) (λ_=>rfl) λ{E M F H S ρ G Q R} I X h k =>
  AD (P:=λx n A=>Af (nA x n).vw λz k=>Q z k A) (RR:=λx J=>Jl K x J R) (MA g a) I X h λv F' O S' B x n Z s C _ r _ _ #[us,nd,e,hb,ndp,q]=>by let#[p,xs,_,rfl,hp,rp,_]:=r.ls C.fh e;let#[zs,rfl,t1,t2,t3]:=u8 (rp.un hb).1;refine#[p,zs,rfl,hp,λz hz=>C.fh.tupl (t1 z hz),by rw[t2];exact ndp,λd hd=>#[λne=>?_,λne ep=>?_]];have e:=cB.dct (o:=.dK (NZ zs)) (b:=kd) (ks:=nd.map λp=>.str p.1) (vs:=zs.map λz=>z.2.2) (ts:=(nd.map λp=>p.2).map T.d) (W:=λ_=>False) k (s.new hd (.dK (NZ zs))) (C.new hd _) (s.dm d hd) (C.fh.free hd) (KJ C hd _) (nv (λz=>ne (wn.mp (t2.trans (by rw[z];rfl)))) t2 ndp) (Trs.of_reps t3) (λ_ z=>z.elim) .none (λz=>z) q;rw[zR]at e;exact e;subst ne;obtain rfl:nd=[]:=wn.mp t2.symm;have e:=cB.dct (o:=.dT ep []) (b:=kd) (ks:=[]) (vs:=[]) (ts:=[]) (W:=λ_=>False) k (s.new hd (.dT ep [])) (C.new hd _) (s.dm d hd) (C.fh.free hd) (KJ C hd _) (.inr #[ep,rfl,rfl,rfl]) (Trs.of_reps t3) (λ_ z=>z.elim) .none (λz=>z) q;rw[zR]at e;exact e
 | .dsp a b=>.of_0 (λ_=>rfl) (λ_=>rfl) λ{E M F H S ρ G Q R} I X h k=>by
  intro p hp;have hh:=KJ I hp (.dT 0 []);have s0:Ste F H S ρ F (FA H p (.dT 0 [])) S ρ:=Ste.refl.new hp _;refine AD (MA g a) (I.new hp _) (X.from s0.toStp) h λy F1 J S1 A x n Z s1 I1 X1 _ er _ #[he,q1]=>?_;have hh1:=hh.step s1.toStp I1;have ry:=er he;refine(MA g b).e I1 X1 q1 λv F2 H2 S2 L t m Zb s2 I2 r2 q2=>?_;have hh2:=hh1.step s2.toStp I2;let#[he2,hk,q2]:=q2;let#[W,rw,hw,frw]:=(r2.from s1.toStp).strict he2;have hp2:H2 p=jr (.dT 0 []):=s2.hh p _ (s1.hh p _ ZA (hh.nu p rfl)) (hh1.nu p rfl);have np:¬ W p:=λz=>by rcases frw p z with q|q;rw[ZA]at q;cases q;exact hh.nu p rfl q
  have ry2:=ry.mono s2.ff;refine#[hp2,?_];generalize x.er=d at hk ry2 q2;cases rS hk ry2 with|intro ks hh=>let#[c,rfl,rfl,hq]:=hh;refine#[c,ks,rfl,I2.fh.key hq,λep=>?_];exact cB.dct (o:=.dT ep [(ks,c,v)]) (b:=kf) (vs:=[v]) (ts:=[t]) k (s0.trans (s1.trans s2)) I2 hp (hh2.dom p rfl).2 hh2 #[ep,_,rfl,rfl,rfl,λz hz=>by rw[QI.mp hz];exact hq,by simp] (Trs.one rw) (λb hb=>by rcases frw b hb with q|q;exact .inl (HB b q);exact .inr q) hw np q2
 | .anil=>#[λI X h k=>h.elim,λI X h k=>h.elim,λ{E M F H S ρ G md Q R} I X _ h k=>k [] F H S ρ [] (λ_=>False) (λ_=>False) .refl I #[.nil λ_ z=>z,λ_ z=>z.elim,λ_ z=>z.elim,λ_ _ _ _ z=>z.elim] (by cases md with|nil=>rfl|cons m r=>cases m<;>rfl) h]
 | .acons a as=>#[λI X h k=>h.elim,λI X h k=>h.elim,λ{E M F H S ρ G md Q R} I X hm h k=>by
  show(wp K Γ a M).e G H λx J=>(wp K Γ as M).a G J λxs H2=>R (x::xs) H2;have vr2:∀i∈jG as,i∈jG (.acons a as):=λi hi=>QZ _ hi;cases N:(md.headD .fro).isMut with
  |true =>
   have h2:ba a=kf/\(pe Ψ as E).a md.tail ρ λxs A=>Q ((.d .none,kf)::xs) A:=by have h3:(if(md.headD .fro).isMut=kf then _ else _):=h;rw[N,i0 rfl]at h3;exact h3
   obtain⟨m,md',rfl⟩:∃m md',md=m::md':=by
    cases md with|nil=>cases N|cons m md'=>exact#[m,md',rfl]
   have em:m=.chg:=by have N:m.isMut=true:=N;cases m<;>first|rfl|cases N
   subst em;cases a with
   |var j=>let#[v,hv]:=hm j (show j∈j::cA md' as from QE);show(match G[j]? with|some (jr v)=>_|_=>False);rw[hv];refine(MA g as).a I X (λi hi=>hm i (QF _ hi)) h2.2 λvs F' O S' B xs W Y s C r mv q=>?_;refine k (v::vs) F' O S' B _ W Y s C #[.chg N r.av,r.fr,(r.vars vr2).tm,r.nw] ?_ q;show(jr (jr v))::(JB md' vs).map _=G[j]?::(cA md' as).map _;have mv:(JB md' vs).map (λv=>jr (jr v))=(cA md' as).map (λj=>G[j]?):=mv;rw[hv,mv]
   |_=>exact i3 h2.1 (by simp[ba])
  |false =>
   have h2:(pe Ψ a E).e ρ λx n A=>sq (α:=List (T×Bool)) (if n=kf then .d .none else x) A ((pe Ψ as E).a md.tail) λxs L=>Q ((x,n)::xs) L:=by have h3:(if(md.headD .fro).isMut=kf then _ else _):=h;rw[N,ii (by simp)]at h3;exact h3
   have hroots:cA md (.acons a as)=cA md.tail as:=by
    cases md with|nil=>cases as<;>rfl|cons m md'=>have N:m.isMut=false:=N;cases m<;>first|rfl|cases N
   have hmv:∀v vs,JB md (v::vs)=JB md.tail vs:=λv vs=>by unfold JB;generalize md.headD .fro=m at N;cases m<;>first | (cases vs<;>rfl)|cases N
   refine(MA g a).e I X h2 λv F1 J S1 A x n Z s1 I1 r1 q1=>?_;refine Ks (MA g as) I1 (X.from s1.toStp) (λi hi=>hm i (by rw[hroots];exact hi)) q1 λvs F2 H2 S2 L xs W Y s2 I2 kp hs r2 mv q2=>?_;have s12:=s1.trans s2;have r2':=(r2.from s1.toStp).vars vr2;have mv':(JB md (v::vs)).map (λv=>jr (jr v))=(cA md (.acons a as)).map (λj=>G[j]?):=by rw[hroots,hmv];exact mv
   cases n with
   |true =>
    have hd:=r1.held;have hd2:=hd.step s2.toStp I2;refine k (v::vs) F2 H2 S2 L _ (λb=>Z b∨W b) Y s12 I2 #[.new N (s2.toStp.keep r1.tr hd.nu) r2.av (λb hb hw=>?_) λb=>WF,λb hb=>?_,r2'.tm,λi sl e b hb=>?_] mv' q2;rcases r2.fr b hw with q|q
    ·exact(hd.dom b hb).1 q
    exact hd.nu b hb q;rcases hb with hb|hb
    ·exact r1.fr rfl b hb
    exact r2'.fr b hb;rcases hb with hb|hb
    ·exact hd2.nw i sl e b hb
    exact r2.nw i sl e b hb
   |false =>
    have za:∀b,Z b->∃(i:Nat) (s:Sl),i∈jG a/\L[i]?=jr (jr s)/\S2 i b:=by
     cases hd:x.isD with
     |true =>
      intro b hb;exfalso;have tr:=r1.tr;cases x with
      |d x=>cases tr with|d r n=>exact n b hb
      |_=>cases hd
     |false=>let#[e1,e2]:=hs hd;rw[e1,e2];exact r1.tm rfl
    refine k (v::vs) F2 H2 S2 L _ W (λb=>Z b∨Y b) s12 I2 #[.tmp N (kp _ _ _ r1.tr) (λb hb=>.inl hb) (r2.av.sub λb hb=>.inr hb),r2'.fr,λb hb=>?_,r2.nw] mv' q2;rcases hb with hb|hb;let#[i,sl,h1,h2]:=za b hb;exact#[i,sl,Ql _ h1,h2];exact r2'.tm b hb]
end
end
structure Sts(C J:LN)(F H:Hp)(S:Ft)(ρ:xA)(σ:St)(F' H':Hp)(S':Ft)(ρ':xA)(σ':St):Prop where
 ff:Same F F'
 hh:∀b u,H b=jr u->¬ U ρ S b->H' b=jr u
 dm:∀b,H' b=kv->H b=kv
 fn:∀b,F b=kv->F' b≠kv->U ρ S b∨H b=kv
 uu:∀b,U ρ' S' b->U ρ S b∨H b=kv
 bo:∀(j:Nat) t,j∉J->ρ'[j]?=jr (jr (.bor t))->t.isD=kd->ρ[j]?=jr (jr (.bor t))/\S' j=S j/\σ'[j]?=σ[j]?
 sg:∀j∈C,σ'[j]?=σ[j]?
structure Stc(C:LN)(F H:Hp)(S:Ft)(ρ:xA)(σ:St)(F' H':Hp)(S':Ft)(ρ':xA)(σ':St):Prop where
 ff:Same F F'
 hh:∀b u,H b=jr u->¬ U ρ S b->H' b=jr u
 dm:∀b,H' b=kv->H b=kv
 fn:∀b,F b=kv->F' b≠kv->U ρ S b∨H b=kv
 uu:∀b,U ρ' S' b->U ρ S b∨H b=kv
 sg:∀j∈C,σ'[j]?=σ[j]?
section
variable{K:QC}{Γ:Ev}{Ψ:PEv}{E:XE}{M:XK}{F H p X B L:Hp}{S S1 G:Ft}{ρ y Y:xA}{σ g A:St}{C J:LN}
section
variable{t:T}{Z:YB}{i:Nat}
theorem Stp.sts(s:Stp F H S ρ p X S1 y):Sts C J F H S ρ σ p X S1 y σ:=#[s.ff,s.hh,s.dm,s.fn,s.uu,λj t _ e h=>let#[z,x]:=s.bo j t e h;#[z,x,rfl],λ_ _=>rfl]
theorem Sts.refl:Sts C J F H S ρ σ F H S ρ σ:=Stp.refl.sts
theorem Sts.trans(a:Sts C J F H S ρ σ p X S1 y g)(b:Sts C [] p X S1 y g B L G Y A):Sts C J F H S ρ σ B L G Y A where
 ff:=a.ff.trans b.ff
 hh:=λx u h n=>b.hh x u (a.hh x u h n) λz=>by rcases a.uu x z with q|q;exact n q;rw[q]at h;cases h
 dm:=λx h=>a.dm x (b.dm x h)
 fn:=λx h z=>by
  by_cases q:p x=kv;rcases b.fn x q z with w|w
  ·exact a.uu x w
  exact .inr (a.dm x w);exact a.fn x h q
 uu:=λx h=>by rcases b.uu x h with w|w;exact a.uu x w;exact .inr (a.dm x w)
 bo:=λj t v h n=>by let#[o,m,l]:=b.bo j t (by simp) h n;let#[f,e,k]:=a.bo j t v o n;exact#[f,m.trans e,l.trans k]
 sg:=λj v=>(b.sg j v).trans (a.sg j v)
theorem Sts.c(s:Sts C J F H S ρ σ p X S1 y g):Stc C F H S ρ σ p X S1 y g:=#[s.ff,s.hh,s.dm,s.fn,s.uu,s.sg]
theorem Stc.trans(a:Stc C F H S ρ σ p X S1 y g)(b:Stc C p X S1 y g B L G Y A):Stc C F H S ρ σ B L G Y A where
 ff:=a.ff.trans b.ff
 hh:=λx u h n=>b.hh x u (a.hh x u h n) λz=>by rcases a.uu x z with q|q;exact n q;rw[q]at h;cases h
 dm:=λx h=>a.dm x (b.dm x h)
 fn:=λx h z=>by
  by_cases q:p x=kv;rcases b.fn x q z with w|w
  ·exact a.uu x w
  exact .inr (a.dm x w);exact a.fn x h q
 uu:=λx h=>by rcases b.uu x h with w|w;exact a.uu x w;exact .inr (a.dm x w)
 sg:=λj v=>(b.sg j v).trans (a.sg j v)
theorem HF.fromS(h:HF K F H S ρ E M)(s:Sts C J F H S ρ σ p X S1 y g):HF K p X S1 y E M:=λx k B L G Y v f r q =>
 h x k B L (λ_ _=>False) [] #[s.ff.trans v.ff,λb u e n=>v.hh b u (s.hh b u e n) (λz=>(s.uu b z).elim n λw=>(by rw[w]at e;cases e)),λb e=>s.dm b (v.dm b e),λb e z=>by
  by_cases q:p b=kv;rcases v.fn b q z with w|w
  ·exact s.uu b w
  exact .inr (s.dm b w);exact s.fn b e q,λb #[i,t,e,_]=>by simp at e,λj t e=>by simp at e] f r q
structure EndsOk(K:QC)(C:LN)(F H:Hp)(S:Ft)(ρ:xA)(σ:St)(Z:PEnds)(Dn:Ends):Prop where
 nx:∀F' H' S' ρ' σ',Sts C [] F H S ρ σ F' H' S' ρ' σ'->Rl K F' H' S' ρ' σ'->Z.nx ρ'->Dn.nx σ' H'
 rt:∀v t W F' H' S' ρ' σ',Stc C F H S ρ σ F' H' S' ρ' σ'->Rl K F' H' S' ρ' σ'->Tr K F' H' kf v t W->Held F' H' S' ρ' W->(∀b,W b->H b=kv∨U ρ S b)->Z.rt t ρ'->Dn.rt v H'
 bk:∀F' H' S' ρ' σ',Sts C [] F H S ρ σ F' H' S' ρ' σ'->Rl K F' H' S' ρ' σ'->Z.bk ρ'->Dn.bk σ' H'
 ct:∀F' H' S' ρ' σ',Sts C [] F H S ρ σ F' H' S' ρ' σ'->Rl K F' H' S' ρ' σ'->Z.ct ρ'->Dn.ct σ' H'
theorem Nz(s:Sts C J F H S ρ σ p X S1 y g){W:YB}(fr:∀b,W b->X b=kv∨U y S1 b):∀b,W b->H b=kv∨U ρ S b:=λb hb=>by rcases fr b hb with q|q;exact .inl (s.dm b q);exact(s.uu b q).symm
theorem EndsOk.from{Z:PEnds}{b:Ends}(ok:EndsOk K C F H S ρ σ Z b)(s:Sts C [] F H S ρ σ p X S1 y g):EndsOk K C p X S1 y g Z b :=
 #[λa k w z x u I q=>ok.nx a k w z x (s.trans u) I q,λv t W a k w z x u I r h fr q=>ok.rt v t W a k w z x (s.c.trans u) I r h (Nz s fr) q,
  λa k w z x u I q=>ok.bk a k w z x (s.trans u) I q,λa k w z x u I q=>ok.ct a k w z x (s.trans u) I q]
theorem Sts.setD(s:Sts C J F H S ρ σ p X S1 y g)(i:Nat)(a:i∉C)(v:V)(k:t.isD=kf)(Z:YB):Sts C J F H S ρ σ p X (zI S1 i Z) (y.set i (jr (.bor t))) (g.set i (jr v)) :=
 #[s.ff,s.hh,s.dm,s.fn,λb #[j,u,z,w]=>by
  rcases gA z with⟨_,e,_⟩| ⟨n,z⟩
  cases e;rw[VA (qC n)]at w;exact s.uu b #[j,u,z,w],
 λj u h e x=>by
  rcases gA e with⟨_,e,_⟩| ⟨n,e⟩
  injection e with e;injection e with e;subst e;rw[k]at x;cases x;rw[VA (qC n),bE n];exact s.bo j u h e x,
 λj h=>by have n:i≠j:=λe=>a (e▸h);rw[bE n];exact s.sg j h]
theorem Rl.setD(I:Rl K F H S ρ σ)(i:Nat){v:V}{x:D}(r:Rep K F v x):Rl K F H (zI S i λ_=>False) (ρ.set i (bD x)) (σ.set i (jr v)) :=
 I.setB i (.d r λ_ z=>z) λ_ _ _ _ _ z=>z.elim
theorem Rl.setN(I:Rl K F H S ρ σ)(i:Nat){v:V}(r:Tr K F H kf v t Z)(w:∀(j:Nat) s,j≠i->ρ[j]?=jr (jr s)->∀b,Z b->¬ S j b):Rl K F H (zI S i Z) (ρ.set i (jr (.own t))) (σ.set i (jr v)) where
 fh:=I.fh
 len:=by simpa using I.len
 sl:=λj s h=>by
  rcases gA h with⟨rfl,e,hl⟩| ⟨a,h⟩
  cases e;exact#[v,ZZ (by rw[<- I.len];exact hl),by rw[yB];exact r];rw[bE a,VA (qC a)];exact I.sl j s h
 dj:=λj k f s n u x b hb hk=>by
  rcases gA u with⟨e,_,_⟩| ⟨l,u⟩
  subst e;rw[yB]at hb;rcases gA x with⟨e,_,_⟩| ⟨z,x⟩
  exact n e;rw[VA (qC z)]at hk;exact w k s (qC z) x b hb hk;rw[VA (qC l)]at hb;rcases gA x with⟨e,_,_⟩| ⟨z,x⟩
  subst e;rw[yB]at hk;exact w j _ n u b hk hb;rw[VA (qC z)]at hk;exact I.dj j k f s n u x b hb hk
theorem Sts.setN(s:Sts C J F H S ρ σ p X S1 y g)(i:Nat)(w:i∉C)(v:V)(t:T)(fr:∀b,Z b->H b=kv∨U ρ S b):Sts C J F H S ρ σ p X (zI S1 i Z) (y.set i (jr (.own t))) (g.set i (jr v)) :=
 #[s.ff,s.hh,s.dm,s.fn,λb #[j,u,z,x]=>by
  rcases gA z with⟨rfl,_,_⟩| ⟨n,z⟩
  rw[yB]at x;exact(fr b x).symm;rw[VA (qC n)]at x;exact s.uu b #[j,u,z,x],
 λj u h e k=>by
  rcases gA e with⟨_,e,_⟩| ⟨n,e⟩
  cases e;rw[VA (qC n),bE n];exact s.bo j u h e k,
 λj h=>by have n:i≠j:=λe=>w (e▸h);rw[bE n];exact s.sg j h]
theorem IP:∀(u:LN) (ds:List D) {ρ x:xA},KB u (ds.map T.d) ρ=jr x->∀(j:Nat) t,x[j]?=jr (jr (.bor t))->t.isD=kd->j∉u/\ρ[j]?=jr (jr (.bor t))
 |[],[],ρ,x,h,j,t,e,hd=>by simp only[wT,KB,Qp]at h;subst h;exact#[(by simp),e]|[],_::_,_,_,h,_,_,_,_=>by simp[KB]at h|_::_,[],_,_,h,_,_,_,_=>by simp[KB]at h|i::u,d::ds,ρ,x,h,j,t,e,hd=>by
  simp only[QU,KB]at h;let#[w,v]:=IP u ds h j t e hd;rcases gA v with⟨_,q,_⟩| ⟨n,q⟩
  injection q with q;injection q with q;subst q;cases hd;exact#[λm=>(QK.mp m).elim (λz=>n z.symm) w,q]
theorem Rl.frz1(I:Rl K F H S ρ σ)(h:ρ[i]?=jr (jr (.own t))):Rl K (XJ F H (S i)) H (zI S i λ_=>False) (ρ.set i (bD t.er)) σ/\Sts C [] F H S ρ σ (XJ F H (S i)) H (zI S i λ_=>False) (ρ.set i (bD t.er)) σ:=by
 let#[v,hv,r]:=I.sl i _ h;have k:=rH (H:=H) λb (hb:S i b)=>(r.dom b hb).2;have O:Rl K F H S (ρ.set i kv) σ:=I.drop (by simp) λj s e=>by
  rcases gA e with⟨_,z,_⟩| ⟨_,e⟩
  cases z;exact e
 have l:Held F H S (ρ.set i kv) (S i):=#[r.dom,λj s e b hb z=>by
  rcases gA e with⟨_,q,_⟩| ⟨n,e⟩
  cases q;exact I.dj i j t s n h e b hb z]
 have N:=O.frz l;have f:Rep K (XJ F H (S i)) v t.er:=Tr.kept k r λb u hb e=>by rw[VJ hb];exact e
 have a:=N.setD i f;have W:(ρ.set i kv).set i (bD t.er)=ρ.set i (bD t.er):=by simp
 have o:σ.set i (jr v)=σ:=by apply wG;intro j;rw[wJ];split;rename_i e;subst e;split;exact hv.symm;rename_i n;rw[qD ()];rfl
 rw[W,o]at a;refine#[a,#[k,λb u e _=>e,λb e=>e,λb e z=>.inl ?_,λb #[j,u,x,w]=>.inl ?_,λj u _ e m=>?_,λ_ _=>rfl]];by_cases hb:S i b
 ·exact#[i,t,h,hb]
 rw[rC hb]at z;exact i3 e z;rcases gA x with⟨_,q,_⟩| ⟨n,x⟩
 ·cases q
 rw[VA (qC n)]at w;exact#[j,u,x,w];rcases gA e with⟨_,q,_⟩| ⟨n,e⟩
 ·injection q with q;injection q with q;subst q;cases m
 exact#[e,VA (qC n),rfl]
theorem j5{f:Option Sl->Option Sl}:ρ.modify i f=match ρ[i]? with|some o=>ρ.set i (f o)|none=>ρ:=by
 apply wG;intro j;rw[W5];cases h:ρ[i]? with|none=>simp only;by_cases e:i=j;subst e;simp[h];simp[e]|some o=>simp only;rw[wJ];by_cases e:i=j;subst e;let#[hl,rfl]:=Qh.mp h;simp[hl];simp[e]
theorem dU{α:Type}{l:List α}{o:α}(h:l[i]?=jr o):l.set i o=l:=by apply wG;intro j;rw[wJ];split;rename_i e;subst e;rw[i0 (Qh.mp h).1,h];rfl
theorem Rl.frzAt:∀(x:LN) {F:Hp}{S:Ft}{ρ:xA},Rl K F H S ρ σ->∃z S',Rl K z H S' (frzAt x ρ) σ/\Sts C [] F H S ρ σ z H S' (frzAt x ρ) σ
 |[],F,S,ρ,I=>#[F,S,I,.refl]|i::x,F,S,ρ,I=>by
  have one:∃p S1,Rl K p H S1 (ρ.modify i oY) σ/\Sts C [] F H S ρ σ p H S1 (ρ.modify i oY) σ:=by
   rw[j5];cases h:ρ[i]? with
   |none=>exact#[F,S,I,.refl]|some o =>
    cases o with
    |none=>have e:ρ.set i (oY kv)=ρ:=dU h;simp only[e];exact#[F,S,I,.refl]|some u =>
     cases u with|bor t=>have e:ρ.set i (oY (jr (.bor t)))=ρ:=dU h;simp only[e];exact#[F,S,I,.refl]|own t=>exact#[_,_,I.frz1 h]
  let#[p,S1,a,w]:=one;let#[B,G,k,v]:=Rl.frzAt x a;exact#[B,G,k,w.trans v]
end
end
noncomputable def eK(C:LN):PT->Bool
 | .seq s r=>eK C s&&eK C r|.set i _=>!C.contains i|.own i _=>!C.contains i|.ife _ a b=>eK C a&&eK C b|.for_ x _ _ h=>x.ix.all (λi=>!C.contains i)&&eK C h|.nil=>kf|.expr _=>kf|.ret _=>kf|.tset y _=>y.all λi=>!C.contains i|.six _ _ _=>kf|.sdf _ _=>kf|.whl _ h=>eK C h|.frz _ s=>eK C s
section
variable{K:QC}{Γ:Ev}{Ψ:PEv}{E:XE}{O:XK}{F H D B F2 N:Hp}{S S1 P:Ft}{ρ A M:xA}{σ G R:St}{C J:LN}
theorem Sts.bind{L:LN}(s:Sts C J F H S ρ σ D B S1 A G)(b:Bd L D B S1 A G F2 N P M R)(v:∀j∈L,j∈J)(w:∀j∈L,j∉C):Sts C J F H S ρ σ F2 N P M R :=
 #[s.ff.trans b.ff,λx u e n=>b.hh x u (s.hh x u e n),λx e=>s.dm x (b.dm x e),λx e z=>by
  by_cases q:D x=kv;exact .inr (s.dm x (b.fn x q z));exact s.fn x e q,λx u=>s.uu x (b.U u),λj t h e y=>by
  let#[i,g,e3]:=b.out j λz=>h (v j z);rw[i]at e;let#[f,a,k]:=s.bo j t h e y;exact#[f,g.trans a,e3.trans k],λj h=>(b.out j λz=>w j z h).2.2.trans (s.sg j h)]
theorem D1{g:Tg}{body:PEnds->xA->Prop}{tb:TS}{Z:PEnds}{o:Ends}{xs:List Item}{p:LT}{st:Hp->Prop}{Y:YB}
  (ib:∀{F H:Hp}{S:Ft}{ρ:xA}{σ:St}{Z:PEnds}{o:Ends},Rl K F H S ρ σ->HF K F H S ρ E O->body Z ρ->EndsOk K C F H S ρ σ Z o->tb o σ H)
  (I:Rl K F H S ρ σ) (X:HF K F H S ρ E O) (hC:∀j∈g.ix,j∉C) (pr:xo (u6 K F H Y) xs p) (hy:∀b,Y b->¬ U ρ S b/\H b≠kv/\F b=kv) (hst:∀f k,Same F f->Same f k->(∀b,Y b->k b=H b)->st k) (h:oI body g Z p ρ)
  (onx:∀f k S' z w,Sts C g.ix F H S ρ σ f k S' z w->Rl K f k S' z w->Z.nx z->o.nx w k)
  (ort:∀v t W f k S' z w,Stc C F H S ρ σ f k S' z w->Rl K f k S' z w->Tr K f k kf v t W->Held f k S' z W->(∀b,W b->H b=kv∨U ρ S b)->Z.rt t z->o.rt v k):gq K xs st g tb o σ H:=by
 intro J hJ;have len:=qE pr;have yk:∀{D B:Hp}{S1:Ft}{A:xA}{G:St},Sts C g.ix F H S ρ σ D B S1 A G->∀b,Y b->B b=H b/\D b=none:=λ{D B S1 A G} s b hb=>by
  let#[n,d1,d2]:=hy b hb;refine#[?_,?_];cases e:H b with|none=>exact i3 e d1|some u=>exact s.hh b u e n
  by_cases q:D b=kv
  ·exact q
  exact((s.fn b d2 q).elim n d1).elim
 refine#[λi m w k=>i<=xs.9/\m=xs.9 - i/\∃z f S',Sts C g.ix F H S ρ σ f k S' z w/\Rl K f k S' z w/\oI body g Z (p.drop i) z,#[_,Qq _,rfl,ρ,F,S,.refl,I,by simpa using h],?_];rintro i m G B ⟨hi,rfl,A,D,S1,L,I1,h1⟩;have hs:=hst D B L.ff I1.fh λb hb=>(yk L b hb).1;rcases QBH i xs.9 with l|hge;refine .inr #[hJ.go i B hs l,λw k=>i+1<=xs.9/\∃z f S',Sts C g.ix F H S ρ σ f k S' z w/\Rl K f k S' z w/\oI body g Z (p.drop (i+1)) z,λw k #[a,b]=>#[_,(),a,rfl,b],λx N hyl=>?_];let#[it,hx,hm]:=hJ.yld i B x N hs l hyl;let#[y,hd,ry]:=Paired.get_of pr hx;rw[hd]at h1;unfold oI at h1;have key:L3.bindI K g it G B λR N=>tb { o with nx:=λw k=>i+1<=xs.9/\∃z f S',Sts C g.ix F H S ρ σ f k S' z w/\Rl K f k S' z w/\oI body g Z (p.drop (i+1)) z,ct:=λw k=>i+1<=xs.9/\∃z f S',Sts C g.ix F H S ρ σ f k S' z w/\Rl K f k S' z w/\oI body g Z (p.drop (i+1)) z,bk:=o.nx } R N:=by
  refine sO I1 (λb hb u=>?_) (ry.mono L.ff (yk L)) h1 λM R F2 H3 P bd I2 h2=>?_;rcases L.uu b u with q|q
  ·exact(hy b hb).1 q
  exact(hy b hb).2.1 q;have s2:=L.bind bd (λj hj=>hj) hC;exact ib I2 (X.fromS s2) h2 #[λf k S' z w Q I' q=>#[l,z,f,S',s2.trans Q,I',q],λv t W f k S' z w Q I' r hw fr q=>ort v t W f k S' z w (s2.c.trans Q) I' r hw (Nz s2 fr) q,
   λf k S' z w Q I' q=>onx f k S' z w (s2.trans Q) I' q,λf k S' z w Q I' q=>#[l,z,f,S',s2.trans Q,I',q]]
 exact aO hm key;have e:p.drop i=[]:=Wl ();rw[e]at h1;exact .inl #[hJ.stop i B hs hge,onx D B S1 A G L I1 h1]
theorem tG:∀(J:LN) (ρ:xA) (i:Nat) s,(kill J ρ)[i]?=jr (jr s)->ρ[i]?=jr (jr s)/\(i∈J->∀t,s=.bor t->t.isD=kf)
 |[],ρ,i,s,h=>#[h,λz=>by simp at z]|j::J,ρ,i,s,h=>by
  unfold kill at h;let#[x,w]:=tG J _ i s h;rw[W5]at x;by_cases e:j=i;subst e;simp only[reduceIte]at x;cases q:ρ[j]? with
  |none=>rw[q]at x;cases x|some o =>
   rw[q]at x;have x:TN o=jr s:=by simpa using x
   cases o with
   |none=>cases x|some v =>
    cases v with
    |own t=>cases x;exact#[rfl,λ_ u z=>by cases z]|bor t =>
     have x:(if t.isD=kf then jr (Sl.bor t) else kv)=jr s:=x;cases y:t.isD with|true=>rw[y,i0 rfl]at x;cases x;exact#[rfl,λ_ u z=>by cases z;exact y]|false=>rw[y]at x;simp at x
  simp only[e,if_false]at x;refine#[by simpa using x,λm=>w ((QK.mp m).elim (λz=>i3 z.symm e) id)]
theorem SN:∀(J:LN) (ρ:xA),(kill J ρ).9=ρ.9
 |[],_=>rfl|j::J,ρ=>by unfold kill;rw[SN J];simp
theorem Sts.kill(s:Sts C J F H S ρ σ D B S1 A G):Sts C [] F H S ρ σ D B S1 (L3.kill J A) G :=
 #[s.ff,s.hh,s.dm,s.fn,λb #[i,t,y,x]=>s.uu b #[i,t,(tG J A i _ y).1,x],λj t _ e h=>by let#[y,x]:=tG J A j _ e;by_cases z:j∈J;rw[x z t rfl]at h;cases h;exact s.bo j t z y h,s.sg]
theorem xV:∀(L:LN) (ρ:xA) (j:Nat),(lock L ρ)[j]?=if j∈L then ρ[j]?.map rG else ρ[j]?
 |[],ρ,j=>by simp[lock]|i::L,ρ,j=>by
  have x:∀o,rG (rG o)=rG o:=λo=>by
   match o with
   |none=>rfl|some (.own _)=>rfl|some (.bor _)=>rfl
  unfold lock;rw[xV L,W5];by_cases e:i=j;subst e;cases h:ρ[i]? with|none=>simp|some o=>simp[x]
  have y:¬ j=i:=λz=>e z.symm;simp[e,y]
theorem vV:∀(L:LN) (ρ:xA),(lock L ρ).9=ρ.9
 |[],_=>rfl|i::L,ρ=>by unfold lock;rw[vV L];simp
theorem DM:∀(L:LN) (x ρ:xA) (j:Nat),(∀i∈L,i<ρ.9)->(HC L x ρ)[j]?=if j∈L then jr (x[j]?.getD kv) else ρ[j]?
 |[],x,ρ,j,_=>by simp[HC]|i::L,x,ρ,j,h=>by unfold HC;rw[DM L x _ j (λk hk=>by simpa using h k (QF _ hk)),wJ];by_cases e:i=j;subst e;simp[h i QE];have y:¬ j=i:=λz=>e z.symm;simp[e,y]
theorem CM:∀(L:LN) (h ρ:xA),(HC L h ρ).9=ρ.9
 |[],_,_=>rfl|i::L,h,ρ=>by unfold HC;rw[CM L];simp
theorem bI{ρ:xA}:∀(x:LN),∀i∈gC ρ x,∃t,ρ[i]?=jr (jr (.own t))
 |[],i,h=>by simp[gC]at h|j::x,i,h=>by
  unfold gC at h;split at h
  ·rename_i ho
   rcases QK.mp h with e|e
   ·subst e
    unfold VN at ho;split at ho;rename_i t e;exact#[t,e]
    all_goals cases ho
   exact bI x i e
  exact bI x i h
theorem KN{ρ:xA}{i:Nat}{t:T}(h:ρ[i]?=jr (jr (.own t))):∀(x:LN),i∈x->i∈gC ρ x
 |[],hi=>by simp at hi|j::x,hi=>by
  unfold gC;rcases QK.mp hi with e|e;subst e;have:VN ρ[i]?=true:=by rw[h];rfl
  rw[i0 this];exact QE;have:=KN h x e;split;exact QF _ this;exact this
section
variable{L:LN}(y:∀i∈L,∃t,ρ[i]?=jr (jr (.own t)))
include y
theorem UL{i:Nat}{s:Sl}(h:(lock L ρ)[i]?=jr (jr s)):(i∈L/\∃t,ρ[i]?=jr (jr (.own t))/\s=.bor t)∨(i∉L/\ρ[i]?=jr (jr s)):=by rw[xV]at h;by_cases x:i∈L;rw[i0 x]at h;let#[t,e]:=y i x;rw[e]at h;injection h with h;injection h with h;exact .inl #[x,t,e,h.symm];rw[ii x]at h;exact .inr #[x,h]
theorem mF{b:ko}(h:U (lock L ρ) S b):U ρ S b:=by
 let#[i,t,x,z]:=h;rcases UL y x with⟨_,u,_,e⟩| ⟨_,x⟩
 cases e;exact#[i,t,x,z]
theorem Rl.lock(I:Rl K F H S ρ σ):Rl K F H S (L3.lock L ρ) σ where
 fh:=I.fh
 len:=by rw[vV];exact I.len
 sl:=λi s e=>by
  rcases UL y e with⟨_,t,h,rfl⟩| ⟨_,h⟩
  let#[v,u,x]:=I.sl i _ h;exact#[v,u,x.weak];exact I.sl i s h
 dj:=λi j t s n k w=>by
  rcases UL y k with⟨_,_,_,z⟩| ⟨_,u⟩
  cases z;rcases UL y w with⟨_,a,x,_⟩| ⟨_,x⟩
  ·exact I.dj i j t _ n u x
  exact I.dj i j t s n u x
theorem Rl.lockU(I:Rl K F H S ρ σ){i:Nat}(x:i∈L){b:ko}(hb:S i b):¬ U (L3.lock L ρ) S b:=λ#[j,t,h,v]=>by
 let#[w,e]:=y i x;rcases UL y h with⟨_,_,_,z⟩| ⟨u,h⟩
 cases z;exact I.dj j i t _ (λz=>u (z▸x)) h e b v hb
theorem Y3(I:Rl K F H S ρ σ)(s:Sts C [] F H S (lock L ρ) σ D B S1 A G)(W:Rl K D B S1 A G)(hl:∀i∈L,A[i]?=ρ[i]?.map rG) :
  ∃P,Rl K D B P (HC L ρ A) G/\Sts C [] F H S ρ σ D B P (HC L ρ A) G:=by
 classical
 have l1:∀i∈L,∃t,ρ[i]?=jr (jr (.own t))/\A[i]?=jr (jr (.bor t)):=λi h=>by let#[t,e]:=y i h;have:=hl i h;rw[e]at this;exact#[t,e,this]
 have hlt:∀i∈L,i<A.length:=λi h=>by let#[t,_,e]:=l1 i h;exact(Qh.mp e).1
 let P:Ft:=λi=>if i∈L then S i else S1 i
 have l:∀i∈L,P i=S i:=λi h=>i0 h;have g:∀i,i∉L->P i=S1 i:=λi h=>ii h;have get:∀i a,(HC L ρ A)[i]?=jr (jr a)->(i∈L/\∃t,ρ[i]?=jr (jr (.own t))/\A[i]?=jr (jr (.bor t))/\a=.own t)∨(i∉L/\A[i]?=jr (jr a)):=λi a e=>by rw[DM L ρ A i hlt]at e;by_cases h:i∈L;rw[i0 h]at e;let#[t,f,Y]:=l1 i h;rw[f]at e;injection e with e;have e:jr (Sl.own t)=jr a:=e;injection e with e;exact .inl #[h,t,f,Y,e.symm];rw[ii h]at e;exact .inr #[h,e]
 have Q:∀i∈L,∀k a,k∉L->A[k]?=jr (jr a)->∀b,S i b->¬ S1 k b:=λi h k a hk e b hb z=>by
  let#[t,f,_]:=l1 i h;cases a with
  |own u=>rcases s.uu b ⟨k,u,e,z⟩ with q|q;exact I.lockU y h hb q;exact(I.dom f hb).1 q
  |bor u =>
   cases o:u.isD with
   |true=>exact W.isD e o z|false =>
    let#[m,p,_]:=s.bo k u (by simp) e o;rw[p]at z;rcases UL y m with⟨q,_⟩| ⟨_,m⟩
    exact hk q;exact I.dj i k t _ (λq=>hk (q▸h)) f m b hb z
 refine#[P,#[W.fh,by rw[CM];exact W.len,λi a e=>?_,λi k t a n f Y b hb hk=>?_],#[s.ff,λb u e n=>s.hh b u e λz=>n (mF y z),s.dm,λb e z=>(s.fn b e z).imp (mF y) id,λb #[i,t,h1,h2]=>?_,λj t _ e o=>?_,s.sg]];rcases get i a e with⟨h,t,f,Y,rfl⟩| ⟨h,f⟩
 ·rw[l i h]
  let#[v,m,p]:=I.sl i _ f;cases o:t.isD with
  |true =>
   let#[v',g3,g4]:=W.sl i _ Y;refine#[v',g3,?_];have nb:∀b,¬ S i b:=λb=>I.isD f o;cases t with
   |d x =>
    have g4:Tr K D B kd v' (.d x) (S1 i):=g4;cases g4 with|d r _=>exact .d r nb
   |_=>cases o
  |false =>
   let#[_,_,g5]:=s.bo i t (by simp) Y o;refine#[v,g5.trans m,?_];have p:Tr K F H kf v t (S i):=p;refine p.mono s.ff λb hb=>?_;let#[d1,d2]:=p.dom b hb;have nu:=I.lockU y h hb;refine#[?_,?_];cases eb:H b with|none=>exact i3 eb d1|some u=>exact s.hh b u eb nu
   by_cases q:D b=kv
   ·exact q
   exact((s.fn b d2 q).elim nu d1).elim
 rw[g i h];exact W.sl i a f;rcases get i _ f with⟨h,t',X,a2,_⟩| ⟨h,X⟩
 ·rw[l i h]at hb
  rcases get k a Y with⟨w,t2,Z,b2,_⟩| ⟨w,Z⟩
  rw[l k w]at hk;exact I.dj i k t' _ n X Z b hb hk;rw[g k w]at hk;exact Q i h k a w Z b hb hk
 rw[g i h]at hb;rcases get k a Y with⟨w,t2,Z,b2,_⟩| ⟨w,Z⟩
 rw[l k w]at hk;exact Q k w i _ h X b hk hb;rw[g k w]at hk;exact W.dj i k t a n X Z b hb hk;rcases get i _ h1 with⟨h,t',X,a2,_⟩| ⟨h,X⟩
 ·rw[l i h]at h2
  exact .inl #[i,t',X,h2]
 rw[g i h]at h2;exact(s.uu b #[i,t,X,h2]).imp (mF y) id;rcases get j _ e with⟨_,_,_,_,z⟩| ⟨hj,f⟩
 ·cases z
 let#[m,p,g3]:=s.bo j t (by simp) f o;rcases UL y m with⟨q,_⟩| ⟨_,m⟩
 exact i3 q hj;exact#[m,(g j hj).trans p,g3]
end
theorem IR{i:Nat}(h:(!C.contains i)=kf):i∉C:=λz=>by have:C.contains i=true:=Qv.mpr z;rw[this]at h;cases h
theorem DU{x:LN}(h:(x.all λi=>!C.contains i)=kf):∀i∈x,i∉C:=λi y=>IR (Q0.mp h i y)
theorem G2:∀{xs:List (T×Bool)},pT xs=kf->∀t∈pP xs,t.isD=kf
 |[],_,t,h=>by simp[pP]at h|p::r,h,t,y=>by
  simp only[pT,Qb]at h;simp only[pP,QK]at y;rcases y with rfl|y;let#[x,n]:=p;cases n with
  |true=>rfl|false =>
   have z:=h.1;cases x with|d x=>rfl|_=>cases z
  exact G2 h.2 t y
theorem Tn.bare{Y:YB}{vs:LV}{ts:LT}(h:Tn K F H Y vs ts):(∀t∈ts,t.isD=kf)->Tn K F H (λ_=>False) vs ts:=by
 induction h with
 |nil=>exact λ_=>.nil|@cons v t vs ts Z r z a w =>
  intro y;refine .cons (Z:=λ_=>False) ?_ (λ_ z=>z) (w λu k=>y u (QF _ k));have y:=y t QE;cases t with
  |d x=>cases r with|d q _=>exact .d q λ_ z=>z
  |_=>cases y
theorem N7{v:V}{t:T}{W:YB}{Z:PEnds}{h:Ends}(ok:EndsOk K C F H S ρ σ Z h)(s:Ste F H S ρ D B S1 A)(I:Rl K D B S1 A σ)(r:Tr K D B kf v t W)(x:Held D B S1 A W)(fr:∀b,W b->H b=kv∨U ρ S b)(q:Z.rt t A):h.rt v B :=
 ok.rt v t W D B S1 A σ (s.toStp.sts (J:=[])).c I r x fr q
theorem XR(g:GOk K Γ Ψ):∀(e:PX) {F H:Hp}{S:Ft}{ρ:xA}{σ:St}{Z:PEnds}{f:Ends},Rl K F H S ρ σ->HF K F H S ρ E O->aD Ψ E Z.rt e ρ->EndsOk K C F H S ρ σ Z f->(wp K Γ e O).e σ H f.rt:=by
  intro e F H S ρ σ Z f I X h ok;have o:∀e,(pe Ψ e E).e ρ (λx n A=>XH x n=kf/\Z.rt x A)->(wp K Γ e O).e σ H f.rt:=λe h=>by refine(MA g e).e (Q:=λx n A=>XH x n=kf/\Z.rt x A) I X h λv F' H' S' m x n Za s J r #[he,q]=>?_;let#[W,p,Y,fr]:=r.strict he;exact N7 ok s J p Y fr q
  cases e with
  |ife t a b =>
   have h:(pe Ψ t E).t ρ λk A=>if k=kf then aD Ψ E Z.rt a A else aD Ψ E Z.rt b A:=h
   refine(MA g t).t I X h λk F' H' S' m s J q=>?_;cases k with|true=>exact XR g a J (X.from s.toStp) q (ok.from s.toStp.sts)|false=>exact XR g b J (X.from s.toStp) q (ok.from s.toStp.sts)
  |var i =>
   have y:Dy ρ i Z.rt ρ[i]?:=h;show(match σ[i]? with|some (jr v)=>f.rt v _|_=>False)
   match l:ρ[i]?,y with
   |some (jr (.own t)),y =>
    let#[v,w,r]:=I.sl i _ l;rw[w];have I0:Rl K F H S (ρ.set i kv) σ:=I.drop (by simp) λj s e=>by
     rcases gA e with⟨_,z,_⟩| ⟨_,e⟩
     cases z;exact e
    refine ok.rt v t (S i) F H S (ρ.set i kv) σ #[.refl _,λb u e _=>e,λb e=>e,λb e z=>i3 e z,λb #[j,u,w,h2]=>.inl ?_,λ_ _=>rfl] I0 r #[r.dom,λj s e b hb z=>?_] (λb hb=>.inr #[i,t,l,hb]) y;rcases gA w with⟨_,z,_⟩| ⟨_,w⟩
    ·cases z
    exact#[j,u,w,h2];rcases gA e with⟨_,q,_⟩| ⟨n,e⟩
    ·cases q
    exact I.dj i j t s n l e b hb z
   |some (jr (.bor t)),y =>
    let#[v,w,r]:=I.sl i _ l;rw[w];let#[L,y]:=y;cases t with
    |d x =>
     have r:Tr K F H kd v (.d x) (S i):=r;cases r with|d q n=>exact N7 (W:=λ_=>False) ok .refl I (.d q λ_ z=>z) .none (λ_ z=>z.elim) y
    |_=>cases L
   |some kv,y=>exact y.elim|none,y=>exact y.elim
  |_=>exact o _ h
theorem uJ(g:GOk K Γ Ψ):∀(p:PT) {F H:Hp}{S:Ft}{ρ:xA}{σ:St}{Z:PEnds}{Dn:Ends},eK C p=kf->Rl K F H S ρ σ->HF K F H S ρ E O->mB Ψ E p Z ρ->EndsOk K C F H S ρ σ Z Dn->FT K Γ O p Dn σ H
 | .nil,_,_,_,_,_,_,_,c,I,X,h,ok=>ok.nx _ _ _ _ _ .refl I h|.seq s r,_,_,_,_,_,_,_,c,I,X,h,ok=>by let#[c1,c2]:=vA c;exact uJ g s c1 I X h #[λF' H' S' L σ' s' J q=>uJ g r c2 J (X.fromS s') q (ok.from s'),ok.rt,ok.bk,ok.ct]|.set i e,F,H,S,ρ,σ,Z,Dn,c,I,X,h,ok=>by have hi:=IR c;refine AD (RR:=λx B=>Dn.nx (σ.set i (jr x)) B) (MA g e) I X h λv F' H' S' L x n Za s J X' r er _ #[he,q]=>?_;exact ok.nx _ _ _ _ _ (s.toStp.sts.setD i hi v rfl _) (J.setD i (er he)) q|.expr e,F,H,S,ρ,σ,Z,Dn,c,I,X,h,ok=>(MA g e).e I X h λv F' H' S' L x n Za s J r q=>ok.nx _ _ _ _ _ s.toStp.sts J q|.ret e,F,H,S,ρ,σ,Z,Dn,c,I,X,h,ok=>XR g e I X h ok|.ife t a b,F,H,S,ρ,σ,Z,Dn,c,I,X,h,ok=>by
  let#[c1,c2]:=vA c;refine(MA g t).t I X h λk F' H' S' L s J q=>?_;cases k with|true=>exact uJ g a c1 J (X.from s.toStp) q (ok.from s.toStp.sts)|false=>exact uJ g b c2 J (X.from s.toStp) q (ok.from s.toStp.sts)
 | .for_ tg ik its body,F,H,S,ρ,σ,Z,Dn,c,I,X,h,ok=>by
  let#[c1,c2]:=vA c;have hC:=DU c1;refine yZ (RR:=λvs B=>pC K ik vs B λxs st N=>gq K xs st tg (FT K Γ O body) Dn σ N) (MA g its) I X h λvs D B S1 A xs Y s1 I1 X1 tn tm q=>?_;rw[KM _ rfl]at q;have ok1:=ok.from s1.toStp.sts;cases ha:pT xs with
  |true=>have tn':=tn.bare (G2 ha);refine YK I1.fh tn' q λits ys st pr hst hc=>?_;rw[ha,i0 rfl]at hc;refine D1 (λI X h ok=>uJ g body c2 I X h ok) I1 X1 hC pr (λb z=>z.elim) hst hc ?_ ?_;exact λF' H' S' L σ' s' I' q=>ok1.nx _ _ _ _ _ s'.kill (I'.drop (SN _ _) λi sl e=>(tG _ _ i sl e).1) q;exact λv t W F' H' S' L σ' s' I' r hw fr q=>ok1.rt v t W F' H' S' L σ' s' I' r hw fr q|false =>
   refine YK I1.fh tn q λits' ys st pr hst hc=>?_;rw[ha,ii (by simp)]at hc;have hL:=bI (ρ:=A) (jG its);have IL:=I1.lock hL;have sL:Sts C [] D B S1 A σ D B (λ_ _=>False) [] σ:=#[.refl _,λb u e _=>e,λb e=>e,λb e z=>i3 e z,λb #[i,t,e,_]=>by simp at e,λj t _ e=>by simp at e,λ_ _=>rfl]
   have XL:HF K D B S1 (lock (gC A (jG its)) A) E O:=λx dx F2 N P M s2 f r q =>
    X1 x dx F2 N (λ_ _=>False) [] #[s2.ff,λb u e n=>s2.hh b u e λz=>n (mF hL z),s2.dm,λb e z=>(s2.fn b e z).imp (mF hL) id,λb #[i,t,e,_]=>by simp at e,λj t e=>by simp at e] f r q
   refine D1 (λI X h ok=>uJ g body c2 I X h ok) IL XL hC pr (λb hb=>?_) hst hc ?_ ?_;let#[i,sl,h1,h2,h3]:=tm b hb;refine#[λu=>?_,I1.dom h2 h3];cases sl with
   |own t=>exact I1.lockU hL (KN h2 _ h1) h3 u|bor t =>
    let#[j,t',e1,e2]:=u;rcases UL hL e1 with⟨_,_,_,z⟩| ⟨_,e1⟩
    cases z;exact I1.dj j i t' _ (λz=>by subst z;rw[h2]at e1;cases e1) e1 h2 b e2 h3
   intro F' H' S' L σ' s' I' #[q1,q2];have sk:=s'.kill;have Ik:=I'.drop (SN tg.ix L) λi sl e=>(tG _ _ i sl e).1;let#[P,I2,s2]:=Y3 hL I1 sk Ik λi hi=>(q1 i hi).2;exact ok1.nx _ _ _ _ _ s2 I2 q2;intro v t W F' H' S' L σ' s' I' r hw fr q;exact ok1.rt v t W F' H' S' L σ' #[s'.ff,λb u e n=>s'.hh b u e λz=>n (mF hL z),s'.dm,λb e z=>(s'.fn b e z).imp (mF hL) id,λb u=>(s'.uu b u).imp (mF hL) id,s'.sg] I' r hw (λb hb=>(fr b hb).imp id (mF hL)) q
 | .own i e,F,H,S,ρ,σ,Z,Dn,c,I,X,h,ok=>by refine(MA g e).e (Q:=λx n A=>XH x n=kf/\Z.nx (A.set i (jr (.own x)))) I X h λv F' H' S' L x n Za s J r #[he,q]=>?_;let#[W,r2,hw,fr]:=r.strict he;exact ok.nx _ _ _ _ _ (s.toStp.sts.setN i (IR c) v x fr) (J.setN i r2 λj sl _ e b hb=>hw.nw j sl e b hb) q|.tset is e,F,H,S,ρ,σ,Z,Dn,c,I,X,h,ok=>by
  have hc:=DU c;refine AD (RR:=λx B=>EE K (.tp is) x σ B Dn.nx) (MA g e) I X h λv F' H' S' L x n Za s J X' r er _ #[he,q]=>?_;have q2:CL (.tp is) (.d x.er) L λM=>Z.nx M/\∀(j:Nat) t,M[j]?=jr (jr (.bor t))->t.isD=kd->j∉is:=by
   generalize x.er=d at q;cases d with
   |tuple ds=>let#[M,e,q]:=q;exact#[M,e,q,λj t h1 h2=>(IP is ds e j t h1 h2).1]|dict kvs =>
    have q:(match GB kvs with | .tp ts=>∃M,KB is ts L=jr M/\Z.nx M|_=>False):=q;unfold GB at q;cases ek:RC kvs with|none=>rw[ek]at q;exact q.elim|some b=>rw[ek]at q;exact q.elim
   |_=>exact q.elim
  refine sO (Y:=λ_=>False) (it:=.one v) J (λb z=>z.elim) #[λ_=>False,.d (er he) λ_ z=>z,λ_ z=>z] q2 λM R F2 N P bd J2 qn=>?_;have st:=(s.toStp.sts (σ:=σ) (C:=C) (J:=is)).bind bd (λj hj=>hj) hc;exact ok.nx _ _ _ _ _ #[st.ff,st.hh,st.dm,st.fn,st.uu,λj t _ e hd=>st.bo j t (qn.2 j t e hd) e hd,st.sg] J2 qn.1
 | .six o i e,F,H,S,ρ,σ,Z,Dn,c,I,X,h,ok=>by
  have later:∀{j:Nat}{t:T}{v0:V},ρ[j]?=jr (jr (.own t))->Tr K F H kf v0 t (S j)->∀{F' H':Hp}{S':Ft}{L:xA},Ste F H S (ρ.set j (jr (.bor t))) F' H' S' L->Tr K F' H' kf v0 t (S j)/\∀b,S j b->H' b=H b:=λ{j t v0} hj r0 {F' H' S' L} s=>#[s.toStp.keep r0 (I.lock1U hj),λb hb=>by
   cases e:H b with|none=>exact i3 e (r0.dom b hb).1|some u=>exact s.hh b u e (I.lock1U hj b hb)]
  cases o with
  |var j =>
   have h:xD ρ[j]? _:=h;unfold xD at h;split at h;rename_i t hj;let#[v0,hv,r0]:=I.sl j _ hj;have r0:Tr K F H kf v0 t (S j):=r0;show(wp K Γ e O).e σ H λv B=>(wp K Γ (.var j) O).e σ B λov N=>(wp K Γ i O).e σ N λiv H3=>gU K ov iv v H3 λH4=>Dn.nx σ H4;refine AD (MA g e) (I.lock1 hj) (X.lock1 hj) h λxv D B S1 A x n Zx s1 I1 X1 _ er1 _ #[he,q1]=>?_;have rx:=er1 he;show(match σ[j]? with|some (jr v)=>_|_=>False);rw[hv];refine AD (MA g i) I1 X1 q1 λiv F2 N P M y m Zy s2 I2 X2 _ er2 _ #[he2,hj2,q2]=>?_;have s12:=s1.trans s2;refine f7 I2.fh (later hj r0 s12).1 (er2 he2) (rx.mono s2.ff) q2 λt' H3 S3 hh dm rt sub q=>?_;let#[st,I3,_]:=vJ (W:=λ_=>False) I hj hv s12 I2 hh dm rt (λb hb=>.inl (sub b hb)) .none (λ_ z=>z.elim);exact ok.nx _ _ _ _ _ st.toStp.sts I3 q
   all_goals exact h.elim
  |idx a k =>
   cases a with
   |var j =>
    have h:xD ρ[j]? _:=h;unfold xD at h;split at h;rename_i t hj;let#[v0,hv,r0]:=I.sl j _ hj;have r0:Tr K F H kf v0 t (S j):=r0;show(wp K Γ e O).e σ H λv B=>(wp K Γ (.var j) O).e σ B λov N=>(wp K Γ k O).e σ N λzv H3=>T3 K ov zv H3 λow H4=>(wp K Γ i O).e σ H4 λiv H5=>gU K ow iv v H5 λH6=>Dn.nx σ H6;refine AD (MA g e) (I.lock1 hj) (X.lock1 hj) h λxv D B S1 A x n Zx s1 I1 X1 _ er1 _ #[he,q1]=>?_;have rx:=er1 he;show(match σ[j]? with|some (jr v)=>_|_=>False);rw[hv];refine AD (MA g k) I1 X1 q1 λzv F2 N P M z l Zz s2 I2 X2 _ er2 _ #[hez,b,ks,ts,n,s,et,hk,hf,ht,q2]=>?_;have s12:=s1.trans s2;have rz:=er2 hez;subst et;let#[r2,k2]:=later hj r0 s12;obtain⟨a,o,vs,ea,ho,dk,hw⟩:∃a o vs,v0=.ref a/\N a=jr o/\DI K F2 b o ks vs/\∃w,vs[n]?=jr w/\S j a:=by
     cases r2 with|dct h1 dk h2 h3 h4 h5=>let#[w,_,g1,_]:=h3.get ht;exact#[_,_,_,rfl,h1,dk,w,g1,(h5 _).mpr (.inl rfl)]
    let#[w,hw,sa]:=hw;subst ea;have gd:=(dk.mono I2.fh).get ho (rz.mono I2.fh) hk;rw[hf]at gd;have gd:JT K N a zv (vs[n]?):=gd;rw[hw]at gd;have fin:(wp K Γ i O).e σ N λiv H5=>gU K w iv xv H5 λH6=>Dn.nx σ H6:=by
     refine AD (MA g i) I2 X2 q2 λiv F3 H3 S3 ρ3 y m Zy s3 I3 X3 _ er3 _ #[he3,hj3,q3]=>?_;have s13:=s12.trans s3;let#[r3,k3]:=later hj r0 s13;have ho3:H3 a=jr o:=by rw[k3 a sa,<- k2 a sa];exact ho
     refine Sc I3.fh r3 ho3 dk hw ht (er3 he3) ((rx.mono s2.ff).mono s3.ff) q3 λt' H4 S4 hh dm rt sub q=>?_;let#[st,I4,_]:=vJ (W:=λ_=>False) I hj hv s13 I3 hh dm rt (λb hb=>.inl (sub b hb)) .none (λ_ z=>z.elim);exact ok.nx _ _ _ _ _ st.toStp.sts I4 q
    cases zv with|str z=>exact#[w,gd,fin]|ref c=>exact#[w,gd,fin]|_=>exact gd.elim
    all_goals exact h.elim
   |_=>exact h.elim
  |_=>exact h.elim
 | .sdf j k,F,H,S,ρ,σ,Z,Dn,c,I,X,h,ok=>by
  have h:xD ρ[j]? _:=h;unfold xD at h;split at h;rename_i t hj;let#[v0,hv,r0]:=I.sl j _ hj;have r0:Tr K F H kf v0 t (S j):=r0;let#[hd,h]:=h;show(match σ[j]? with|some (jr v)=>f6 K "dict" v H/\(wp K Γ k O).e σ H λx B=>∀p,B p=kv->fM K v [x,.ref p] (FA B p (.dT 0 [])) λ_ N=>Dn.nx σ N|_=>False);rw[hv];constructor;cases r0 with
  |@dct _ b _ _ _ _ _ _ _ h1 dk _ _ _ _ =>
   cases b with|true=>let#[ep,kvs,rfl,_]:=dk;exact .inr (.inr (.inl #[rfl,.inr #[ep,kvs,h1]]))|false=>cases hd
  |_=>cases hd
  refine AD (MA g k) (I.lock1 hj) (X.lock1 hj) h λiv D B S1 A y m Zy s1 I1 X1 _ er _ #[he,hj1,q1]=>?_;intro p hp;have r1:=s1.toStp.keep r0 (I.lock1U hj);refine Tk I1.fh hp r1 (er he) q1 λt' H3 S3 hh dm rt sub q=>?_;let#[st,I3,_]:=vJ (W:=λ_=>False) I hj hv s1 I1 hh dm rt (λb hb=>(sub b hb).imp id λ(z:b=p)=>.inr (by rw[z];exact hp)) .none (λ_ z=>z.elim);exact ok.nx _ _ _ _ _ st.toStp.sts I3 q
  all_goals exact h.elim
 | .whl t body,F,H,S,ρ,σ,Z,Dn,c,I,X,h,ok=>by
  let#[W,#[m0,w0],turn]:=h;refine#[λm σ' H'=>∃L F' S',Sts C [] F H S ρ σ F' H' S' L σ'/\Rl K F' H' S' L σ'/\W m L,#[m0,ρ,F,S,.refl,I,w0],?_];rintro m G B ⟨A,D,S1,s1,I1,w1⟩;refine(MA g t).t I1 (X.fromS s1) (turn m A w1) λk F' H' S' L s' J q=>?_;have s2:=s1.trans s'.toStp.sts;cases k with
  |false=>exact ok.nx _ _ _ _ _ s2 J q|true =>
   refine#[λσ' H'=>∃m',m' < m/\∃L F' S',Sts C [] F H S ρ σ F' H' S' L σ'/\Rl K F' H' S' L σ'/\W m' L,λ_ _ z=>z,?_];refine uJ g body c J (X.fromS s2) q #[?_,?_,?_,?_];exact λF' H' S' L σ' s' I' #[m',hm,w]=>#[m',hm,L,F',S',s2.trans s',I',w]
   exact λv t W F' H' S' L σ' s' I' r hw fr q=>ok.rt v t W F' H' S' L σ' (s2.c.trans s') I' r hw (Nz s2 fr) q;exact λF' H' S' L σ' s' I' q=>ok.nx _ _ _ _ _ (s2.trans s') I' q;exact λF' H' S' L σ' s' I' #[m',hm,w]=>#[m',hm,L,F',S',s2.trans s',I',w]
 | .frz is s,F,H,S,ρ,σ,Z,Dn,c,I,X,h,ok=>by let#[F',S',I',s']:=I.frzAt (C:=C) is;exact uJ g s c I' (X.fromS s') h (ok.from s')
end
section
variable{z:Ev}{n:Need}
structure Need where
 fn:LS
 va:LS
 no:LS
noncomputable def az(n:Need):ItK->Bool
 | .val=>kf|.rng1=>n.no.contains ("range":Str)|.enum=>n.no.contains ("enumerate":Str)|.rev=>n.no.contains ("reversed":Str)|.itm=>kf
def sB(n:Need):PX->Bool
 | .glo x=>n.va.contains x|.dof a=>n.no.contains "dict" && sB n a|.bin _ a b | .cmp _ a b | .and a b | .or a b | .idx a b | .acons a b | .dsp a b=>sB n a&&sB n b
 | .not a | .lst a | .tup a=>sB n a
 | .lrv a=>n.no.contains "list" && (n.no.contains "reversed" && sB n a)|.ife a b c | .slc a b c=>sB n a&&(sB n b&&sB n c)
 | .call f y=>n.fn.contains f&&sB n y|.bi f y=>n.no.contains f.nm&&sB n y|.mt _ o y=>sB n o&&sB n y|.comp _ _ _ w u h v=>az n w&&(sB n u&&(sB n h&&sB n v))|_=>kf
def gF(n:Need):PT->Bool
 | .seq s r=>gF n s&&gF n r|.set _ e=>sB n e|.own _ e=>sB n e|.expr e=>sB n e|.ret e=>sB n e|.ife c a b=>sB n c&&(gF n a&&gF n b)|.for_ _ y x h=>az n y&&(sB n x&&gF n h)|.tset _ e=>sB n e|.six o i e=>sB n o&&(sB n i&&sB n e)|.sdf i k=>sB n (Bs i k)|.whl c b=>sB n c&&gF n b|.frz _ s=>gF n s|.nil=>kf
noncomputable def GS(z:Ev)(n:Need):Glob:=#[z,λf=>f∈n.fn,λx=>x∈n.va,λx=>x∈n.no]
theorem ga{x:ItK}(h:az n x=kf):Lu (GS z n) x:=by
 cases x with|val=>trivial|itm=>trivial|_=>exact Qv.mp h
theorem OC:∀(p:PX),sB n p=kf->vB (GS z n) p:=by
 intro p;induction p with
 |glo x=>intro h;exact Qv.mp h|dof a y=>intro h;let#[v,u]:=vA h;exact#[Qv.mp v,y u]|bin _ a b y w|cmp _ a b y w|and a b y w|or a b y w|idx a b y w|acons a b y w|dsp a b y w=>intro h;let#[v,u]:=vA h;exact#[y v,w u]
 |not a y|lst a y|tup a y=>intro h;exact y h
 |ife a b c y w i|slc a b c y w i=>intro h;let#[v,g]:=vA h;let#[u,k]:=vA g;exact#[y v,w u,i k]
 |call f l y=>intro h;let#[v,u]:=vA h;exact#[Qv.mp v,y u]|lrv a y=>intro h;let#[v,u]:=vA h;let#[k,e]:=vA u;exact#[Qv.mp v,Qv.mp k,y e]|bi f l y=>intro h;let#[v,u]:=vA h;exact#[Qv.mp v,y u]|mt _ o l q y=>intro h;let#[v,u]:=vA h;exact#[q v,y u]|comp _ _ _ Z m j Y X s r=>intro h;let#[v,h]:=vA h;let#[u,h]:=vA h;let#[k,e]:=vA h;exact#[ga v,X u,s k,r e]|_=>intro _;trivial
theorem Z4:∀(p:PT),gF n p=kf->fF (GS z n) p:=by
 intro p;induction p with
 |seq s r f l=>intro h;let#[u,y]:=vA h;exact#[f u,l y]|set _ e|own _ e|expr e|ret e|tset _ e=>intro h;exact OC _ h
 |six o i e=>intro h;let#[u,x]:=vA h;let#[y,w]:=vA x;exact#[OC _ u,OC _ y,OC _ w]|sdf i k=>intro h;exact OC _ h|frz _ s f=>intro h;exact f h|whl c b v=>intro h;let#[u,y]:=vA h;exact#[OC _ u,v y]|ife c a b m v=>intro h;let#[u,x]:=vA h;let#[y,w]:=vA x;exact#[OC _ u,m y,v w]|for_ _ q j g v=>intro h;let#[u,x]:=vA h;let#[y,w]:=vA x;exact#[ga u,OC _ y,v w]|_=>intro _;trivial
noncomputable def yO(N h:LS)(sc:hE):Bool:=sc.kind==.function&&!sc.isCoroutine&&!sc.isGenerator&&aK N&&N.take h.9==h &&
 h.all (λx=>sc.names.lookup x==jr .local||sc.names.lookup x==jr .cell)&&sc.names.all λy=>y.2 != .free
theorem YV{N x:LS}{sc:hE}(h:yO N x sc=kf):FnScope N x sc:=by simp only[yO,Qb,Q0,Wa,beq_iff_eq,Q7,bne_iff_ne,ne_eq]at h;let#[#[#[#[#[#[b,a],k],w],v],u],y]:=h;exact#[b,a,k,ME w,v,u,y]
def BA(n:Need)(b:PT)(N h:LS)(st:gV):Bool:=yO N h (EA st)&&RS b #[N,EA st] (iC st)&&gF n b
def jm:Md->T->Sl
 | .chg,t=>.own t|_,t=>.bor t
noncomputable def fE:List Md->LT->xA
 |_,[]=>[]|md,t::ts=>jr (jm (md.headD .fro) t)::fE md.tail ts
def rB(N:LS)(md:List Md)(ts:LT):xA:=fE md ts++QAW (N.9 - ts.9) kv
noncomputable def BB:Nat->List Md->Nat->LN
 |_,_,0=>[]|k,md,n+1=>match md.headD .fro with
  | .chg=>k::BB (k+1) md.tail n|_=>BB (k+1) md.tail n
def tX:Option (LT)->(LT->Prop)->Prop
 |some os,Q=>Q os|none,_=>False
def zD(P:PSp)(n:Nat)(Q:T->LT->Prop):PEnds where
 nx:=λh=>tX (NA (BB 0 P.md n) h) (Q (.d .none))
 rt:=λt h=>tX (NA (BB 0 P.md n) h) (Q t)
abbrev jB0(Ψ:PEv)(b:PT)(p:PSp)(N h:LS)(ds:LT)(Q:T->LT->Prop):Prop:=ds.9=h.9/\pF Ψ b (zD p h.9 Q) (rB N p.md ds)
abbrev EC(Ψ:PEv)(b:PT)(p:PSp)(N x:LS):Prop:=∀(h:LT) (Q:T->LT->Prop) (E:XE),p.run h Q E->h.9=x.9/\pF Ψ b (zD p x.9 Q) (rB N p.md h)
def NW(mg:Str->Option kb)(x:Str):V:=((mg x).bind XO).getD .non
def vv(K:QC)(mg:Str->Option kb)(Ψ:PEv):Ev:=#[λf=>lift K (Ψ.sp f),NW mg]
structure ValsOk(P:k5)(w:xb)(K:QC)(mg:Str->Option kb)(Ψ:PEv)(va:LS):Prop where
 rep:∀x d,Ψ.va x=jr d->∀F,Rep K F (NW mg x) d
 has:∀x∈va,∃u v,mg x=jr u/\XO u=jr v
theorem CZ{u:kb}{v:V}(h:XO u=jr v):JA v u:=by cases u<;>first | (obtain rfl:=Qm h;first|rfl|exact#[_,rfl])|exact nomatch (show(none:Option V)=jr v from h)
end
section
variable{P:k5}{w:xb}{K:QC}{mg:Str->Option kb}{base:vu}{Ψ:PEv}
section
variable{k:Nat}{F H:Hp}{Y M:YB}{md:List Md}{vs:LV}{ts:LT}{N l:LS}{R:PSp}{x o:Str}{st:gV}{f:ko}{p:zl}{n:Need}
def jH(P:k5)(w:xb)(K:QC)(mg:Str->Option kb)(base:vu)(Ψ:PEv)(k:Nat)(f:Str):Prop :=
 ∃(a:ko) (p:zl) (l:LS),FnOk P w K mg base Z6 k a p l (lift K (Ψ.sp f))/\mg f=jr (.ref a)/\wW K (.ref a)=kf/\xK K p l []
theorem jH.mono{j:Nat}{f:Str}(h:jH P w K mg base Ψ j f)(hk:j<=k):jH P w K mg base Ψ k f:=by let#[a,p,l,z,y]:=h;exact#[a,p,l,z.mono hk,y]
theorem ArgsR.length(h:ArgsR K F H Y md vs ts):vs.9=ts.length:=by
 induction h with|nil=>rfl|chg _ _ e=>exact o9 Nat.succ e|rd _ _ _ _ e=>exact o9 Nat.succ e
theorem oJ:∀(m:List Md) (ts:LT),(fE m ts).9=ts.9
 |_,[]=>rfl|m,d::ds=>by unfold fE;rw[QM,QM,oJ]
theorem V8{m:Md}(h:m≠.chg)(t:T):jm m t=.bor t:=by cases m<;>first|rfl|exact i3 rfl h
theorem cI(md:List Md)(v:V)(vs:LV):JB md (v::vs)=match md.headD .fro with | .chg=>v::JB md.tail vs|_=>JB md.tail vs:=by first | (rw[JB];done) | (rw[JB];cases md.headD .fro<;>rfl)
theorem GN(md:List Md)(v:T)(vs:LT):MB md (v::vs)=match md.headD .fro with | .chg=>v::MB md.tail vs|_=>MB md.tail vs:=by first | (rw[MB];done) | (rw[MB];cases md.headD .fro<;>rfl)
theorem fQ(md:List Md)(t:T)(ts:LT):fE md (t::ts)=jr (jm (md.headD .fro) t)::fE md.tail ts:=by rw[fE]
theorem Yg(h:ArgsR K F H Y md vs ts)(r:Trs K F H kf (JB md vs) (MB md ts) M) :
  ∃Z:Ft,(∀(i:Nat) s,(fE md ts)[i]?=jr (jr s)->∃v,vs[i]?=jr v/\Tr K F H s.st v s.t (Z i))/\(∀(i:Nat) t,(fE md ts)[i]?=jr (jr (.own t))->∀b,Z i b->M b)/\(∀(i:Nat) t,(fE md ts)[i]?=jr (jr (.bor t))->∀b,Z i b->Y b) /\
   ∀(i j:Nat) t u,i≠j->(fE md ts)[i]?=jr (jr (.own t))->(fE md ts)[j]?=jr (jr (.own u))->∀b,Z i b->¬ Z j b:=by
 induction h generalizing M with
 |nil=>exact#[λ_ _=>False,λi s e=>by simp[fE]at e,λi t e=>by simp[fE]at e,λi t e=>by simp[fE]at e,λi j t u _ e=>by simp[fE]at e]|@chg md v vs t ts a O A =>
  have J:JB md (v::vs)=v::JB md.tail vs:=by rw[cI,a]
  have I:MB md (t::ts)=t::MB md.tail ts:=by rw[GN,a]
  rw[J,I]at r;cases r with
  |@cons _ _ _ _ _ _ L Z2 W Q n q =>
   let#[Z,E,g,C,B]:=A Q;have G:fE md (t::ts)=jr (.own t)::fE md.tail ts:=by rw[fQ,a];rfl
   rw[G];refine#[λi=>match i with|0=>L|i+1=>Z i,λi s e=>?_,λi u e b hb=>?_,λi u e b hb=>?_,λi j u w X e m b hb y=>?_];cases i with|zero=>simp at e;subst e;exact#[v,rfl,W]|succ i=>exact E i s (by simpa using e)
   cases i with|zero=>exact(q b).mpr (.inl hb)|succ i=>exact(q b).mpr (.inr (g i u (by simpa using e) b hb))
   cases i with|zero=>simp at e|succ i=>exact C i u (by simpa using e) b hb
   cases i with
   |zero =>
    cases j with|zero=>exact X rfl|succ j=>exact n b hb (g j w (by simpa using m) b y)
   |succ i =>
    cases j with|zero=>exact n b y (g i u (by simpa using e) b hb)|succ j=>exact B i j u w (λz=>X (by rw[z])) (by simpa using e) (by simpa using m) b hb y
 |@rd md v vs t ts L a W S O A =>
  have J:JB md (v::vs)=JB md.tail vs:=by rw[cI];cases e:md.headD .fro<;>first|exact i3 e a|rfl
  have I:MB md (t::ts)=MB md.tail ts:=by rw[GN];cases e:md.headD .fro<;>first|exact i3 e a|rfl
  rw[J,I]at r;let#[Z,E,g,C,B]:=A r;have G:fE md (t::ts)=jr (.bor t)::fE md.tail ts:=by rw[fQ,V8 a]
  rw[G];refine#[λi=>match i with|0=>L|i+1=>Z i,λi s e=>?_,λi u e b hb=>?_,λi u e b hb=>?_,λi j u w X e m b hb y=>?_];cases i with|zero=>simp at e;subst e;exact#[v,rfl,W]|succ i=>exact E i s (by simpa using e)
  cases i with|zero=>simp at e|succ i=>exact g i u (by simpa using e) b hb
  cases i with|zero=>exact S b hb|succ i=>exact C i u (by simpa using e) b hb
  cases i with
  |zero=>simp at e|succ i =>
   cases j with|zero=>simp at m|succ j=>exact B i j u w (λz=>X (by rw[z])) (by simpa using e) (by simpa using m) b hb y
theorem d7(f:Same F H)(h:ArgsR K F H Y md vs ts)(r:Trs K F H kf (JB md vs) (MB md ts) M)(C:∀b,Y b->¬ M b) :
  ∃S,Rl K F H S (rB N md ts) (sD N vs)/\∀b,U (rB N md ts) S b->M b:=by
 let#[Z,A,a,W,X]:=Yg h r;have hl:=h.9;have get:∀(i:Nat) s,(rB N md ts)[i]?=jr (jr s)->(fE md ts)[i]?=jr (jr s):=λi s e=>by
  unfold rB at e;rcases QBH i ts.9 with z|z
  ·rwa [qL (by rw[oJ];exact z)]at e
  rw[Qy (by rw[oJ];exact z),wk]at e;split at e<;>cases e
 refine#[Z,#[f,?_,λi s e=>?_,λi j t s n q m b hb y=>?_],λb #[i,t,e,hb]=>a i t (get i _ e) b hb];unfold rB sD;rw[QJ,QJ,oJ,QA,qz,qz,hl];let#[v,g,B]:=A i s (get i s e);refine#[v,?_,B];unfold sD;rw[qL (by rw[QA];exact(Qh.mp g).1),Qc,g];rfl;cases s with|own u=>exact X i j t u n (get i _ q) (get j _ m) b hb y|bor u=>exact C b (W j u (get j _ m) b y) (a i t (get i _ q) b hb)
theorem ZQ:∀{md:List Md}{k n:Nat}{vs:LV}{σ:St},vs.9=n->(∀(i:Nat) v,vs[i]?=jr v->σ[k+i]?=jr (jr v))->(JB md vs).map (λv=>jr (jr v))=(BB k md n).map λj=>σ[j]?
 |md,k,0,vs,σ,h,g=>by
  cases vs with|nil=>rfl|cons _ _=>cases h
 |md,k,n+1,vs,σ,h,g=>by
  cases vs with
  |nil=>cases h|cons v vs =>
   have y:=ZQ (md:=md.tail) (k:=k+1) (n:=n) (vs:=vs) (σ:=σ) (by simpa using h) λi w z=>by have:=g (i+1) w (by simpa using z);rw[show k+1+i=k+(i+1) by omega];exact this
   have g0:=g 0 v rfl;rw[cI];unfold BB;cases e:md.headD .fro with|chg=>simp only[QU,y];rw[show σ[k]?=jr (jr v) from g0]|_=>exact y
theorem dO:∀{md:List Md}{k n j:Nat},j∈BB k md n->k<=j
 |md,k,0,j,h=>by simp[BB]at h|md,k,n+1,j,h=>by
  unfold BB at h;cases e:md.headD .fro with
  |chg=>rw[e]at h;rcases QK.mp h with z|z;omega;have:=dO z;omega
  |_=>rw[e]at h;have:=dO h;omega
theorem MV:∀(md:List Md) (k n:Nat),(BB k md n).Nodup
 |md,k,0=>Qx|md,k,n+1=>by
  have h:=MV md.tail (k+1) n;unfold BB;cases e:md.headD .fro with|chg=>exact Qj.mpr #[λz=>by have:=dO z;omega,h]|_=>exact h
theorem Ga{b:PT}(F:Fun K x o st f p)(yC:BA n b N l st=kf)(hc:eK (BB 0 R.md l.9) b=kf)
  (fns:∀g∈n.fn,jH P w K mg base Ψ k g) (G:ValsOk P w K mg Ψ n.va) (nos:∀y∈n.no,mg y=kv)
  (body:∀ts Q E,R.run ts Q E->ts.9=l.9/\pF Ψ b (zD R l.9 Q) (rB N R.md ts)):FnOk P w K mg base Z6 (k+1) f p l (lift K R):=by
 let#[c12,c3]:=vA yC;let#[c1,c2]:=vA c12;have S:=YV c1;refine F.ok S (λvs H Q E h=>?_) (λcdv A L s H vs Q E hr h=>?_);let#[F',ts,M,Y,h1,h2,h3,h4,h5]:=h;rw[h2.9];exact(body ts _ _ h5).1;let#[F',ts,M,Y,h1,h2,h3,h4,h5]:=h;have q:=(body ts _ _ h5).2;have hlen:=(body ts _ _ h5).1;have ok:OkS ((YY Z6 P w K mg base N o (EA st) f cdv A L s H E).nox) #[N,EA st] (GS (vv K mg Ψ) n) E0:={
  N:=rfl
  sc:=rfl
  calm:=rfl
  un:=by have:=hr.un;show(A.deeper _).units+66<gp;omega
  fn:=λg hg=>by let#[a,gd,gps,g1,g2,g3,g4]:=fns g hg;exact#[Z6,k,a,gd,gps,g1,hr,g2,g3,g4,ft,λ_ _ _ _ _ z=>z]
  val:=λy hy=>by let#[u,v,e1,e2]:=G.has y hy;refine#[u,e1,?_];show JA (NW mg y) u;unfold NW;rw[e1];show JA ((XO u).getD .non) u;rw[e2];exact CZ e2
  no:=λy hy=>nos y hy
  po:=PassesOwn.never
  nd:=S.nd
  cel:=λ_=>rfl }
 refine#[_,(ay b ok c2 (Z4 b c3)).1,?_];let#[S0,I,hU]:=d7 (N:=N) h1 h2 h3 h4;have g:GOk K (vv K mg Ψ) Ψ:=#[λ_ _ _ _ _ h=>h,λy d e F=>G.rep y d e F]
 have hvl:vs.9=l.length:=h2.length.trans hlen;have fin:∀v t W C B J m X,Stc (BB 0 R.md l.9) F' H S0 (rB N R.md ts) (sD N vs) C B J m X->Rl K C B J m X->Tr K C B kf v t W->Held C B J m W->(∀b,W b->H b=kv∨U (rB N R.md ts) S0 b) ->
   tX (NA (BB 0 R.md l.9) m) (λos=>∀v F3 H3 Z M',Frm M F' H F3 H3->Tr K F3 H3 kf v t Z->Trs K F3 H3 kf (JB R.md vs) os M'->(∀b,Z b->¬ M' b)->(∀b,Z b∨M' b->M b∨H b=kv)->Q v H3)->Q v B:=by
  intro v t W C B J m X s I2 r hw fr q;cases eo:NA (BB 0 R.md l.9) m with
  |none=>rw[eo]at q;exact q.elim|some os =>
   rw[eo]at q;have hv:(JB R.md vs).map (λv=>jr (jr v))=(BB 0 R.md l.9).map λj=>X[j]?:=by rw[ZQ (md:=R.md) (k:=0) (n:=l.9) (vs:=vs) (σ:=sD N vs) hvl λi w hw=>?_];exact wN λj O=>(s.sg j O).symm;unfold sD;rw[Wr,qL (by rw[QA];exact(Qh.mp hw).1),Qc,hw];rfl
   have trs:=I2.trs (MV _ _ _) eo hv;have own:∀j∈BB 0 R.md l.9,∃t,m[j]?=jr (jr (.own t)):=λj O=>by let#[i,hi]:=Ww.mp O;let#[t,_,e]:=(TD eo).2 i j hi;exact#[t,e]
   have lk:∀b,U (rB N R.md ts) S0 b∨H b=kv->M b∨H b=none:=λb hb=>hb.imp (hU b) id;refine q v C B W _ #[s.ff,I2.fh,λb u e n=>s.hh b u e λz=>n (hU b z),s.dm,λb e z=>lk b (s.fn b e z)] r trs (λb hb #[j,O,z]=>?_) λb hb=>?_;let#[t',e]:=own j O;exact hw.nw j _ e b hb z;rcases hb with hb|⟨j,O,z⟩
   ·exact lk b (fr b hb).symm
   let#[t',e]:=own j O;exact lk b (s.uu b #[j,t',e,z])
 refine uJ g b hc I (λ_ _ _ _ _ _ _ _ _ z=>z.elim) q #[?_,?_,λ_ _ _ _ _ _ _ z=>z.elim,λ_ _ _ _ _ _ _ z=>z.elim];intro C B J m X s I2 q;exact fin .non (.d .none) (λ_=>False) C B J m X s.c I2 (.d .non λ_ z=>z) .none (λ_ z=>z.elim) q;intro v t W C B J m X s I2 r hw fr q;exact fin v t W C B J m X s I2 r hw fr q
theorem Ua{h:PEv}{b:PT}(F:Fun K x o st f p)(a:mg x=jr (.ref f))(hb:xK K p l [])(yC:BA n b N l st=kf)(hc:eK (BB 0 R.md l.9) b=kf)
  (v:∀g∈n.fn,jH P w K mg base Ψ k g) (z:ValsOk P w K mg Ψ n.va) (u:∀y∈n.no,mg y=kv)
  (body:∀ts Q E,R.run ts Q E->ts.9=l.9/\pF Ψ b (zD R l.9 Q) (rB N R.md ts)) (e:h.sp x=R):jH P w K mg base h (k+1) x :=
 #[f,p,l,by rw[e];exact Ga F yC hc v z u body,a,F.kp,hb]
end
end
noncomputable def ZU:PSp where
 md:=[.shal]
 run:=λx Q _=>∃h:LJ,h.9<=63/\(∀n∈h,QAH n<=1048576)/\x=[.lst ((h.map j1).map T.d)]/\Q (.d (.bool kf)) []
def Zq:PSp:=#[[],λ_ _ _=>False,λ_ _ h=>h]
theorem zQ{K:QC}{F:Hp}:∀(ns:LJ),Reps K F (ns.map V.int) (ns.map j1)
 |[]=>.nil|n::r=>.cons (.int n) (zQ r)
theorem yN{K:QC}{F:Hp}:∀(ns:LS),Reps K F (ns.map V.str) (ns.map j0)
 |[]=>.nil|n::r=>.cons (.str n) (yN r)
theorem On(K:QC)(H:Hp)(a:ko)(ns:LJ)(hl:ns.9<=63)(h:∀n∈ns,QAH n<=1048576)(x:YC K H a (ns.map V.int)):lift K ZU [.ref a] H (λv _=>v=.bl kf) λ_ _ _=>False:=by
 refine#[H,[.lst ((ns.map j1).map T.d)],λ_=>False,λ_=>False,.refl _,.rd (Z:=λ_=>False) (by simp[ZU]) (.lstF x (zQ ns) λ_ z=>z) (λ_ z=>z) .nil,.nil λ_ z=>z,λ_ z=>z.elim,ns,hl,h,rfl,λv w u Z y _ r _ _ _=>?_];cases r with|d r _=>cases r;rfl
theorem HW{ns:LJ}:∀n∈ns,W6 (.int n)<=wq (ns.map QAB.int):=by
 induction ns with|nil=>intro n h;cases h|cons m ns x=>intro n h;show _<=W6 (.int m)+1+wq (ns.map QAB.int);rcases QK.mp h with rfl|h;omega;have:=x n h;omega
theorem eg{ns:LJ}(h:QAB.layableAll [.list (ns.map .int)]=kf):∀n∈ns,QAH n<=1048576:=by
 intro n z;have v:=(PySem.W.layableW_iff.mp (PySem.W.layableW_arg h _ QE)).2.2;have k:wq (ns.map QAB.int)<=2 ^ 20:=v;have y:=HW n z;have u:W6 (.int n)=if n==0 then 0 else n.natAbs.log2+1:=rfl
 rw[PySem.intBits_le_iff];by_cases x:n=0;subst x;exact Nat.pow_pos (by decide);have:(n==0)=false:=by simpa using x
 rw[u,this]at y;have w:n.natAbs.log2+1<=1048576:=by have:n.natAbs.log2+1<=wq (ns.map QAB.int):=y;omega
 exact(Nat.log2_lt (show n.natAbs≠0 by omega)).mp ()
def j3(K:QC)(x:Str)(st:gV):Prop:=∃f h,qw K k4 x=jr (jr (.ref f))/\Fun K x x st f h
def UO(K:QC)(x:Str)(d:D):Prop:=∃u v,qw K k4 x=jr (jr u)/\XO u=jr v/\∀F,Rep K F v d
theorem S6{K:QC}{x:Str}{f:ko}{xs:LS}{v:Option ko}{its:LW}{n:Nat}{z:Array (Option kb)}(a:qw K k4 x=jr (jr (.ref f)))
  (l:K.lookup f=jr #[.type "tuple",v,.seq its.toArray n,z]) (h:its.map XO=xs.map λy=>jr (.str y)) (k:xs.9<=kn):UO K x (.tuple (xs.map j0)):=by
 refine#[_,_,a,rfl,λF=>.tup (.inr #[_,its.toArray,n,l,rfl,rfl,?_,?_]) (yN xs)];have:=o9 qO h;simp at this;simp;omega;have key:∀(its:LW) (xs:LS),its.map XO=xs.map (λy=>jr (.str y))->oA (xs.map V.str) its:=by
  intro its;induction its with
  |nil =>
   intro xs h;cases xs with|nil=>exact .nil|cons _ _=>simp at h
  |cons u its w =>
   intro xs h;cases xs with|nil=>simp at h|cons y xs=>simp only[QU,Wc]at h;exact .cons (CZ h.1) (w xs h.2)
 simpa using key its xs h
section
variable{P:k5}{w:xb}{K:QC}{mg:Str->Option kb}{base h:vu}{Ψ:PEv}
section
variable{x:Str}{st:gV}{z:LS}{k:Nat}
theorem UO.inMg(X:K.In h)(G:h.Ns k4 mg){d:D}(v:UO K x d):(∀F,Rep K F (NW mg x) d)/\∃u v,mg x=jr u/\XO u=jr v:=by
 let#[u,v,b,y,a]:=v;have e:=We X G b;refine#[λF=>?_,u,v,e,y];have:NW mg x=v:=by unfold NW;rw[e];show(XO u).getD .non=v;rw[y];rfl
 rw[this];exact a F
theorem Ba{R:PSp}{u:PEv}{N:LS}{b:PT}{n:Need}(X:K.In h)(G:h.Ns k4 mg)(D:j3 K x st)(yC:BA n b N z st=kf)(hc:eK (BB 0 R.md z.9) b=kf)
  (hb:∀(kV j m:kb) (q:Option ko) (l ct:kb) (us:LW),us.9=z.9->lp (qy x x (dD st) (iC st) (EA st) .none kV j m q l ct) #[us,[]]=ti (z.zip us))
  (i:∀g∈n.fn,jH P w K mg base Ψ k g) (v:ValsOk P w K mg Ψ n.va) (e:∀y∈n.no,qw K k4 y=jr kv)
  (body:∀ts Q E,R.run ts Q E->ts.9=z.9/\pF Ψ b (zD R z.9 Q) (rB N R.md ts)) (p:u.sp x=R):jH P w K mg base u (k+1) x:=by
 let#[f,r,a,F]:=D;exact Ua F (We X G a) (F.binds hb) yC hc i v (λy o=>QAR X G (e y o)) body p
theorem Pn{j:ko}(X:K.In h)(G:h.Ns k4 mg)(D:j3 K "law" st)(q:z=[x])(g:mg "law"=jr (.ref j))(p:Ψ.sp "law"=ZU)
  (hb:∀(kV v i:kb) (l:Option ko) (b ct:kb) (us:LW),us.9=z.9->lp (qy "law" "law" (dD st) (iC st) (EA st) .none kV v i l b ct) #[us,[]]=ti (z.zip us))
  (H:∀base:vu,K.In base->base.Ns k4 mg->∀f y,Fun K "law" "law" st f y->mg "law"=jr (.ref f)->FnOk P w K mg base Z6 k f y z (lift K (Ψ.sp "law"))) :
  ∃y:zl,(∀(s:kt) (u:kb),mA s y #[[u],[]] [(x,u)])/\∀base:vu,K.In base->base.Ns k4 mg->FnOk P w K mg base Z6 k j y [x] (lift K ZU):=by
 let#[f,y,a,F]:=D;have e:=g.symm.trans (We X G a);cases e;subst q;refine#[y,λs u=>?_,λbase o n=>?_];let#[Z,Y,kV,v,i,l,b,ct,m,rfl,lk,r]:=F.ex;exact .of_eq (hb kV v i l b ct [u] rfl);rw[<- p];exact H base o n j y F g
end
end
theorem CA{α:Type}{body:T->(Option T->Prop)->Prop}(g f:α->T):∀(l:List α) (h:LT) (Q:LT->Prop),(∀x∈l,∀R:Option T->Prop,R (jr (f x))->body (g x) R)->h.9+l.9<=kn->Q (h++l.map f)->AC body (l.map g) h Q
 |[],h,Q,_,hl,q=>by simp only[wT,AC];exact#[by simpa using hl,by simpa using q]|x::r,h,Q,hb,hl,q=>by simp only[QU,AC];refine hb x QE _ ?_;simp only[QM]at hl;refine#[(),CA g f r _ Q (λy z=>hb y (QF _ z)) (by simp;omega) (by simpa using q)]
theorem fA{α:Type}{body:T->(Option T->Prop)->Prop}(g f:α->T)(p:α->Bool):∀(l:List α) (h:LT) (Q:LT->Prop),(∀x∈l,∀R:Option T->Prop,R (if p x=kf then jr (f x) else kv)->body (g x) R)->h.9+l.9<=kn->Q (h++(l.filter p).map f)->AC body (l.map g) h Q
 |[],h,Q,_,hl,q=>by simp only[wT,AC];exact#[by simpa using hl,by simpa using q]|x::r,h,Q,hb,hl,q=>by
  simp only[QU,AC];refine hb x QE _ ?_;simp only[QM]at hl;cases u:p x with|true=>refine#[(),fA g f p r _ Q (λy z=>hb y (QF _ z)) (by simp;omega) ?_];rw[WM,i0 u]at q;simpa using q|false=>refine fA g f p r _ Q (λy z=>hb y (QF _ z)) () ?_;rw[WM,ii (by rw[u];simp)]at q;exact q
theorem iM{α:Type}{xs:List α}{i:Int}(y:0<=i)(x:i<xs.9):∃v,vD xs i=jr v/\xs[i.toNat]?=jr v:=by
 have h:i.toNat<xs.length:=()
 have e:((i.toNat:Nat):Int)=i:=()
 have q:=FF (Qk h);rw[e]at q;exact#[xs[i.toNat],q,Qk h]
theorem GF{α h:Type}(f:α->h)(xs:List α)(i:Int):vD (xs.map f) i=(vD xs i).map f:=by
 unfold vD;rw[QA];cases UT xs.9 i with|none=>rfl|some j=>exact Qc
theorem RA{Ψ:PEv}{E:XE}{α:Type}{body:PT}{u:Tg}{Z:PEnds}(g:α->T)(W:List α->xA->Prop)(k:∀ρ,W [] ρ->Z.nx ρ)
  (v:∀x xs ρ (N:xA->Prop),(∀y,W xs y->N y)->W (x::xs) ρ->CL u (g x) ρ λz=>mB Ψ E body { Z with nx:=N,ct:=N,bk:=Z.nx } z):∀(xs:List α) (ρ:xA),W xs ρ->oI (mB Ψ E body) u Z (xs.map g) ρ
 |[],ρ,w=>k ρ w|x::xs,ρ,w=>v x xs ρ (λh=>oI (mB Ψ E body) u Z (xs.map g) h) (λh a=>RA g W k v xs h a) w
noncomputable def Pg(y:List (Str×PSp))(h:List (Str×D)):PEv:=#[λf=>(y.lookup f).getD Zq,λx=>h.lookup x]
theorem lZ{P:k5}{w:xb}{K:QC}{mg:Str->Option kb}{h:vu}{v:List (Str×PSp)}{tbl:List (Str×D)}{z:LS}(X:K.In h)(G:h.Ns k4 mg)(u:∀p∈tbl,UO K p.1 p.2)
  (y:(z.all λx=>(tbl.map qP).contains x)=kf):ValsOk P w K mg (Pg v tbl) z:=by
 refine#[λx d e F=>((u (x,d) (qQ e)).inMg X G).1 F,λx k=>?_];have:=Q0.mp y x k;let#[p,a,e]:=QO.mp (Qv.mp this);rw[<- e];exact((u p a).inMg X G).2
theorem kR{α:Type}[BEq α][LawfulBEq α]{l m:List α}(h:(l.all λx=>m.contains x)=kf):∀x∈l,x∈m:=λx y=>Qv.mp (Q0.mp h x y)
section
variable{a b c:PX}{i:Nat}{n:Int}{x:Str}{m:Mt}{f:Str}{g:Bi}{u:hZ}{w:dy}{is:List Bool}{h:LS}{z:Tg}{v:ItK}{y:String}
theorem gZ:jG (.var i)=[i]:=rfl
theorem FP:jG (.acons a b)=jG a++jG b:=rfl
theorem OT:jG .anil=[]:=rfl
end
def bF{α:Type}(o:Option α)(K:α->Prop):Prop:=∃a,o=jr a/\K a
theorem bF.mk{α:Type}{o:Option α}{a:α}{K:α->Prop}(e:o=jr a)(k:K a):bF o K:=#[a,e,k]
theorem GA{α:Type}{a:α}{K:α->Prop}:bF (jr a) K=K a:=ot #[λ#[_,e,k]=>by cases e;exact k,λk=>#[a,rfl,k]]
theorem IC{α h:Type}{o:Option α}{f:α->h}{K:h->Prop}:bF (o.map f) K=bF o λa=>K (f a):=by
 cases o with|none=>exact ot #[λ#[_,e,_]=>(by cases e),λ#[_,e,_]=>(by cases e)]|some a=>rw[Q9,GA,GA]
def zB(Ψ:PEv)(e:PX)(E:XE)(ρ:xA)(K:TK):Prop:=(pe Ψ e E).e ρ K
def vP(Ψ:PEv)(e:PX)(E:XE)(ρ:xA)(K:Bool->xA->Prop):Prop:=(pe Ψ e E).t ρ K
def AL(Ψ:PEv)(e:PX)(E:XE)(md:List Md)(ρ:xA)(K:List (T×Bool)->xA->Prop):Prop:=(pe Ψ e E).a md ρ K
def RL(p:PSp)(ts:LT)(K:T->LT->Prop)(E:XE):Prop:=p.run ts K E
def t7(x:T)(n:Bool)(Ψ:PEv)(b:PX)(E:XE)(ρ:xA)(K:TK):Prop:=sq (nA x n) ρ (cu (pe Ψ b E).e) λy h=>K y.1 y.2 h
def n6(x:T)(n:Bool)(Ψ:PEv)(b:PX)(E:XE)(md:List Md)(ρ:xA)(K:List (T×Bool)->xA->Prop):Prop:=sq (if n=kf then .d .none else x) ρ ((pe Ψ b E).a md) K
def lI(i:Nat)(σ ρ:xA)(K:TK):Prop:=Pw σ[i]? λt=>K t kd ρ
def O7(i:Nat)(σ:xA)(ρ:xA)(j:Nat)(R:T->xA->Prop):Prop:=Dy ρ j R σ[i]?
def BE(Ψ:PEv)(E:XE)(r:PT)(Z:PEnds)(i:Nat)(x:T)(n:Bool)(ρ:xA):Prop:=XH x n=kf/\mB Ψ E r Z (ρ.set i (bD x.er))
def Jt(Ψ:PEv)(E:XE)(r:PT)(Z:PEnds)(i:Nat)(x:T)(n:Bool)(ρ:xA):Prop:=XH x n=kf/\mB Ψ E r Z (ρ.set i (jr (.own x)))
def fC(x:T)(n:Bool)(P:Prop):Prop:=XH x n=kf/\P
def AF(h:hZ)(x:T)(n:Bool)(y:T)(m:Bool)(Q:T->Bool->Prop):Prop:=binT h (nA x n).vw (nA y m).vw Q
def PB(h:dy)(x y:T)(Q:Bool->Prop):Prop:=zg h x.er y Q
def k7(x:T)(Q:Bool->Prop):Prop:=HI x.er Q
def jAI(x:T)(Q:Bool->Prop):Prop:=Rp x.er Q
def eM(f:Bi)(xs:List (T×Bool))(Q:T->Bool->Prop):Prop:=E5 f (TB xs) Q
def KA(x:T)(n:Bool)(y:T)(m:Bool)(Q:T->Prop):Prop:=oP (nA x n).vw (nA y m).vw Q∨BV (nA x n).vw y.er Q
def ur(Ψ:PEv)(E:XE)(c:PX)(q:PT)(Z:PEnds)(ρ:xA):Prop:=mB Ψ E (.whl c q) Z ρ
def Rc(t y x:T)(Q:T->Prop):Prop:=Js t y.er x.er Q
def Sr(z t:T)(Q:T->(T->T)->Prop):Prop:=Ir z.er t Q
def Us(y t:T)(Q:T->Prop):Prop:=Sk y.er t Q
def PL(x:T)(n:Bool)(l u:Option Int)(Q:T->Bool->Prop):Prop:=oK (nA x n).vw l u Q
def ON(xs:List (T×Bool))(C:LT->Prop):Prop:=AE xs=kf/\C (TF xs)
def bK(h:ItK)(xs:List (T×Bool))(R:LT->Prop):Prop:=OB h (TB xs) R
def LA(md:List Md)(xs:List (T×Bool))(C:LT->Prop):Prop:=bF (sA md xs []) C
def ZG(Ψ:PEv)(E:XE)(x:List Bool)(y:LS)(u:Tg)(h z:PX)(ρ:xA):T->(Option T->Prop)->Prop:=KG u (rP y.9 x (lockA ρ)) (if isNop h=kf then λρ R=>R kf ρ else(pe Ψ h E).t) (pe Ψ z E).e
def B2(h:Tg)(x:T)(ρ:xA)(K:xA->Prop):Prop:=CL h x ρ K
section
variable{Ψ:PEv}{E:XE}{ρ:xA}{K:TK}{L:Bool->xA->Prop}{M:List (T×Bool)->xA->Prop}{a b c Y its U V:PX}{Z:T->xA->Prop}
section
variable{i j:Nat}{x n:Bool}{v:dy}{f t u:Str}{p:PSp}{md:List Md}{w m:List Bool}{g:LS}{o:Tg}{X:ItK}{R:Option T->Prop}{s:Option Sl}{σ:xA}{ts:LT}
theorem Uw{i:Int}:zB Ψ (.ng i) E ρ K=K (.d (.int (-i))) kd ρ:=rfl
theorem jAo{b:PX}{x y:Str}{l:LN}(h:qF x y 0 x.9 1=i::l)(A:∀K,zB Ψ a E ρ K=K (.d (.str x)) kd ρ)(hb:∀K,zB Ψ b E ρ K=K (.d (.str y)) kd ρ)(q:K (.d (.int (i:Int))) kd ρ):zB Ψ (.mt .index a %[b|1]) E ρ K:=by show zB Ψ a E ρ λx n e=>Z9 .index (nA x n).vw=kf/\sq (nA x n) e ((pe Ψ %[b|1] E).a []) λW r=>Sw .index (nA x n).vw (TB W) λz k=>K z k r;rw[A];refine#[rfl,?_];show zB Ψ b E ρ λz n e=>sq (α:=List (T×Bool)) (if n=kf then .d .none else z) e ((pe Ψ .anil E).a []) λW r=>_;rw[hb];exact#[x,y,i,l,rfl,rfl,h,q]
theorem Fj:zB Ψ (.var i) E ρ K=lI i ρ ρ K:=rfl
theorem Ei:vP Ψ (.var i) E ρ L=lI i ρ ρ λt _ ρ=>k7 t λb=>L b ρ:=rfl
theorem Pj{i:Int}:zB Ψ (.int i) E ρ K=K (.d (.int i)) kd ρ:=rfl
theorem Hj{x:Str}:zB Ψ (.str x) E ρ K=K (.d (.str x)) kd ρ:=rfl
theorem Cw:zB Ψ (.bl x) E ρ K=K (.d (.bool x)) kd ρ:=rfl
theorem Nj:zB Ψ .non E ρ K=K (.d .none) kd ρ:=rfl
theorem jI{x:Str}{d:D}(h:Ψ.va x=jr d):zB Ψ (.glo x) E ρ K=K (.d d) kd ρ:=by show(match Ψ.va x with|some d=>K (.d d) kd ρ|none=>False)=_;rw[h]
theorem xc{v:hZ}:zB Ψ (.bin v a b) E ρ K=zB Ψ a E ρ λx n e=>t7 x n Ψ b E e λy m h=>AF v x n y m λz k=>K z k h:=rfl
theorem jj:vP Ψ (.cmp v a b) E ρ L=zB Ψ a E ρ λx n z=>t7 x n Ψ b E z λy m h=>PB v x (nA y m) λk=>L k h:=rfl
theorem Tj:zB Ψ (.cmp v a b) E ρ K=vP Ψ (.cmp v a b) E ρ λk h=>K (.d (.bool k)) kd h:=rfl
theorem Aj:zB Ψ (.and a b) E ρ K=zB Ψ a E ρ λx _ h=>jAI x λc=>if c=kf then zB Ψ b E h K else K (.d (.bool kd)) kd h:=rfl
theorem yj:vP Ψ (.and a b) E ρ L=vP Ψ a E ρ λc h=>if c=kf then vP Ψ b E h L else L kd h:=rfl
theorem Xw:zB Ψ (.or a b) E ρ K=zB Ψ a E ρ λx _ h=>jAI x λc=>if c=kf then K (.d (.bool kf)) kd h else zB Ψ b E h K:=rfl
theorem kq:vP Ψ (.or a b) E ρ L=vP Ψ a E ρ λc h=>if c=kf then L kf h else vP Ψ b E h L:=rfl
theorem Mj:zB Ψ (.not a) E ρ K=zB Ψ a E ρ λx _ h=>k7 x λc=>K (.d (.bool (!c))) kd h:=rfl
theorem Ii:vP Ψ (.not a) E ρ L=vP Ψ a E ρ λc h=>L (!c) h:=rfl
theorem jA(h:Ψ.sp f=p)(F:p.md=md)(C:(md.all λm=>!m.isMut)=kf):zB Ψ (.call f Y) E ρ K=AL Ψ Y E md ρ λxs y=>LA md xs λts=>RL p ts (λr l=>l=[]/\K r kf y) E:=by
 have A:∀(md:List Md) (Y:PX),(md.all λm=>!m.isMut)=kf->cA md Y=[]:=by
  intro md;induction md with
  |nil=>intro Y _;cases Y<;>rfl|cons m md B =>
   intro Y h;rw[qt,Qb]at h;cases m with
   |chg=>cases h.1|_=>cases Y with|acons a Y=>exact B Y h.2|_=>rfl
 show(∃l,NA (cA (Ψ.sp f).md Y) ρ=jr l/\(cA (Ψ.sp f).md Y).Nodup/\(pe Ψ Y E).a (Ψ.sp f).md (clear (cA (Ψ.sp f).md Y) ρ) λxs y=>∃ts,sA (Ψ.sp f).md xs l=jr ts/\(Ψ.sp f).run ts (λr q=>∃z,uC (cA (Ψ.sp f).md Y) q y=jr z/\K r kf z) E)=_;rw[h,F,A md Y C];have W:∀(r:T) (l:LT) (y:xA),(∃z,uC [] l y=jr z/\K r kf z)=(l=[]/\K r kf y):=by
  intro r l y;cases l with|nil=>exact ot #[λ#[_,e,k]=>by cases e;exact#[rfl,k],λk=>#[_,rfl,k.2]]|cons _ _=>exact ot #[λ#[_,e,k]=>(by cases e),λk=>(by cases k.1)]
 have:=λ(y:xA)=>funext λr=>funext λl=>W r l y;simp only[this];exact ot #[λ#[_,e,_,k]=>by cases e;exact k,λk=>#[_,rfl,Qx,k]]
theorem xZ:vP Ψ (.call f Y) E ρ L=zB Ψ (.call f Y) E ρ λt _ h=>k7 t λb=>L b h:=rfl
theorem Dw{f:Bi}:zB Ψ (.bi f Y) E ρ K=AL Ψ Y E [] ρ λxs h=>eM f xs λz k=>K z k h:=rfl
theorem Lj:zB Ψ (.mt .pop (.var j) Y) E ρ K=xD ρ[j]? λt=>aJ .pop t=kf/\AL Ψ Y E [] (ρ.set j (jr (.bor t))) λxs h=>AE xs=kf/\h[j]?=jr (jr (.bor t))/\zM .pop t (TF xs) λr s'=>K r kf (h.set j (jr (.own s'))):=rfl
theorem kc:zB Ψ (.dnew x) E ρ K=K (.dct x [] []) kf ρ:=rfl
theorem Sj:zB Ψ (.dsp a b) E ρ K=zB Ψ a E ρ λy m z=>fC y m (zB Ψ b E z λx n h=>fC x n (YD kf y.er/\K (.dct kf [y.er] [x]) kf h)):=rfl
theorem iH(h:Ψ.sp f=p)(O:p.md=.chg::md)(N:(md.all λm=>!m.isMut)=kf):zB Ψ (.call f (.acons (.var j) Y)) E ρ K=xD ρ[j]? λt=>AL Ψ Y E md (ρ.set j kv) λxs y=>LA md xs λts=>RL p (t::ts) (λr l=>∃t',l=[t']/\K r kf (y.set j (jr (.own t')))) E:=by
 have I:∀(md:List Md) (Y:PX),(md.all λm=>!m.isMut)=kf->cA md Y=[]:=by
  intro md;induction md with
  |nil=>intro Y _;cases Y<;>rfl|cons m md J =>
   intro Y h;rw[qt,Qb]at h;cases m with
   |chg=>cases h.1|_=>cases Y with|acons a Y=>exact J Y h.2|_=>rfl
 show(∃l,NA (cA (Ψ.sp f).md (.acons (.var j) Y)) ρ=jr l/\(cA (Ψ.sp f).md (.acons (.var j) Y)).Nodup/\(pe Ψ (.acons (.var j) Y) E).a (Ψ.sp f).md (clear (cA (Ψ.sp f).md (.acons (.var j) Y)) ρ) λxs y=>∃ts,sA (Ψ.sp f).md xs l=jr ts/\(Ψ.sp f).run ts (λr q=>∃W,uC (cA (Ψ.sp f).md (.acons (.var j) Y)) q y=jr W/\K r kf W) E)=_;rw[h,O];have P:cA (.chg::md) (.acons (.var j) Y)=[j]:=by show j::cA md Y=[j];rw[I md Y N]
 rw[P];have A:∀(r:T) (l:LT) (y:xA),(∃W,uC [j] l y=jr W/\K r kf W)=(∃t',l=[t']/\K r kf (y.set j (jr (.own t')))):=by
  intro r l y
  match l with
  |[]=>exact ot #[λ#[_,e,k]=>(by cases e),λ#[_,e,k]=>(by cases e)]|[t]=>exact ot #[λ#[_,e,k]=>by cases e;exact#[t,rfl,k],λ#[_,e,k]=>by cases e;exact#[_,rfl,k]]|_::_::_=>exact ot #[λ#[_,e,k]=>(by cases e),λ#[_,e,k]=>(by cases e)]
 have B:=λ(y:xA)=>funext λr=>funext λl=>A r l y;simp only[B];have C:∀(t:T) (xs:List (T×Bool)) (G:LT->Prop),(∃ts,sA (.chg::md) ((.d .none,kf)::xs) [t]=jr ts/\G ts)=LA md xs λts=>G (t::ts):=by
  intro t xs G;show(∃ts,(sA md xs []).map (t::·)=jr ts/\G ts)=bF (sA md xs []) λts=>G (t::ts);cases sA md xs []with|none=>exact ot #[λ#[_,e,_]=>(by cases e),λ#[_,e,_]=>(by cases e)]|some ts=>exact ot #[λ#[_,e,k]=>by cases e;exact#[_,rfl,k],λ#[_,e,k]=>by cases e;exact#[_,rfl,k]]
 have F:∀t,ρ[j]?=jr (jr (.own t))->NA [j] ρ=jr [t]:=λt e=>by unfold NA;rw[e];rfl
 have Q:∀(l:LT),((pe Ψ (.acons (.var j) Y) E).a (.chg::md) (clear [j] ρ) λxs y=>∃ts,sA (.chg::md) xs l=jr ts/\p.run ts (λr q=>∃t',q=[t']/\K r kf (y.set j (jr (.own t')))) E)=(AL Ψ Y E md (ρ.set j kv) λxs y=>∃ts,sA (.chg::md) ((.d .none,kf)::xs) l=jr ts/\p.run ts (λr q=>∃t',q=[t']/\K r kf (y.set j (jr (.own t')))) E):=λl=>ot #[λh=>h.2,λh=>#[rfl,h]];simp only[Q]
 match e:ρ[j]? with
 |some (jr (.own t))=>show _=(AL Ψ Y E md (ρ.set j kv) λxs y=>LA md xs λts=>RL p (t::ts) (λr l=>∃t',l=[t']/\K r kf (y.set j (jr (.own t')))) E);rw[F t e];have:=λxs (y:xA)=>C t xs λts=>p.run ts (λr q=>∃t',q=[t']/\K r kf (y.set j (jr (.own t')))) E;refine ot #[λ#[_,e,_,k]=>?_,λk=>#[_,rfl,by simp,?_]];cases e;simp only[this]at k;exact k;simp only[this];exact k|some (jr (.bor t))=>exact ot #[λ#[_,z,_]=>(by unfold NA at z;rw[e]at z;cases z),λk=>k.elim]|some kv=>exact ot #[λ#[_,z,_]=>(by unfold NA at z;rw[e]at z;cases z),λk=>k.elim]|none=>exact ot #[λ#[_,z,_]=>(by unfold NA at z;rw[e]at z;cases z),λk=>k.elim]
theorem eW:zB Ψ (.mt .extend (.var j) Y) E ρ K=xD ρ[j]? λt=>aJ .extend t=kf/\AL Ψ Y E [] (ρ.set j (jr (.bor t))) λxs h=>AE xs=kf/\h[j]?=jr (jr (.bor t))/\zM .extend t (TF xs) λr s'=>K r kf (h.set j (jr (.own s'))):=rfl
theorem iW:zB Ψ (.mt .append (.var j) Y) E ρ K=xD ρ[j]? λt=>aJ .append t=kf/\AL Ψ Y E [] (ρ.set j (jr (.bor t))) λxs h=>AE xs=kf/\h[j]?=jr (jr (.bor t))/\zM .append t (TF xs) λr s'=>K r kf (h.set j (jr (.own s'))):=rfl
theorem Rj:zB Ψ (.idx a b) E ρ K=zB Ψ a E ρ λx n k=>t7 x n Ψ b E k λy m h=>KA x n y m λz=>K z kd h:=rfl
theorem aW{i:Int}:zB Ψ (.slc a (.int i) .nop) E ρ K=zB Ψ a E ρ λx n h=>PL x n (jr i) kv λz k=>K z k h:=by
 show(pe Ψ a E).e ρ (λx n h=>sq (nA x n) h (λρ (R:Option Int->xA->Prop)=>R (jr i) ρ) λl q=>sq (nA x n) q (λρ (R:Option Int->xA->Prop)=>R kv ρ) λu y=>oK (nA x n).vw l u λz k=>K z k y)=_;have:∀x n h,(sq (nA x n) h (λρ (R:Option Int->xA->Prop)=>R (jr i) ρ) λl q=>sq (nA x n) q (λρ (R:Option Int->xA->Prop)=>R kv ρ) λu y=>oK (nA x n).vw l u λz k=>K z k y)=oK (nA x n).vw (jr i) kv λz k=>K z k h:=by intro x n h;unfold sq;split<;>rfl
 simp only[this];rfl
theorem Oj:zB Ψ (.lst Y) E ρ K=AL Ψ Y E [] ρ λxs y=>xs.9<=kn/\ON xs λts=>K (.lst ts) kf y:=by have:∀(xs:List (T×Bool)) y,(xs.9<=kn/\ON xs λts=>K (.lst ts) kf y)=(AE xs=kf/\xs.9<=kn/\K (.lst (TF xs)) kf y):=λxs y=>ot #[λh=>#[h.2.1,h.1,h.2.2],λh=>#[h.2.1,h.1,h.2.2]];simp only[this];rfl
theorem Gj:zB Ψ (.tup Y) E ρ K=AL Ψ Y E [] ρ λxs y=>xs.9<=kn/\ON xs λts=>K (KC ts) kf y:=by have:∀(xs:List (T×Bool)) y,(xs.9<=kn/\ON xs λts=>K (KC ts) kf y)=(AE xs=kf/\xs.9<=kn/\K (KC (TF xs)) kf y):=λxs y=>ot #[λh=>#[h.2.1,h.1,h.2.2],λh=>#[h.2.1,h.1,h.2.2]];simp only[this];rfl
theorem vc:zB Ψ (.comp w g o X its V U) E ρ K=AL Ψ its E [] ρ λxs y=>bK X xs λh =>
   AC (ZG Ψ (λ_=>False) w g o V U y) h [] λz=>K (.lst z) kf y:=rfl
theorem Hi{x:T}:ZG Ψ E [] [t] (.nm 0) .nop U ρ x R=zB Ψ U E (jr (.bor x)::lockA ρ) λy n _=>fC y n (R (jr y)):=rfl
theorem Mb{x y:D}:ZG Ψ E [] [t,u] (.tp [0,1]) .nop U ρ (.d (.tuple [x,y])) R=zB Ψ U E (bD x::bD y::lockA ρ) λy n _=>fC y n (R (jr y)):=GA
theorem Ov{b:Bool}{x:T}:ZG Ψ E (b::m) [t] (.nm 0) .nop U ρ x R=zB Ψ U E (jr (.bor x)::nC (b::m) (lockA ρ)) λy n _=>fC y n (R (jr y)):=rfl
theorem Nv{b:Bool}{x y:D}:ZG Ψ E (b::m) [t,u] (.tp [0,1]) .nop U ρ (.d (.tuple [x,y])) R=zB Ψ U E (bD x::bD y::nC (b::m) (lockA ρ)) λy n _=>fC y n (R (jr y)):=GA
theorem Li{x:T}:ZG Ψ E [] [t] (.nm 0) (.cmp v a b) U ρ x R=vP Ψ (.cmp v a b) E (jr (.bor x)::lockA ρ) λk h=>if k=kf then zB Ψ U E h λy n _=>fC y n (R (jr y)) else R none:=rfl
theorem Ej:AL Ψ .anil E md ρ M=M [] ρ:=rfl
theorem bc:AL Ψ (.acons a Y) E [] ρ M=zB Ψ a E ρ λx n y=>n6 x n Ψ Y E [] y λxs h=>M ((x,n)::xs) h:=rfl
theorem ZW:AL Ψ (.acons a Y) E (.shal::md) ρ M=zB Ψ a E ρ λx n y=>n6 x n Ψ Y E md y λxs h=>M ((x,n)::xs) h:=rfl
theorem KW:AL Ψ (.acons a Y) E (.bor::md) ρ M=zB Ψ a E ρ λx n y=>n6 x n Ψ Y E md y λxs h=>M ((x,n)::xs) h:=rfl
theorem rj:aD Ψ E Z (.var i) ρ=O7 i ρ ρ i Z:=rfl
theorem Yj:aD Ψ E Z (.ife c a b) ρ=vP Ψ c E ρ λk h=>if k=kf then aD Ψ E Z a h else aD Ψ E Z b h:=rfl
theorem Tv:aD Ψ E Z (.bl x) ρ=Z (.d (.bool x)) ρ:=ot #[λh=>h.2,λh=>#[rfl,h]]
theorem Jj{x:Int}:aD Ψ E Z (.int x) ρ=Z (.d (.int x)) ρ:=ot #[λh=>h.2,λh=>#[rfl,h]]
theorem Ab:aD Ψ E Z (.call f Y) ρ=zB Ψ (.call f Y) E ρ λx n h=>fC x n (Z x h):=rfl
theorem Eb{v:hZ}:aD Ψ E Z (.bin v a b) ρ=zB Ψ (.bin v a b) E ρ λx n h=>fC x n (Z x h):=rfl
theorem Kj:aD Ψ E Z (.cmp v a b) ρ=zB Ψ (.cmp v a b) E ρ λx n h=>fC x n (Z x h):=rfl
theorem Vj:aD Ψ E Z (.and a b) ρ=zB Ψ (.and a b) E ρ λx n h=>fC x n (Z x h):=rfl
theorem Av{f:Bi}:aD Ψ E Z (.bi f Y) ρ=zB Ψ (.bi f Y) E ρ λx n h=>fC x n (Z x h):=rfl
theorem Zj:aD Ψ E Z (.idx a b) ρ=zB Ψ (.idx a b) E ρ λx n h=>fC x n (Z x h):=rfl
theorem sj:aD Ψ E Z (.tup Y) ρ=zB Ψ (.tup Y) E ρ λx n h=>fC x n (Z x h):=rfl
theorem ij:aD Ψ E Z (.lst Y) ρ=zB Ψ (.lst Y) E ρ λx n h=>fC x n (Z x h):=rfl
theorem Tb:aD Ψ E Z (.comp w g o X its V U) ρ=zB Ψ (.comp w g o X its V U) E ρ λx n h=>fC x n (Z x h):=rfl
theorem jBe:lI (i+1) (s::σ) ρ K=lI i σ ρ K:=rfl
theorem jBi{t:T}:lI 0 (jr (.bor t)::σ) ρ K=K t kd ρ:=rfl
theorem jBf{t:T}:lI 0 (jr (.own t)::σ) ρ K=K t kd ρ:=rfl
theorem jBh:lI i (lockA σ) ρ K=lI i σ ρ K:=by
 unfold lI lockA;rw[Qc];cases σ[i]? with
 |none=>rfl|some s=>cases s with|none=>rfl|some s=>cases s<;>rfl
theorem jBg{b:Bool}:lI (i+1) (nC (b::m) (lockA (s::σ))) ρ K=lI i (nC m (lockA σ)) ρ K:=rfl
theorem Yw:lI 0 (nC (false::m) (lockA (s::σ))) ρ K=lI 0 (lockA (s::σ)) ρ K:=rfl
theorem Jw:lI i (nC [] (lockA σ)) ρ K=lI i (lockA σ) ρ K:=rfl
theorem jBb:O7 (i+1) (s::σ) ρ j Z=O7 i σ ρ j Z:=rfl
theorem jBd{x:D}:O7 0 (bD x::σ) ρ j Z=Z (.d x) ρ:=ot #[λh=>h.2,λh=>#[rfl,h]]
theorem jBc{t:T}:O7 0 (jr (.own t)::σ) ρ j Z=Z t (ρ.set j kv):=rfl
theorem jBU{ks:List D}:n6 (.dct x ks ts) kd Ψ b E md ρ M=AL Ψ b E md (lockA ρ) λxs _=>M xs ρ:=rfl
theorem jA7{x:D}:t7 (.d x) n Ψ b E ρ K=zB Ψ b E ρ K:=by cases n<;>rfl
theorem jA4{x:T}:t7 x kf Ψ b E ρ K=zB Ψ b E ρ K:=rfl
theorem jA5:t7 (.lst ts) kd Ψ b E ρ K=zB Ψ b E (lockA ρ) λy m _=>K y m ρ:=rfl
theorem jBT{x:D}:n6 (.d x) n Ψ b E md ρ M=AL Ψ b E md ρ M:=by cases n<;>rfl
theorem jBR{x:T}:n6 x kf Ψ b E md ρ M=AL Ψ b E md ρ M:=rfl
theorem jBS:n6 (.lst ts) kd Ψ b E md ρ M=AL Ψ b E md (lockA ρ) λxs _=>M xs ρ:=rfl
end
end
section
variable{Ψ:PEv}{E:XE}{ρ σ:xA}{Z:PEnds}{s r q:PT}{i:Nat}{e c its:PX}{o:Option Sl}{n:Bool}{v:D}{P:Prop}{ds:List D}{x:T}
section
variable{j:Nat}{is:LN}{A B:Prop}
theorem yA:mB Ψ E .nil Z ρ=Z.nx ρ:=rfl
theorem vj:mB Ψ E (.seq (.set i e) r) Z (o::σ)=zB Ψ e E (o::σ) λx n h=>BE Ψ E r Z i x n h:=rfl
theorem cj:mB Ψ E (.seq (.own i e) r) Z (o::σ)=zB Ψ e E (o::σ) λx n h=>Jt Ψ E r Z i x n h:=rfl
theorem Sb:mB Ψ E (.seq (.expr e) r) Z (o::σ)=zB Ψ e E (o::σ) λ_ _ h=>mB Ψ E r Z h:=rfl
theorem bj:mB Ψ E (.seq (.ret e) r) Z (o::σ)=aD Ψ E Z.rt e (o::σ):=rfl
theorem fj:mB Ψ E (.seq (.ife c s .nil) r) Z (o::σ)=vP Ψ c E (o::σ) λk h=>if k=kf then mB Ψ E s { Z with nx:=λy=>mB Ψ E r Z y } h else mB Ψ E r Z h:=rfl
theorem pj{u:Tg}{k:ItK}:mB Ψ E (.seq (.for_ u k its q) r) Z (o::σ)=AL Ψ its E [] (o::σ) λxs h=>bK k xs λy =>
   if pT xs=kf then oI (mB Ψ E q) u { Z with nx:=λz=>mB Ψ E r Z (kill u.ix z) } y h
   else oI (mB Ψ E q) u { Z with nx:=λz=>OW u.ix (gC h (jG its)) h (λw=>mB Ψ E r Z w) (kill u.ix z) } y (lock (gC h (jG its)) h):=rfl
theorem kj{a:PX}:mB Ψ E (.seq (.six (.var j) a e) r) Z (o::σ)=xD (o::σ)[j]? λt=>zB Ψ e E ((o::σ).set j (jr (.bor t))) λx n z=>fC x n (zB Ψ a E z λy m h=>fC y m (h[j]?=jr (jr (.bor t))/\Rc t y x λt'=>mB Ψ E r Z (h.set j (jr (.own t'))))):=rfl
theorem Pb{a k:PX}:mB Ψ E (.seq (.six (.idx (.var j) k) a e) r) Z (o::σ)=xD (o::σ)[j]? λt=>zB Ψ e E ((o::σ).set j (jr (.bor t))) λx n w=>fC x n (zB Ψ k E w λz l u=>fC z l (Sr z t λs put=>zB Ψ a E u λy m h=>fC y m (h[j]?=jr (jr (.bor t))/\Rc s y x λs'=>mB Ψ E r Z (h.set j (jr (.own (put s'))))))):=rfl
theorem xj{k:PX}:mB Ψ E (.seq (.sdf j k) r) Z (o::σ)=xD (o::σ)[j]? λt=>Ef t=kf/\zB Ψ k E ((o::σ).set j (jr (.bor t))) λy m h=>fC y m (h[j]?=jr (jr (.bor t))/\Us y t λt'=>mB Ψ E r Z (h.set j (jr (.own t')))):=rfl
theorem Ob:mB Ψ E (.seq (.tset is e) r) Z (o::σ)=zB Ψ e E (o::σ) λx n y=>fC x n (B2 (.tp is) (.d x.er) y λh=>mB Ψ E r Z h):=rfl
theorem mj:mB Ψ E (.seq (.frz is s) r) Z (o::σ)=mB Ψ E (.seq s r) Z (frzAt is (o::σ)):=rfl
theorem zj:mB Ψ E (.seq (.whl c q) r) Z (o::σ)=ur Ψ E c q { Z with nx:=λh=>mB Ψ E r Z h } (o::σ):=rfl
theorem jBQ:BE Ψ E r Z i (.d v) n ρ=mB Ψ E r Z (ρ.set i (bD v)):=ot #[λh=>h.2,λh=>#[by cases n<;>rfl,h]]
theorem gx:BE Ψ E r Z i (.lst (ds.map T.d)) kf ρ=mB Ψ E r Z (ρ.set i (bD (.list ds))):=by unfold BE T.er;rw[UA];exact ot #[λh=>h.2,λh=>#[rfl,h]]
theorem jBD:Jt Ψ E r Z i x kf ρ=mB Ψ E r Z (ρ.set i (jr (.own x))):=ot #[λh=>h.2,λh=>#[rfl,h]]
theorem jBk:fC (.d v) n P=P:=ot #[λh=>h.2,λh=>#[by cases n<;>rfl,h]]
theorem jBj:fC x kf P=P:=ot #[λh=>h.2,λh=>#[rfl,h]]
theorem Y0:(([]:LT)=[]/\P)=P:=ot #[λh=>h.2,λh=>#[rfl,h]]
theorem Mu:(if(true:Bool)=kf then A else B)=A:=rfl
theorem Nu:(if(false:Bool)=kf then A else B)=B:=rfl
theorem jBN{v h:Option Sl}:mB Ψ E r Z (WE (h::σ) 0 v)=mB Ψ E r Z (v::σ):=rfl
theorem jBM{v h y:Option Sl}:mB Ψ E r Z (WE (h::y::σ) 1 v)=mB Ψ E r Z (h::v::σ):=rfl
theorem jBL{v y h z:Option Sl}:mB Ψ E r Z (WE (y::h::z::σ) 2 v)=mB Ψ E r Z (y::h::v::σ):=rfl
theorem jBK{v z y h u:Option Sl}:mB Ψ E r Z (WE (z::y::h::u::σ) 3 v)=mB Ψ E r Z (z::y::h::v::σ):=rfl
theorem jBJ{v u z y h w:Option Sl}:mB Ψ E r Z (WE (u::z::y::h::w::σ) 4 v)=mB Ψ E r Z (u::z::y::h::v::σ):=rfl
theorem jBI{v w u z y h k:Option Sl}:mB Ψ E r Z (WE (w::u::z::y::h::k::σ) 5 v)=mB Ψ E r Z (w::u::z::y::h::v::σ):=rfl
theorem jBH{v k w u z y h a:Option Sl}:mB Ψ E r Z (WE (k::w::u::z::y::h::a::σ) 6 v)=mB Ψ E r Z (k::w::u::z::y::h::v::σ):=rfl
theorem jBG{v a k w u z y h b:Option Sl}:mB Ψ E r Z (WE (a::k::w::u::z::y::h::b::σ) 7 v)=mB Ψ E r Z (a::k::w::u::z::y::h::v::σ):=rfl
theorem jBF{v b a k w u z y h f:Option Sl}:mB Ψ E r Z (WE (b::a::k::w::u::z::y::h::f::σ) 8 v)=mB Ψ E r Z (b::a::k::w::u::z::y::h::v::σ):=rfl
theorem jBE{v f b a k w u z y h g:Option Sl}:mB Ψ E r Z (WE (f::b::a::k::w::u::z::y::h::g::σ) 9 v)=mB Ψ E r Z (f::b::a::k::w::u::z::y::h::v::σ):=rfl
theorem fw{v l g f b a k w u z y h:Option Sl}:mB Ψ E r Z (WE (l::g::f::b::a::k::w::u::z::y::h::σ) 10 v)=mB Ψ E r Z (l::g::f::b::a::k::w::u::z::y::v::σ):=rfl
theorem cw{v m l g f b a k w u z h y:Option Sl}:mB Ψ E r Z (WE (m::l::g::f::b::a::k::w::u::z::h::y::σ) 11 v)=mB Ψ E r Z (m::l::g::f::b::a::k::w::u::z::h::v::σ):=rfl
theorem bw{v p m l g f b a k w u y h z:Option Sl}:mB Ψ E r Z (WE (p::m::l::g::f::b::a::k::w::u::y::h::z::σ) 12 v)=mB Ψ E r Z (p::m::l::g::f::b::a::k::w::u::y::h::v::σ):=rfl
theorem uw{v X p m l g f b a k w z y h u:Option Sl}:mB Ψ E r Z (WE (X::p::m::l::g::f::b::a::k::w::z::y::h::u::σ) 13 v)=mB Ψ E r Z (X::p::m::l::g::f::b::a::k::w::z::y::h::v::σ):=rfl
end
end
section
variable{d:D}{n m:Bool}{i j:Int}{z y:Str}{b:Bool}{xs:List (T×Bool)}{ts:LT}{ds es:List D}{md:List Md}{t:T}{C:LT->Prop}{Q:T->Bool->Prop}{L:Bool->Prop}{R:T->Prop}{W:LT->Prop}
section
variable{ρ:xA}{P:xA->Prop}{e k:D}{v:dy}{ks:List D}{kvs:List (D×D)}{l u:Option Int}
theorem sy{i:Int}{x:D}{Q:T->Prop}(a:0<=i)(w:i<ds.9)(q:Q (.lst ((ds.set i.toNat x).map T.d))):Rc (.lst (ds.map T.d)) (.d (.int i)) (.d x) Q:=by
 have h:i.toNat<ds.length:=()
 refine#[i.toNat,?_,by rw[<- List.map_set];exact q];unfold UT;rw[QA];rw[i0 a,i0 w]
theorem Ai{J:LN}{x:xA}{N:xA->Prop}:OW J [] x N ρ=N ρ:=ot #[λh=>h.2,λh=>#[λ_ z=>(nomatch z),h]]
theorem bA{α:Type}(f:α->D)(l:List α):l.map (λc=>T.d (f c))=(l.map f).map T.d:=by rw[QR];rfl
theorem UC:(nA (.lst (ds.map T.d)) n).vw=.ls (ds.map T.d):=by cases n;rfl;show Vw.ls ((ersT (ds.map T.d)).map T.d)=_;rw[UA]
theorem Xj:LA md [] C=C []:=GA
theorem jBA:LA [] ((.d d,n)::xs) C=LA [] xs λts=>C (.d d::ts):=by
 have e:sA [] ((.d d,n)::xs) []=(sA [] xs []).map (.d d::·):=by cases n<;>rfl
 unfold LA;rw[e,IC]
theorem jA9:LA [] ((.lst (ds.map T.d),kf)::xs) C=LA [] xs λts=>C (.d (.list ds)::ts):=by have e:sA [] ((.lst (ds.map T.d),kf)::xs) []=(sA [] xs []).map (.d (.list (ersT (ds.map T.d)))::·):=rfl;unfold LA;rw[e,IC,UA]
theorem jBB:LA (.bor::md) ((t,kd)::xs) C=LA md xs λts=>C (t::ts):=by have e:sA (.bor::md) ((t,kd)::xs) []=(sA md xs []).map (t::·):=rfl;unfold LA;rw[e,IC]
theorem V7:UE (.lst (ds.map T.d))=jr (.lst (ds.map T.d)):=by simp only[UE,T.vw,rA,Q9]
theorem jA8{u:T}(h:UE (nA t n)=jr u):LA (.shal::md) ((t,n)::xs) C=LA md xs λts=>C (u::ts):=by
 have e:sA (.shal::md) ((t,n)::xs) []=(sA md xs []).map (u::·):=by show(match UE (nA t n) with|some t=>(sA md xs []).map (t::·)|none=>kv)=_;rw[h]
 unfold LA;rw[e,IC]
theorem Iv:LA (.shal::md) ((.lst (ds.map T.d),n)::xs) C=LA md xs λts=>C (.lst (ds.map T.d)::ts):=jA8 (by cases n;exact V7;show UE (.d (.list (ersT (ds.map T.d))))=_;rw[UA];simp only[UE,T.vw,rA,Q9])
theorem Bj:ON [] C=C []:=ot #[λh=>h.2,λh=>#[rfl,h]]
theorem jAe:ON ((.lst (ds.map T.d),kf)::xs) C=ON xs λts=>C (.lst (ds.map T.d)::ts):=by show((XH (.lst (ds.map T.d)) kf&&AE xs)=kf/\C (.lst (ds.map T.d)::TF xs))=(AE xs=kf/\C (.lst (ds.map T.d)::TF xs));rw[show XH (.lst (ds.map T.d)) kf=kf from rfl,WT]
theorem jBP:ON ((.d d,n)::xs) C=ON xs λts=>C (.d d::ts):=by show((XH (.d d) n&&AE xs)=kf/\C (.d d::TF xs))=(AE xs=kf/\C (.d d::TF xs));rw[show XH (.d d) n=kf by cases n<;>rfl,WT]
theorem v3{i j:Nat}{x y:D}:B2 (.tp [i,j]) (.d (.tuple [x,y])) ρ P=P ((ρ.set i (bD x)).set j (bD y)):=GA
theorem Gw{i:Nat}:B2 (.nm i) t ρ P=P (ρ.set i (jr (.bor t))):=rfl
theorem rg{h:Tg}:CL h t ρ P=B2 h t ρ P:=rfl
theorem Ti:AF .Add (.d (.int i)) n (.d (.int j)) m Q=Q (.d (.int (i+j))) false:=by unfold AF;rw[pA,pA];exact Np i j
theorem Si:AF .Add (.d (.str z)) n (.d (.str y)) m Q=(z.9+y.9<=kn/\Q (.d (.str (z++y))) kd):=by unfold AF;rw[pA,pA];exact Mp z y
theorem Ni:AF .Sub (.d (.int i)) n (.d (.int j)) m Q=Q (.d (.int (i - j))) false:=by unfold AF;rw[pA,pA];exact Gp i j
theorem Oi:AF .Mult (.d (.int i)) n (.d (.int j)) m Q=(mu i j/\Q (.d (.int (i * j))) kd):=by unfold AF;rw[pA,pA];exact Fp i j
theorem Ri:AF .FloorDiv (.d (.int i)) n (.d (.int j)) m Q=((0<j/\j<2 ^ 200)/\Q (.d (.int (i / j))) kd):=by unfold AF;rw[pA,pA];exact Dp i j
theorem Pi:AF .Mod (.d (.int i)) n (.d (.int j)) m Q=(0<j/\Q (.d (.int (i % j))) kd):=by unfold AF;rw[pA,pA];exact Cp i j
theorem Sv:AF .Add (.d (.tuple ds)) n (.d (.tuple es)) m Q=((ds≠[]/\es≠[]/\ds.9+es.9<=kn)/\Q (.d (.tuple (ds++es))) kd):=by unfold AF;rw[pA,pA];show binT .Add (.tp (ds.map T.d)) (.tp (es.map T.d)) Q=_;rw[Lp,rA,rA];exact ot #[λ#[_,_,f,a,w,x,h,k]=>by cases f;cases a;exact#[#[w,x,h],k],λ#[#[w,x,h],k]=>#[_,_,rfl,rfl,w,x,h,k]]
theorem mk_2:KC [.d d,.d e]=.d (.tuple [d,e]):=rfl
theorem iu{f g:D}:KC [.d d,.d e,.d f,.d g]=.d (.tuple [d,e,f,g]):=rfl
theorem mk_1:KC [.d d]=.d (.tuple [d]):=rfl
theorem Xi:PB .Eq (.d (.int i)) (.d (.int j)) L=L (decide (i=j)):=rfl
theorem Vi:PB .Eq (.d (.str z)) (.d (.str y)) L=L (decide (z=y)):=rfl
theorem si:PB .NotEq (.d (.str z)) (.d (.str y)) L=L (!decide (z=y)):=rfl
theorem Ji{c:Bool}:PB .NotEq (.d (.bool b)) (.d (.bool c)) L=L (!decide (b=c)):=rfl
theorem Vv:PB .Lt (.d (.int i)) (.d (.int j)) L=L (decide (i<j)):=rfl
theorem zb:PB v (.d d) (.lst (ds.map T.d)) L=M5 v d (.list ds) L:=by show M5 v d (.list (ersT (ds.map T.d))) L=_;rw[UA]
theorem Bv:PB .Gt (.d (.int i)) (.d (.int j)) L=L (decide (j<i)):=rfl
theorem jA2:PB v t (nA (.d d) m) L=PB v t (.d d) L:=by rw[pA]
theorem Cv{u:T}:PB v t (nA u kd) L=PB v t u L:=rfl
theorem Vb:PB .In (.d (.str z)) (.d (.list ds)) L=(((xB (.str z)=kf/\ds.all xB=kf)∨(RF (.str z)/\RF (.list ds)))/\L (ds.any λy=>Qn y (.str z))):=rfl
theorem Kb:PB .NotIn (.d (.str z)) (.d (.list ds)) L=(((xB (.str z)=kf/\ds.all xB=kf)∨(RF (.str z)/\RF (.list ds)))/\L (!(ds.any λy=>Qn y (.str z)))):=rfl
theorem Yb:PB .NotIn (.d (.str z)) (.lst (ds.map T.d)) L=(((xB (.str z)=kf/\ds.all xB=kf)∨(RF (.str z)/\RF (.list ds)))/\L (!(ds.any λy=>Qn y (.str z)))):=by exact zb
theorem Xb:PB .In (.d d) (.dct b ks ts) L=(YD b d/\L (dA ks d).isSome):=by show(YD b d/\((CmpOp.In=.In/\L (dA ks d).isSome)∨(CmpOp.In=.NotIn/\L (!(dA ks d).isSome))))=_;simp
theorem oO:PB .NotIn (.d d) (.dct b ks ts) L=(YD b d/\L (!(dA ks d).isSome)):=by show(YD b d/\((CmpOp.NotIn=.In/\L (dA ks d).isSome)∨(CmpOp.NotIn=.NotIn/\L (!(dA ks d).isSome))))=_;simp
theorem Yi:PB .In (.d (.str z)) (.d (.tuple ds)) L=(((xB (.str z)=kf/\ds.all xB=kf)∨(RF (.str z)/\RF (.list ds)))/\L (ds.any λy=>Qn y (.str z))):=rfl
theorem Zi:PB .In (.d (.str z)) (.lst (ds.map T.d)) L=(((xB (.str z)=kf/\ds.all xB=kf)∨(RF (.str z)/\RF (.list ds)))/\L (ds.any λy=>Qn y (.str z))):=by exact zb
theorem jAr:k7 (.d (.bool b)) L=L b:=rfl
theorem jA3:jAI (.d (.bool b)) L=L b:=rfl
theorem Dh:eM .min [(.d (.int i),n),(.d (.int j),m)] Q=Q (.d (.int (if j<i then j else i))) false:=by unfold eM TB TB TB;rw[pA,pA];exact Pp i j
theorem yu:eM .len [(.d (.list ds),n)] Q=Q (.d (.int ds.9)) false:=by unfold eM TB;rw[pA];refine(Fi _).trans ?_;rw[QA]
theorem ju:eM .len [(.lst (ds.map T.d),n)] Q=Q (.d (.int ds.9)) false:=by unfold eM TB;rw[UC];refine(Fi _).trans ?_;rw[QA]
theorem Fh{ts:LT}(q:Q (.d (.int ks.9)) kd):eM .len [(.dct kd ks ts,kd)] Q:=.inr (.inr (.inr #[ks,ts,rfl,q]))
theorem bu:eM .all [(.lst (ds.map T.d),n)] Q=∃bs:List Bool,ds=bs.map PyData.bool/\Q (.d (.bool (bs.all id))) false:=by unfold eM TB;rw[UC];exact ot #[λ#[_,bs,e,h,q]=>by cases e;rw[rA]at h;exact#[bs,Qm h,q],λ#[bs,e,q]=>#[_,bs,rfl,by rw[rA,e],q]]
theorem xu:eM .any [(.lst (ds.map T.d),n)] Q=∃bs:List Bool,ds=bs.map PyData.bool/\Q (.d (.bool (bs.any id))) false:=by unfold eM TB;rw[UC];refine(Gv _).trans ?_;simp only[rA,Qp]
theorem Ta:BV (.ls ts) k R=False:=ot #[λ#[_,_,_,_,_,e,_]=>(by cases e),Qg]
theorem To:BV (.tp ts) k R=False:=ot #[λ#[_,_,_,_,_,e,_]=>(by cases e),Qg]
theorem Ao{x:D}:BV (.sc x) k R=False:=ot #[λ#[_,_,_,_,_,e,_]=>(by cases e),Qg]
theorem Nx:KA (.lst (ds.map T.d)) n (.d (.int i)) m R=bF (vD ds i) λd=>R (.d d):=by unfold KA;rw[UC,pA,Ta,or_false];refine(ma _ _).trans ?_;show bF (vD (ds.map T.d) i) R=_;rw[GF,IC]
theorem Uc:KA (.d (.list ds)) n (.d (.int i)) m R=bF (vD ds i) λd=>R (.d d):=by unfold KA;rw[pA,pA,show(T.d (.list ds)).vw=.ls (ds.map T.d) from rfl,Ta,or_false];refine(ma _ _).trans ?_;show bF (vD (ds.map T.d) i) R=_;rw[GF,IC]
theorem DW:KA (.d (.tuple ds)) n (.d (.int i)) m R=bF (vD ds i) λd=>R (.d d):=by unfold KA;rw[pA,pA,show(T.d (.tuple ds)).vw=.tp (ds.map T.d) from rfl,To,or_false];refine(Zo _ _).trans ?_;show bF (vD (ds.map T.d) i) R=_;rw[GF,IC]
theorem Ux:KA (.d (.str z)) n (.d (.int i)) m R=(z.9<=kn/\bF (vD z.cps.toList i) λc=>R (.d (.str #[(qG [c])]))):=by unfold KA;rw[pA,pA,show(T.d (.str z)).vw=.sc (.str z) from rfl,Ao,or_false];exact Ko _ _
theorem Tq{f:D}:KA (.lst [.d d,.d e,.d f]) n t m R=KA (.lst ([d,e,f].map T.d)) n t m R:=rfl
theorem yr{q:Bool}{l:Nat}(f:RC kvs=jr q)(a:YD q k)(w:dA (kvs.map (·.1)) k=jr l)(h:(kvs.map (·.2))[l]?=jr e)(x:R (.d e)):KA (.d (.dict kvs)) n (.d k) m R:=by
 unfold KA;rw[pA];refine .inr ?_;show BV (GB kvs) k R;unfold GB;rw[f];refine#[q,_,_,l,.d e,rfl,a,w,?_,x];rw[Qc]at h ⊢;cases z:kvs[l]? with|none=>rw[z]at h;cases h|some p=>rw[z]at h;cases h;rfl
theorem jAu:PL (.d (.str z)) n l u Q=(z.9<=kn/\Q (.d (.str (wz z l u))) kd):=by unfold PL;rw[pA];exact Nk z
theorem jAv:PL (.d (.list ds)) n l u Q=Q (.lst ((FJ ds l u).map T.d)) true:=by unfold PL;rw[pA];refine(Z7 _).trans ?_;rw[rA];exact GA
theorem Cs:PL (.lst (ds.map T.d)) n l u Q=Q (.lst ((FJ ds l u).map T.d)) true:=by unfold PL;rw[UC];refine(Z7 _).trans ?_;rw[rA];exact GA
theorem Hw:bK .val [(.d (.list ds),n)] W=W (ds.map T.d):=by unfold bK TB;rw[pA];exact YJ _
theorem Ax:bK .val [(.d (.tuple ds),n)] W=W (ds.map T.d):=by unfold bK TB;rw[pA];exact xa _
theorem Jk:bK .val [(.lst (ds.map T.d),n)] W=W (ds.map T.d):=by unfold bK TB;rw[UC];exact YJ _
theorem gr:bK .rev [(.lst (ds.map T.d),n)] W=W (ds.reverse.map T.d):=by unfold bK TB;rw[UC,W0];exact ot #[λ#[_,e,h]=>by cases e;exact h,λh=>#[_,rfl,h]]
theorem nr:bK .rng1 [(.d (.int j),n)] W=((-(2 ^ 62)<=j/\j<2 ^ 62)/\W ((Qo j.toNat).map λ(i:Nat)=>.d (.int (i:Int)))):=by unfold bK TB;rw[pA];exact ya j
theorem Ur:bK .enum [(.d (.list ds),n)] W=W (ds.zipIdx.map λp=>.d (.tuple [.int (p.2:Int),p.1])):=by unfold bK TB;rw[pA];refine(rV _).trans ?_;exact ot #[λ#[_,_,x,h,k]=>by cases x;rw[rA]at h;cases h;exact k,λk=>#[_,_,rfl,rA _,k]]
theorem Gg:bK .enum [(.lst (ds.map T.d),n)] W=W (ds.zipIdx.map λp=>.d (.tuple [.int (p.2:Int),p.1])):=by unfold bK TB;rw[UC];refine(rV _).trans ?_;exact ot #[λ#[_,_,x,h,k]=>by cases x;rw[rA]at h;cases h;exact k,λk=>#[_,_,rfl,rA _,k]]
theorem Kr(h:kvs=[]∨RC kvs=jr kf):bK .itm [(.d (.dict kvs),n)] W=W (kvs.map λp=>.d (.tuple [p.1,p.2])):=by
 unfold bK TB;rw[pA];show OB .itm [GB kvs] W=_;rcases h with rfl|h;exact ja;unfold GB;rw[h];refine(pV _ _).trans ?_;have e:(kvs.map λp=>T.d p.2)=(kvs.map (·.2)).map T.d:=by rw[QR];rfl
 have x:((kvs.map (·.1)).zip (kvs.map (·.2))).map (λp=>T.d (.tuple [p.1,p.2]))=kvs.map λp=>T.d (.tuple [p.1,p.2]):=by rw[List.zip_map',QR];rfl
 refine ot #[λ#[ds,w,k]=>?_,λk=>#[kvs.map (·.2),by rw[e,rA],?_]];rw[e,rA]at w;cases w;rw[x]at k;exact k;rw[x];exact k
noncomputable def eZ(Q:T->LT->Prop):PEnds:={ nx:=λ_=>Q (.d .none) [],rt:=λt _=>Q t [] }
theorem ui{Q:T->LT->Prop}{t:T}:(eZ Q).rt t ρ=Q t []:=rfl
theorem zA{Ψ:PEv}{b:PT}{p:PSp}{N x:LS}{ds:LT}{Q:T->LT->Prop}(ρ:xA)(h:pF Ψ b (eZ Q) ρ)(hl:ds.9=x.length:=by rfl)(hc:BB 0 p.md x.9=[]:=by rfl)(w:rB N p.md ds=ρ:=by rfl):ds.9=x.9/\pF Ψ b (zD p x.9 Q) (rB N p.md ds):=by
 have e:zD p x.9 Q=eZ Q:=by unfold zD;rw[hc];rfl
 rw[e,w];exact#[hl,h]
end
end
end L2.L3
namespace L2.L3.K46
open PySem PySem.Spec PyProof.Rows L2 L2.L3
section
variable{p q:Pt}{r:Rm}{Q:T->Prop}{l:Inn}{v:Int}{a b n g:Str}{w:Wy}{e:Str×Str}
def top(i:Nat):Stmt:=Qt.main.body.getD i (.Pass #[0,0,0,0])
noncomputable def EG:LS:=["edges","starts","goal","rooms","came_from","firsts","chains"]
def PF:LS:=["edges","starts","goal"]
noncomputable def FN:Need:=#[["rooms_of","points_reached","lay_chain","chain_from","full_names"],["BEGIN"],["sorted"]]
noncomputable def GC:PT :=
  %[.expr (.call "lay_chain" %[.var 3,.var 4,.tup %[.var 2,.str "to"|1]|1]),.set 4 (.call "points_reached" %[.var 3|1])|2]
def OG:PT :=
  %[.own 3 (.call "rooms_of" %[.var 0,.var 1,.var 2|1]),.set 4 (.call "points_reached" %[.var 3|1]),.whl (.cmp .In (.tup %[.var 2,.str "to"|1]) (.var 4)) GC,.set 5 (.comp [] ["point"] (.nm 0) .val %[.idx (.var 3) (.glo "BEGIN")|1] (.cmp .Gt (.idx (.idx (.var 4) (.var 0)) (.glo "BEGIN")) (.int 0)) (.idx (.var 0) (.int 0))),.set 6 (.comp [] ["first"] (.nm 0) .val %[.var 5|1] .nop (.call "chain_from" %[.var 4,.var 0,.var 3|1])),.ret (.tup %[.bi .sorted %[.var 6|1],.call "full_names" %[.var 4|1]|1])|2]
theorem uM:BA FN OG EG PF (top 3)=true:=by kernel_rfl
noncomputable def FO:LS:=["edges","starts","goal","rooms","name","first","second"]
def fL:LS:=["edges","starts","goal"]
def HX:Need:=#[["add_name","add_way"],["BEGIN","WIDE"],[]]
noncomputable def JF:PT :=
  %[.ife (.cmp .NotEq (.var 4) (.var 2)) %[.expr (.call "add_name" %[.var 3,.var 4|1]),.expr (.call "add_way" %[.var 3,.glo "BEGIN",.tup %[.var 4,.str "to"|1],.glo "WIDE"|1])|2] .nil|2]
noncomputable def iF:PT :=
  %[.ife (.and (.cmp .NotEq (.var 5) (.var 2)) (.cmp .NotEq (.var 5) (.var 6))) %[.expr (.call "add_name" %[.var 3,.var 5|1]),.expr (.call "add_name" %[.var 3,.var 6|1]),.expr (.call "add_way" %[.var 3,.tup %[.var 5,.str "from"|1],.tup %[.var 6,.str "to"|1],.glo "WIDE"|1])|2] .nil|2]
def JO:PT :=
  %[.own 3 (.dsp (.glo "BEGIN") (.dnew kf)),.for_ (.nm 4) .val %[.var 1|1] JF,.for_ (.tp [5,6]) .val %[.var 0|1] iF,.ret (.var 3)|2]
theorem PV:BA HX JO FO fL (top 4)=true:=by kernel_rfl
def EO:LS:=["rooms","name"]
def JL:LS:=["rooms","name"]
def EX:Need:=#[["add_way"],[],[]]
noncomputable def VI:PT :=
  %[.expr (.call "add_way" %[.var 0,.tup %[.var 1,.str "to"|1],.tup %[.var 1,.str "from"|1],.int 1|1])|2]
theorem kW:BA EX VI EO JL (top 5)=true:=by kernel_rfl
def IQ:LS:=["rooms","here","there","room"]
def aN:LS:=["rooms","here","there","room"]
def P4:Need:=#[[],[],[]]
noncomputable def CQ:PT :=
  %[.sdf 0 (.var 1),.sdf 0 (.var 2),.six (.idx (.var 0) (.var 1)) (.var 2) (.var 3),.six (.idx (.var 0) (.var 2)) (.var 1) (.int 0)|2]
theorem RY:BA P4 CQ IQ aN (top 6)=true:=by kernel_rfl
noncomputable def zF:LS:=["rooms","came_from","waiting","here","there","room"]
def SD:LS:=["rooms"]
def iK:Need:=#[[],["BEGIN"],["len"]]
noncomputable def bB:PT :=
  %[.ife (.and (.cmp .Gt (.var 5) (.int 0)) (.cmp .NotIn (.var 4) (.var 1))) %[.six (.var 1) (.var 4) (.var 3),.expr (.mt .append (.var 2) %[.var 4|1])|2] .nil|2]
def BD:PT :=
  %[.set 3 (.mt .pop (.var 2) %[.int 0|1]),.for_ (.tp [4,5]) .itm %[.idx (.var 0) (.var 3)|1] bB|2]
def jF:PT :=
  %[.own 1 (.dsp (.glo "BEGIN") .non),.own 2 (.lst %[.glo "BEGIN"|1]),.whl (.cmp .Gt (.bi .len %[.var 2|1]) (.int 0)) BD,.ret (.var 1)|2]
theorem GJ:BA iK jF zF SD (top 7)=true:=by kernel_rfl
def DL:LS:=["rooms","came_from","last","there","here"]
def bJ:LS:=["rooms","came_from","last"]
def NU:Need:=#[[],["BEGIN"],[]]
noncomputable def aE:PT :=
  %[.set 4 (.idx (.var 1) (.var 3)),.six (.idx (.var 0) (.var 4)) (.var 3) (.bin .Sub (.idx (.idx (.var 0) (.var 4)) (.var 3)) (.int 1)),.six (.idx (.var 0) (.var 3)) (.var 4) (.bin .Add (.idx (.idx (.var 0) (.var 3)) (.var 4)) (.int 1)),.set 3 (.var 4)|2]
def XG:PT :=
  %[.set 3 (.var 2),.whl (.cmp .NotEq (.var 3) (.glo "BEGIN")) aE|2]
theorem AS:BA NU XG DL bJ (top 8)=true:=by kernel_rfl
def zK:LS:=["rooms","first","goal","chain","name"]
def PH:LS:=["rooms","first","goal"]
def gS:Need:=#[["name_behind"],[],[]]
noncomputable def FD:PT :=
  %[.expr (.mt .append (.var 3) %[.var 4|1]),.set 4 (.call "name_behind" %[.var 0,.var 4|1])|2]
def DF:PT :=
  %[.own 3 (.lst .anil),.set 4 (.var 1),.whl (.cmp .NotEq (.var 4) (.var 2)) FD,.ret (.var 3)|2]
theorem KP:BA gS DF zK PH (top 9)=true:=by kernel_rfl
def AH:LS:=["rooms","name","here"]
def dG:LS:=["rooms","name"]
def fP:Need:=#[[],[],[]]
noncomputable def sE:PT :=
  %[.set 2 (.tup %[.var 1,.str "from"|1]),.ret (.idx (.comp [] ["there"] (.nm 0) .val %[.idx (.var 0) (.var 2)|1] (.and (.cmp .NotEq (.idx (.var 0) (.int 0)) (.var 2)) (.cmp .Gt (.idx (.idx (.var 1) (.var 0)) (.var 3)) (.int 0))) (.idx (.var 0) (.int 0))) (.int 0))|2]
theorem lO:BA fP sE AH dG (top 10)=true:=by kernel_rfl
def yK:LS:=["came_from"]
def OH:LS:=["came_from"]
def dS:Need:=#[[],[],["sorted"]]
noncomputable def BF:PT :=
  %[.ret (.bi .sorted %[.comp [] ["point"] (.nm 0) .val %[.var 0|1] (.and (.cmp .Eq (.idx (.var 0) (.int 1)) (.str "to")) (.cmp .NotIn (.tup %[.idx (.var 0) (.int 0),.str "from"|1]) (.var 1))) (.idx (.var 0) (.int 0))|1])|2]
theorem ZP:BA dS BF yK OH (top 11)=true:=by kernel_rfl
noncomputable def NL:LS:=["edges","seers","needs","ground","holders","others"]
def mJ:LS:=["edges","seers","needs"]
def AU:Need:=#[["ground_alone","told_through"],[],[]]
noncomputable def LG:PT :=
  %[.set 3 (.call "ground_alone" %[.var 0,.var 1,.var 2|1]),.set 4 (.comp [] ["name","chains"] (.tp [0,1]) .val %[.var 3|1] .nop (.var 0)),.set 5 (.comp [] ["name","number"] (.tp [0,1]) .val %[.var 2|1] (.cmp .NotIn (.var 0) (.var 6)) (.var 0)),.ret (.tup %[.var 3,.comp [] ["name"] (.nm 0) .val %[.var 5|1] .nop (.tup %[.var 0,.idx (.call "told_through" %[.var 1,.var 2,.var 5,.var 0|1]) (.int 1)|1])|1])|2]
theorem kT:BA AU LG NL mJ (top 13)=true:=by kernel_rfl
noncomputable def AG:LS:=["edges","seers","needs","ground","found","grown","name","number","chains"]
def OF:LS:=["edges","seers","needs"]
def DN:Need:=#[["told_through"],[],["len"]]
noncomputable def FC:PT :=
  %[.ife (.cmp .NotIn (.var 6) (.var 4)) %[.set 8 (.idx (.call "told_through" %[.var 0,.var 1,.var 4,.var 6|1]) (.int 0)),.ife (.cmp .GtE (.bi .len %[.var 8|1]) (.var 7)) %[.expr (.mt .append (.var 3) %[.tup %[.var 6,.slc (.var 8) .nop (.var 7)|1]|1]),.expr (.mt .append (.var 4) %[.var 6|1]),.set 5 (.bl kf)|2] .nil|2] .nil|2]
def CC:PT :=
  %[.set 5 (.bl kd),.for_ (.tp [6,7]) .val %[.var 2|1] FC|2]
def MG:PT :=
  %[.own 3 (.comp [kd,kd,kd,kd,kd,kd,kf,kf] ["name","number"] (.tp [0,1]) .val %[.var 2|1] (.cmp .In (.var 0) (.var 3)) (.tup %[.var 0,.lst .anil|1])),.own 4 (.comp [kd,kd,kd,kd,kd,kd,kf,kd,kf] ["name","chains"] (.tp [0,1]) .val %[.var 3|1] .nop (.var 0)),.set 5 (.bl kf),.whl (.var 5) CC,.ret (.var 3)|2]
theorem xM:BA DN MG AG OF (top 14)=true:=by kernel_rfl
def SG:LS:=["edges","seers","people","goal"]
def NF:LS:=["edges","seers","people","goal"]
def CN:Need:=#[["apart_chains"],[],[]]
noncomputable def UD:PT :=
  %[.ret (.call "apart_chains" %[.comp [] ["edge"] (.nm 0) .val %[.var 0|1] (.cmp .In (.idx (.var 0) (.int 0)) (.var 3)) (.var 0),.var 1,.var 3|1])|2]
theorem vM:BA CN UD SG NF (top 15)=true:=by kernel_rfl
noncomputable def Ib:LS:=["world","events","past","taken","wrong","held","known","steps","number","believed","live"]
def LZ:LS:=["world"]
noncomputable def Jn:Need:=#[["going_order","is_taken","wrong_among","live_among","held_among"],[],[]]
noncomputable def zL:PT :=
  %[.own 4 (.call "wrong_among" %[.var 0,.var 2|1]),.set 10 (.call "live_among" %[.var 1,.var 3,.var 4|1]),.set 5 (.call "held_among" %[.var 0,.var 2,.var 10,.var 6|1]),.expr (.mt .append (.var 7) %[.tup %[.var 8,.var 9,.var 10,.var 5|1]|1])|2]
def ZO:PT :=
  (.seq (.set 9 (.call "is_taken" %[.var 0,.idx (.var 1) (.var 8),.var 4,.var 5|1]))
  (.seq (.expr (.mt .append (.var 2) %[.var 8|1]))
  (.seq (.ife (.and (.var 9) (.cmp .Eq (.idx (.idx (.var 1) (.var 8)) (.int 0)) (.str "tell"))) %[.expr (.mt .append (.var 3) %[.var 8|1])|2] .nil)
  zL)))
def jZ:PT :=
  %[.set 1 (.idx (.var 0) (.int 3)),.own 2 (.lst .anil),.own 3 (.lst .anil),.own 4 (.dnew kf),.set 5 (.lst .anil),.own 6 (.dnew kf),.own 7 (.lst .anil),.for_ (.nm 8) .val %[.call "going_order" %[.var 1|1]|1] ZO,.ret (.var 7)|2]
theorem ug:BA Jn jZ Ib LZ (top 18)=true:=by kernel_rfl
noncomputable def NO:LS:=["world","event","wrong","held","teller","hearer","matter"]
def rL:LS:=["world","event","wrong","held"]
def OX:Need:=#[["has_against","rank_of","floor_of"],[],[]]
noncomputable def VF:PT :=
  %[.ife (.cmp .Eq (.idx (.var 1) (.int 0)) (.str "see")) %[.ret (.bl kf)|2] .nil,.set 4 (.idx (.var 1) (.int 2)),.set 5 (.idx (.var 1) (.int 3)),.set 6 (.idx (.var 1) (.int 4)),.ife (.or (.cmp .NotIn (.tup %[.var 4,.var 6|1]) (.var 3)) (.cmp .In (.tup %[.var 4,.var 5|1]) (.var 2))) %[.ret (.bl kd)|2] .nil,.ret (.and (.cmp .GtE (.call "rank_of" %[.var 0,.var 4|1]) (.call "floor_of" %[.var 0,.var 5|1])) (.not (.call "has_against" %[.var 0,.var 3,.var 5,.var 6|1])))|2]
theorem EV:BA OX VF NO rL (top 19)=true:=by kernel_rfl
def HQ:LS:=["world","name"]
def cN:LS:=["world","name"]
def V4:Need:=#[[],[],[]]
noncomputable def GK:PT :=
  %[.ret (.idx (.comp [] ["person"] (.nm 0) .val %[.idx (.var 0) (.int 0)|1] (.cmp .Eq (.idx (.var 0) (.int 0)) (.var 2)) (.idx (.var 0) (.int 1))) (.int 0))|2]
theorem BY:BA V4 GK HQ cN (top 20)=true:=by kernel_rfl
def OO:LS:=["world","name"]
def tL:LS:=["world","name"]
def RX:Need:=#[[],[],[]]
noncomputable def JI:PT :=
  %[.ret (.idx (.comp [] ["person"] (.nm 0) .val %[.idx (.var 0) (.int 0)|1] (.cmp .Eq (.idx (.var 0) (.int 0)) (.var 2)) (.idx (.var 0) (.int 2))) (.int 0))|2]
theorem IV:BA RX JI OO tL (top 21)=true:=by kernel_rfl
def IH:LS:=["world","pairs","name","matter","rivals"]
def gG:LS:=["world","pairs","name","matter"]
def lP:Need:=#[[],[],["any"]]
noncomputable def YE:PT :=
  %[.own 4 (.comp [] ["first","second"] (.tp [0,1]) .val %[.idx (.var 0) (.int 2)|1] (.cmp .Eq (.var 0) (.var 5)) (.var 1)),.expr (.mt .extend (.var 4) %[.comp [] ["first","second"] (.tp [0,1]) .val %[.idx (.var 0) (.int 2)|1] (.cmp .Eq (.var 1) (.var 5)) (.var 0)|1]),.ret (.bi .any %[.comp [] ["rival"] (.nm 0) .val %[.var 4|1] .nop (.cmp .In (.tup %[.var 3,.var 0|1]) (.var 2))|1])|2]
theorem nO:BA lP YE IH gG (top 22)=true:=by kernel_rfl
def SH:LS:=["world","past","seen","wrong","number","event"]
def bG:LS:=["world","past"]
def cP:Need:=#[["seen_among","has_against"],[],[]]
noncomputable def SF:PT :=
  %[.set 5 (.idx (.idx (.var 0) (.int 3)) (.var 4)),.ife (.and (.cmp .Eq (.idx (.var 5) (.int 0)) (.str "tell")) (.cmp .NotIn (.tup %[.idx (.var 5) (.int 3),.idx (.var 5) (.int 4)|1]) (.var 2))) %[.ife (.call "has_against" %[.var 0,.var 2,.idx (.var 5) (.int 3),.idx (.var 5) (.int 4)|1]) %[.six (.var 3) (.tup %[.idx (.var 5) (.int 2),.idx (.var 5) (.int 3)|1]) (.bl kf)|2] .nil|2] .nil|2]
def pE:PT :=
  %[.own 2 (.call "seen_among" %[.idx (.var 0) (.int 3),.var 1|1]),.own 3 (.dnew kf),.for_ (.nm 4) .val %[.var 1|1] SF,.ret (.var 3)|2]
theorem fO:BA cP pE SH bG (top 23)=true:=by kernel_rfl
def AJ:LS:=["events","past","seen","number"]
def HH:LS:=["events","past"]
def xS:Need:=#[[],[],[]]
noncomputable def VG:PT :=
  %[.ife (.cmp .Eq (.idx (.idx (.var 0) (.var 3)) (.int 0)) (.str "see")) %[.six (.var 2) (.tup %[.idx (.idx (.var 0) (.var 3)) (.int 2),.idx (.idx (.var 0) (.var 3)) (.int 3)|1]) (.bl kf)|2] .nil|2]
def eF:PT :=
  %[.own 2 (.dnew kf),.for_ (.nm 3) .val %[.var 1|1] VG,.ret (.var 2)|2]
theorem aP:BA xS eF AJ HH (top 24)=true:=by kernel_rfl
def EJ:LS:=["events","taken","wrong"]
def LH:LS:=["events","taken","wrong"]
def uS:Need:=#[[],[],["sorted"]]
noncomputable def YF:PT :=
  %[.ret (.bi .sorted %[.comp [] ["number"] (.nm 0) .val %[.var 1|1] (.cmp .NotIn (.tup %[.idx (.idx (.var 1) (.var 0)) (.int 2),.idx (.idx (.var 1) (.var 0)) (.int 3)|1]) (.var 3)) (.var 0)|1])|2]
theorem eP:BA uS YF EJ LH (top 25)=true:=by kernel_rfl
def jK:LS:=["world","past","live","known","seen","holders","matter","web","held","person"]
def NH:LS:=["world","past","live","known"]
noncomputable def cS:Need:=#[["seen_among","edges_of","seers_of","holders_in"],[],[]]
noncomputable def yD:PT :=
  %[.six (.var 5) (.var 6) (.idx (.var 3) (.var 7))|2]
def DD:PT :=
  (.seq (.set 7 (.tup %[.call "seers_of" %[.var 0,.var 4,.var 6|1],.call "edges_of" %[.idx (.var 0) (.int 3),.var 2,.var 6|1]|1]))
  (.seq (.ife (.cmp .NotIn (.var 7) (.var 3)) %[.six (.var 3) (.var 7) (.call "holders_in" %[.var 0,.var 7|1])|2] .nil)
  yD))
noncomputable def CD:PT :=
  %[.expr (.mt .extend (.var 8) %[.comp [kd,kd,kd,kd,kd,kd,kf] ["matter"] (.nm 0) .val %[.idx (.var 0) (.int 1)|1] (.cmp .In (.idx (.var 10) (.int 0)) (.idx (.var 6) (.var 0))) (.tup %[.idx (.var 10) (.int 0),.var 0|1])|1])|2]
def UF:PT :=
  %[.own 4 (.call "seen_among" %[.idx (.var 0) (.int 3),.var 1|1]),.own 5 (.dnew kd),.for_ (.nm 6) .val %[.idx (.var 0) (.int 1)|1] DD,.own 8 (.lst .anil),.for_ (.nm 9) .val %[.idx (.var 0) (.int 0)|1] CD,.ret (.var 8)|2]
theorem JP:BA cS UF jK NH (top 26)=true:=by kernel_rfl
def DO:LS:=["world","seen","matter"]
def dL:LS:=["world","seen","matter"]
def GX:Need:=#[[],[],["tuple"]]
noncomputable def tI:PT :=
  %[.ret (.bi .tuple %[.comp [] ["person"] (.nm 0) .val %[.idx (.var 0) (.int 0)|1] (.cmp .In (.tup %[.idx (.var 0) (.int 0),.var 3|1]) (.var 2)) (.idx (.var 0) (.int 0))|1])|2]
theorem OV:BA GX tI DO dL (top 27)=true:=by kernel_rfl
def RO:LS:=["events","live","matter","tells"]
def aL:LS:=["events","live","matter"]
def SX:Need:=#[[],[],["tuple"]]
noncomputable def YI:PT :=
  %[.set 3 (.comp [] ["number"] (.nm 0) .val %[.var 1|1] (.cmp .Eq (.idx (.idx (.var 1) (.var 0)) (.int 4)) (.var 3)) (.idx (.var 1) (.var 0))),.ret (.bi .tuple %[.comp [] ["event"] (.nm 0) .val %[.var 3|1] .nop (.tup %[.idx (.var 0) (.int 2),.idx (.var 0) (.int 3)|1])|1])|2]
theorem jW:BA SX YI RO aL (top 28)=true:=by kernel_rfl
def IJ:LS:=["world","web"]
def MH:LS:=["world","web"]
def bS:Need:=#[["ground_alone","needs_of"],[],[]]
noncomputable def XF:PT :=
  %[.ret (.comp [] ["name","chains"] (.tp [0,1]) .val %[.call "ground_alone" %[.idx (.var 1) (.int 1),.idx (.var 1) (.int 0),.call "needs_of" %[.var 0|1]|1]|1] .nop (.var 0))|2]
theorem iP:BA bS XF IJ MH (top 29)=true:=by kernel_rfl
def GO:LS:=["world"]
def gL:LS:=["world"]
def LX:Need:=#[[],[],[]]
noncomputable def aI:PT :=
  %[.ret (.comp [] ["person"] (.nm 0) .val %[.idx (.var 0) (.int 0)|1] .nop (.tup %[.idx (.var 0) (.int 0),.idx (.var 0) (.int 3)|1]))|2]
theorem RV:BA LX aI GO gL (top 30)=true:=by kernel_rfl
def EH:LS:=["world"]
def fG:LS:=["world"]
def gP:Need:=#[["gone"],[],[]]
noncomputable def eE:PT :=
  %[.ret (.tup %[.var 0,.call "gone" %[.var 0|1]|1])|2]
theorem mO:BA gP eE EH fG (top 32)=true:=by kernel_rfl
def LQ:LS:=["moment"]
def dN:LS:=["moment"]
def X4:Need:=#[[],[],[]]
noncomputable def HK:PT :=
  %[.ret (.comp [] ["step"] (.nm 0) .val %[.idx (.var 0) (.int 1)|1] .nop (.idx (.var 0) (.int 0)))|2]
theorem CY:BA X4 HK LQ dN (top 33)=true:=by kernel_rfl
def MQ:LS:=["moment"]
def fN:LS:=["moment"]
def U4:Need:=#[[],[],["len"]]
noncomputable def LK:PT :=
  %[.ret (.ife (.cmp .Gt (.bi .len %[.idx (.var 0) (.int 1)|1]) (.int 0)) (.idx (.idx (.idx (.var 0) (.int 1)) (.ng 1)) (.int 2)) (.lst .anil))|2]
theorem DY:BA U4 LK MQ fN (top 34)=true:=by kernel_rfl
def EQ:LS:=["moment"]
def tN:LS:=["moment"]
def O4:Need:=#[[],[],["len"]]
noncomputable def yL:PT :=
  %[.ret (.ife (.cmp .Gt (.bi .len %[.idx (.var 0) (.int 1)|1]) (.int 0)) (.idx (.idx (.idx (.var 0) (.int 1)) (.ng 1)) (.int 3)) (.lst .anil))|2]
theorem PY:BA O4 yL EQ tN (top 35)=true:=by kernel_rfl
def GQ:LS:=["moment"]
def bN:LS:=["moment"]
def K4:Need:=#[["seen_among","past_in"],[],[]]
noncomputable def FK:PT :=
  %[.ret (.call "seen_among" %[.idx (.idx (.var 0) (.int 0)) (.int 3),.call "past_in" %[.var 0|1]|1])|2]
theorem UY:BA K4 FK GQ bN (top 36)=true:=by kernel_rfl
def pW:LS:=["moment","matter"]
def xQ:LS:=["moment","matter"]
noncomputable def p9:Need:=#[["edges_of","live_in","seers_of","seen_in"],[],[]]
noncomputable def eO:PT :=
  %[.ret (.tup %[.call "seers_of" %[.idx (.var 0) (.int 0),.call "seen_in" %[.var 0|1],.var 1|1],.call "edges_of" %[.idx (.idx (.var 0) (.int 0)) (.int 3),.call "live_in" %[.var 0|1],.var 1|1]|1])|2]
theorem N5:BA p9 eO pW xQ (top 37)=true:=by kernel_rfl
def TH:LS:=["web","person"]
def cG:LS:=["web","person"]
def dP:Need:=#[[],[],[]]
noncomputable def rE:PT :=
  %[.ret (.tup %[.idx (.var 0) (.int 0),.comp [] ["edge"] (.nm 0) .val %[.idx (.var 0) (.int 1)|1] (.cmp .NotEq (.idx (.var 0) (.int 0)) (.var 2)) (.var 0)|1])|2]
theorem gO:BA dP rE TH cG (top 38)=true:=by kernel_rfl
def LL:LS:=["world","matter"]
def gJ:LS:=["world","matter"]
def SU:Need:=#[["ground_in","last_moment"],[],[]]
noncomputable def GG:PT :=
  %[.ret (.call "ground_in" %[.call "last_moment" %[.var 0|1],.var 1|1])|2]
theorem yT:BA SU GG LL gJ (top 40)=true:=by kernel_rfl
def SO:LS:=["world","person","matter"]
def eL:LS:=["world","person","matter"]
def TX:Need:=#[["apart_in","last_moment"],[],[]]
noncomputable def ZI:PT :=
  %[.ret (.call "apart_in" %[.call "last_moment" %[.var 0|1],.var 1,.var 2|1])|2]
theorem yW:BA TX ZI SO eL (top 41)=true:=by kernel_rfl
def ML:LS:=["moment","matter","web"]
def lJ:LS:=["moment","matter"]
def TU:Need:=#[["web_of","ground_by","needs_of"],[],[]]
noncomputable def HG:PT :=
  %[.set 2 (.call "web_of" %[.var 0,.var 1|1]),.ret (.call "ground_by" %[.idx (.var 2) (.int 1),.idx (.var 2) (.int 0),.call "needs_of" %[.idx (.var 0) (.int 0)|1]|1])|2]
theorem zT:BA TU HG ML lJ (top 42)=true:=by kernel_rfl
def AO:LS:=["moment","person","matter","web"]
def iL:LS:=["moment","person","matter"]
noncomputable def AX:Need:=#[["web_without","web_of","told_through","holders_in"],[],[]]
noncomputable def KI:PT :=
  %[.set 3 (.call "web_without" %[.call "web_of" %[.var 0,.var 2|1],.var 1|1]),.ret (.call "told_through" %[.idx (.var 3) (.int 1),.idx (.var 3) (.int 0),.call "holders_in" %[.idx (.var 0) (.int 0),.var 3|1],.var 1|1])|2]
theorem zW:BA AX KI AO iL (top 43)=true:=by kernel_rfl
def rW:LS:=["world","person","moment"]
def uQ:LS:=["world","person"]
def r9:Need:=#[["last_moment","left_in","fallen_in"],[],[]]
noncomputable def iO:PT :=
  %[.set 2 (.call "last_moment" %[.var 0|1]),.ret (.tup %[.call "fallen_in" %[.var 2,.var 1|1],.comp [] ["matter"] (.nm 0) .val %[.idx (.var 0) (.int 1)|1] .nop (.call "left_in" %[.var 3,.var 2,.var 0|1])|1])|2]
theorem O5:BA r9 iO rW uQ (top 45)=true:=by kernel_rfl
def OL:LS:=["moment","person","holders","matter"]
def nJ:LS:=["moment","person"]
def EU:Need:=#[["holders_without","held_in"],[],[]]
noncomputable def ZE:PT :=
  %[.six (.var 2) (.var 3) (.call "holders_without" %[.var 0,.var 1,.var 3|1])|2]
def NG:PT :=
  %[.own 2 (.dnew kd),.for_ (.nm 3) .val %[.idx (.idx (.var 0) (.int 0)) (.int 1)|1] ZE,.ret (.comp [] ["pair"] (.nm 0) .val %[.call "held_in" %[.var 0|1]|1] (.cmp .NotIn (.idx (.var 0) (.int 0)) (.idx (.var 3) (.idx (.var 0) (.int 1)))) (.var 0))|2]
theorem vT:BA EU NG OL nJ (top 46)=true:=by kernel_rfl
def NQ:LS:=["moment","person","matter","web"]
def gN:LS:=["moment","person","matter"]
noncomputable def B4:Need:=#[["web_without","web_of","ground_by","needs_of"],[],[]]
noncomputable def MK:PT :=
  %[.set 3 (.call "web_without" %[.call "web_of" %[.var 0,.var 2|1],.var 1|1]),.ret (.bin .Add (.tup %[.var 2|1]) (.call "ground_by" %[.idx (.var 3) (.int 1),.idx (.var 3) (.int 0),.call "needs_of" %[.idx (.var 0) (.int 0)|1]|1]))|2]
theorem FY:BA B4 MK NQ gN (top 47)=true:=by kernel_rfl
def vE:LS:=["moment","person","matter"]
def eD:LS:=["moment","person","matter"]
def tJ:Need:=#[["holders_in","web_without","web_of"],[],[]]
noncomputable def JC:PT :=
  %[.ret (.call "holders_in" %[.idx (.var 0) (.int 0),.call "web_without" %[.call "web_of" %[.var 0,.var 2|1],.var 1|1]|1])|2]
theorem sI:BA tJ JC vE eD (top 48)=true:=by kernel_rfl
def GL:LS:=["_law_script","_law_k"]
def dJ:LS:=["_law_script","_law_k"]
def PU:Need:=#[[],[],["len"]]
noncomputable def DG:PT :=
  %[.ife (.cmp .Lt (.var 1) (.bi .len %[.var 0|1])) %[.ret (.idx (.var 0) (.var 1))|2] .nil,.ret (.int 0)|2]
theorem IS:BA PU DG GL dJ (top 50)=true:=by kernel_rfl
def TQ:LS:=["_law_cell","_law_k","_law_number"]
def rN:LS:=["_law_cell","_law_k"]
def M4:Need:=#[[],[],[]]
noncomputable def IK:PT :=
  %[.set 2 (.bin .Mod (.bin .Mult (.bin .Mod (.var 0) (.int 2147483647)) (.bin .Add (.int 69621) (.bin .Mult (.bin .Mult (.int 1511) (.var 1)) (.var 1)))) (.int 2147483629)),.ret (.bin .Mod (.bin .Mult (.bin .Add (.var 2) (.var 1)) (.bin .Add (.bin .Add (.var 2) (.bin .Mult (.int 5) (.var 1))) (.int 1))) (.int 2147483587))|2]
theorem NY:BA M4 IK TQ rN (top 51)=true:=by kernel_rfl
noncomputable def FL:LS:=["_law_number","_law_size","_law_some","_law_word","_law_k"]
def cJ:LS:=["_law_number","_law_size"]
def OU:Need:=#[[],[],["range"]]
noncomputable def RH:PT :=
  %[.set 3 (.bin .Add (.var 3) (.idx (.var 2) (.bin .Mod (.var 0) (.int 26)))),.set 0 (.bin .FloorDiv (.var 0) (.int 26))|2]
def CG:PT :=
  %[.set 2 (.str "abcdefghijklmnopqrstuvwxyz"),.set 3 (.str ""),.for_ (.nm 4) .rng1 %[.var 1|1] RH,.ret (.var 3)|2]
theorem ES:BA OU CG FL cJ (top 52)=true:=by kernel_rfl
def RQ:LS:=["_law_word","_law_some","_law_kept"]
def nN:LS:=["_law_word"]
def G4:Need:=#[[],[],[]]
noncomputable def RK:PT :=
  %[.set 1 (.str "abcdefghijklmnopqrstuvwxyz"),.set 2 (.lst %[.str "person",.str "matter",.str "against",.str "see",.str "tell",.str "by",.str "at",.str "who",.str "what",.str "since",.str "tellers"|1]),.ife (.or (.cmp .In (.var 0) (.var 2)) (.cmp .In (.var 0) (.lst %[.str "wordings",.str "apart",.str "leans",.str "hidden",.str "strike",.str "quote",.str "ground",.str "cut"|1]))) %[.ret (.bin .Add (.slc (.var 0) .nop (.ng 1)) (.idx (.var 1) (.bin .Mod (.bin .Add (.mt .index (.var 1) %[.idx (.var 0) (.ng 1)|1]) (.int 13)) (.int 26))))|2] .nil,.ret (.var 0)|2]
theorem LY:BA G4 RK RQ nN (top 53)=true:=by kernel_rfl
noncomputable def PQ:LS:=["_law_cell","_law_many","_law_longest","_law_some","_law_number","_law_base","_law_size","_law_at","_law_words_here","_law_k","_law_sign","_law_word"]
def mN:LS:=["_law_cell","_law_many","_law_longest"]
noncomputable def D4:Need:=#[["_law_mixed","_law_letters","_law_spelt"],[],["range","list","reversed"]]
noncomputable def gD:PT :=
  %[.expr (.mt .append (.var 8) %[.call "_law_spelt" %[.var 11|1]|1])|2]
def BG:PT :=
  (.seq (.set 10 (.idx (.var 3) (.bin .Mod (.bin .Add (.bin .FloorDiv (.var 4) (.int 192)) (.var 9)) (.int 26))))
  (.seq (.ife (.cmp .Eq (.bin .Mod (.var 4) (.int 3)) (.int 0)) %[.set 11 (.bin .Add (.bin .Add (.slc (.var 5) .nop (.var 7)) (.var 10)) (.slc (.var 5) (.bin .Add (.var 7) (.int 1)) (.var 6)))|2] %[.ife (.cmp .Eq (.bin .Mod (.var 4) (.int 3)) (.int 1)) %[.set 11 (.slc (.var 5) .nop (.bin .Add (.int 1) (.bin .Mod (.bin .Add (.bin .FloorDiv (.var 4) (.int 24)) (.var 9)) (.var 2))))|2] %[.set 11 (.slc (.bin .Add (.var 10) (.call "_law_letters" %[.call "_law_mixed" %[.var 0,.bin .Add (.var 9) (.int 2)|1],.int 7|1])) .nop (.bin .Add (.int 1) (.bin .Mod (.call "_law_mixed" %[.var 0,.bin .Add (.var 9) (.int 40)|1]) (.var 2))))|2]|2])
  gD))
def PK:PT :=
  %[.set 3 (.str "abcdefghijklmnopqrstuvwxyz"),.set 4 (.call "_law_mixed" %[.var 0,.int 1|1]),.set 5 (.call "_law_letters" %[.bin .Add (.bin .Mult (.var 4) (.var 4)) (.var 4),.int 8|1]),.set 6 (.bin .Add (.int 1) (.bin .Mod (.bin .FloorDiv (.var 4) (.int 3)) (.var 2))),.set 7 (.bin .Mod (.bin .FloorDiv (.var 4) (.int 24)) (.var 6)),.own 8 (.lst .anil),.for_ (.nm 9) .rng1 %[.var 1|1] BG,.ife (.cmp .Eq (.bin .Mod (.bin .FloorDiv (.var 4) (.int 5000)) (.int 2)) (.int 1)) %[.ret (.lrv (.var 8))|2] .nil,.ret (.var 8)|2]
theorem HY:BA D4 PK PQ mN (top 54)=true:=by kernel_rfl
def LO:LS:=["_law_name","_law_m","_law_floor","_law_rank"]
def lL:LS:=["_law_name","_law_m"]
def MX:Need:=#[[],[],[]]
noncomputable def eI:PT :=
  %[.set 2 (.idx (.lst %[.int 0,.int 0,.int 0,.int 20,.int 50,.int 99|1]) (.bin .Mod (.var 1) (.int 6))),.set 3 (.idx (.lst %[.int 99,.int 50,.int 20,.int 99,.int 0,.int 50,.int 99,.int 21|1]) (.bin .Mod (.bin .FloorDiv (.var 1) (.int 6)) (.int 8))),.ret (.tup %[.var 0,.var 3,.var 2,.idx (.lst %[.int 1,.int 1,.int 1,.int 2,.int 2,.int 3|1]) (.bin .Mod (.bin .FloorDiv (.var 1) (.int 48)) (.int 6))|1])|2]
theorem SV:BA MX eI LO lL (top 55)=true:=by kernel_rfl
noncomputable def HL:LS:=["_law_matters","_law_m","_law_found","_law_j","_law_k"]
def fJ:LS:=["_law_matters","_law_m"]
def RU:Need:=#[[],[],["range","len"]]
noncomputable def JE:PT :=
  %[.set 1 (.bin .FloorDiv (.var 1) (.int 3)),.ife (.cmp .Eq (.bin .Mod (.var 1) (.int 3)) (.int 0)) %[.expr (.mt .append (.var 2) %[.tup %[.idx (.var 0) (.var 3),.idx (.var 0) (.var 4)|1]|1])|2] %[.ife (.cmp .Eq (.bin .Mod (.var 1) (.int 3)) (.int 1)) %[.expr (.mt .append (.var 2) %[.tup %[.idx (.var 0) (.var 4),.idx (.var 0) (.var 3)|1]|1])|2] .nil|2]|2]
def iE:PT :=
  %[.for_ (.nm 4) .rng1 %[.var 3|1] JE|2]
def FG:PT :=
  %[.own 2 (.lst .anil),.for_ (.nm 3) .rng1 %[.bi .len %[.var 0|1]|1] iE,.ret (.var 2)|2]
theorem jT:BA RU FG HL fJ (top 56)=true:=by kernel_rfl
noncomputable def SQ:LS:=["_law_events","_law_teller","_law_matter","_law_most","_law_told","_law_here","_law_event_here"]
noncomputable def pN:LS:=["_law_events","_law_teller","_law_matter","_law_most"]
def L4:Need:=#[[],[],["reversed","len","tuple"]]
noncomputable def zE:PT :=
  %[.ife (.and (.cmp .Eq (.idx (.var 6) (.int 0)) (.str "tell")) (.and (.cmp .Eq (.idx (.var 6) (.int 3)) (.var 5)) (.and (.cmp .Eq (.idx (.var 6) (.int 4)) (.var 2)) (.cmp .Lt (.bi .len %[.var 4|1]) (.var 3))))) %[.expr (.mt .append (.var 4) %[.idx (.var 6) (.int 2)|1]),.set 5 (.idx (.var 6) (.int 2))|2] .nil|2]
def SK:PT :=
  %[.own 4 (.lst .anil),.set 5 (.var 1),.for_ (.nm 6) .rev %[.var 0|1] zE,.ret (.bi .tuple %[.var 4|1])|2]
theorem MY:BA L4 SK SQ pN (top 57)=true:=by kernel_rfl
noncomputable def AQ:LS:=["_law_events","_law_names","_law_matters","_law_m","_law_time","_law_rest","_law_one_here","_law_matter","_law_word","_law_other","_law_quote_here"]
noncomputable def sN:LS:=["_law_events","_law_names","_law_matters","_law_m"]
noncomputable def N4:Need:=#[["_law_letters","_law_quote"],[],["len","tuple","range"]]
noncomputable def KF:PT :=
  %[.ret (.tup %[.str "tell",.var 4,.idx (.var 1) (.var 6),.idx (.var 1) (.var 9),.var 7,.var 8,.var 10|1])|2]
def jL:PT :=
  (.seq (.set 4 (.idx (.lst %[.bin .Mod (.bin .FloorDiv (.var 3) (.int 3)) (.int 5),.bin .Mod (.bin .FloorDiv (.var 3) (.int 3)) (.int 30),.bin .Sub (.int 999999999) (.bin .Mod (.bin .FloorDiv (.var 3) (.int 3)) (.int 4))|1]) (.bin .Mod (.var 3) (.int 3))))
  (.seq (.set 5 (.bin .FloorDiv (.var 3) (.int 40)))
  (.seq (.set 6 (.bin .Mod (.var 5) (.bi .len %[.var 1|1])))
  (.seq (.set 7 (.idx (.var 2) (.bin .Mod (.bin .FloorDiv (.var 5) (.int 7)) (.bi .len %[.var 2|1]))))
  (.seq (.set 8 (.call "_law_letters" %[.var 5,.bin .Add (.int 1) (.bin .Mod (.bin .FloorDiv (.var 5) (.int 11)) (.int 8))|1]))
  (.seq (.ife (.cmp .Eq (.bin .Mod (.bin .FloorDiv (.var 5) (.int 90)) (.int 4)) (.int 0)) %[.ret (.tup %[.str "see",.var 4,.idx (.var 1) (.var 6),.var 7,.var 8|1])|2] .nil)
  (.seq (.set 9 (.bin .Mod (.bin .Add (.bin .Add (.var 6) (.int 1)) (.bin .Mod (.bin .FloorDiv (.var 5) (.int 360)) (.bin .Sub (.bi .len %[.var 1|1]) (.int 1)))) (.bi .len %[.var 1|1])))
  (.seq (.set 10 (.call "_law_quote" %[.var 0,.idx (.var 1) (.var 6),.var 7,.bin .Mod (.bin .FloorDiv (.var 5) (.int 2500)) (.int 4)|1]))
  (.seq (.ife (.cmp .Eq (.bin .Mod (.bin .FloorDiv (.var 5) (.int 10000)) (.int 5)) (.int 0)) %[.set 10 (.bi .tuple %[.comp [] ["_law_k"] (.nm 0) .rng1 %[.bin .Add (.int 1) (.bin .Mod (.bin .FloorDiv (.var 5) (.int 2500)) (.int 3))|1] .nop (.idx (.var 2) (.bin .Mod (.bin .Add (.bin .FloorDiv (.var 6) (.int 50000)) (.bin .Mult (.int 2) (.var 0))) (.bi .len %[.var 2|1])))|1])|2] .nil)
  KF)))))))))
theorem OY:BA N4 jL AQ sN (top 58)=true:=by kernel_rfl
noncomputable def MO:LS:=["_law_cells","_law_many","_law_sums","_law_k","_law_cell"]
def mL:LS:=["_law_cells","_law_many"]
def NX:Need:=#[[],[],["range","min","len","enumerate"]]
noncomputable def ZF:PT :=
  %[.six (.var 2) (.bin .Mod (.var 3) (.var 1)) (.bin .Add (.idx (.var 2) (.bin .Mod (.var 3) (.var 1))) (.var 4))|2]
def iI:PT :=
  %[.own 2 (.comp [kd,kd,kd,kf] ["_law_k"] (.nm 0) .rng1 %[.bi .min %[.var 1,.bi .len %[.var 0|1]|1]|1] .nop (.int 0)),.for_ (.tp [3,4]) .enum %[.var 0|1] ZF,.ret (.var 2)|2]
theorem TV:BA NX iI MO mL (top 59)=true:=by kernel_rfl
noncomputable def OQ:LS:=["_law_script","_law_first","_law_second","_law_names","_law_matters","_law_people","_law_events","_law_k","_law_cell"]
def lN:LS:=["_law_script"]
noncomputable def C4:Need:=#[["_law_mixed","_law_cell_at","_law_words","_law_person","_law_folded","_law_event","_law_against"],[],["enumerate"]]
noncomputable def UG:PT :=
  %[.expr (.mt .append (.var 6) %[.call "_law_event" %[.var 6,.var 3,.var 4,.call "_law_mixed" %[.var 8,.bin .Add (.var 7) (.int 3)|1]|1]|1])|2]
def OK:PT :=
  %[.set 1 (.call "_law_mixed" %[.call "_law_cell_at" %[.var 0,.int 0|1],.int 1|1]),.set 2 (.call "_law_mixed" %[.call "_law_cell_at" %[.var 0,.int 1|1],.int 2|1]),.set 3 (.call "_law_words" %[.call "_law_cell_at" %[.var 0,.int 0|1],.bin .Add (.int 2) (.bin .Mod (.var 1) (.int 5)),.int 8|1]),.set 4 (.call "_law_words" %[.call "_law_cell_at" %[.var 0,.int 1|1],.bin .Add (.int 1) (.bin .Mod (.var 2) (.int 3)),.int 8|1]),.set 5 (.comp [kd,kd,kd,kd,kd,kd,kd,kf] ["_law_k","_law_name"] (.tp [0,1]) .enum %[.var 3|1] .nop (.call "_law_person" %[.var 1,.call "_law_mixed" %[.call "_law_cell_at" %[.var 2,.int 0|1],.bin .Add (.int 10) (.var 0)|1]|1])),.own 6 (.lst .anil),.for_ (.tp [7,8]) .enum %[.call "_law_folded" %[.slc (.var 0) (.int 2) .nop,.int 12|1]|1] UG,.frz [6] (.ret (.tup %[.var 5,.var 4,.call "_law_against" %[.var 4,.bin .FloorDiv (.var 2) (.int 3)|1],.var 6|1]))|2]
theorem GY:BA C4 OK OQ lN (top 60)=true:=by kernel_rfl
def sW:LS:=["_law_world_here","_law_steps"]
def bQ:LS:=["_law_world_here"]
def t9:Need:=#[["gone"],[],["len"]]
noncomputable def YO:PT :=
  %[.set 1 (.call "gone" %[.var 0|1]),.ife (.cmp .Eq (.bi .len %[.var 1|1]) (.int 0)) %[.ret (.tup %[.lst .anil,.lst .anil|1])|2] .nil,.ret (.tup %[.idx (.idx (.var 1) (.ng 1)) (.int 2),.idx (.idx (.var 1) (.ng 1)) (.int 3)|1])|2]
theorem P5:BA t9 YO sW bQ (top 61)=true:=by kernel_rfl
noncomputable def E2:LS:=["_law_world_here","_law_held","_law_matter","_law_person_here","_law_ground","_law_cuts","_law_name","_law_chains","_law_seen","_law_enough","_law_fallen","_law_left","_law_kept","_law_chain"]
noncomputable def eU:LS:=["_law_world_here","_law_held","_law_matter","_law_person_here","_law_ground","_law_cuts"]
def uf:Need:=#[["apart_of","struck"],[],["len","all"]]
noncomputable def AK:PT :=
  %[.ife (.not (.bi .all %[.comp [] ["_law_one_here"] (.nm 0) .val %[.var 13|1] .nop (.cmp .In (.var 0) (.var 13))|1])) %[.ret (.bl kd)|2] .nil|2]
def C2:PT :=
  %[.set 6 (.idx (.var 3) (.int 0)),.set 7 (.idx (.call "apart_of" %[.var 0,.var 6,.var 2|1]) (.int 0)),.set 8 (.cmp .In (.tup %[.str "see",.var 6,.var 2|1]) (.comp [] ["_law_event_here"] (.nm 0) .val %[.idx (.var 0) (.int 3)|1] .nop (.tup %[.idx (.var 0) (.int 0),.idx (.var 0) (.int 2),.idx (.var 0) (.int 3)|1]))),.set 9 (.or (.var 8) (.cmp .GtE (.bi .len %[.var 7|1]) (.idx (.var 3) (.int 3)))),.ife (.or (.cmp .NotEq (.cmp .In (.tup %[.var 6,.var 2|1]) (.var 1)) (.var 9)) (.cmp .NotEq (.cmp .In (.var 6) (.var 4)) (.var 9))) %[.ret (.bl kd)|2] .nil,.ife (.and (.not (.var 9)) (.cmp .Lt (.bi .len %[.idx (.var 5) (.var 6)|1]) (.bi .len %[.var 7|1]))) %[.ret (.bl kd)|2] .nil,.tset [10,11] (.call "struck" %[.var 0,.var 6|1]),.set 12 (.comp [] ["_law_row"] (.nm 0) .val %[.idx (.idx (.comp [] ["_law_some"] (.nm 0) .val %[.var 11|1] (.cmp .Eq (.idx (.var 0) (.int 0)) (.var 3)) (.var 0)) (.int 0)) (.int 1)|1] .nop (.idx (.var 0) (.int 0))),.for_ (.nm 13) .val %[.var 7|1] AK,.ret (.cmp .Eq (.bi .len %[.comp [] ["_law_pair"] (.nm 0) .val %[.var 10|1] (.and (.cmp .Eq (.idx (.var 0) (.int 1)) (.var 3)) (.cmp .In (.idx (.var 0) (.int 0)) (.var 13))) (.var 0)|1]) (.int 0))|2]
theorem cb:BA uf C2 E2 eU (top 62)=true:=by kernel_rfl
noncomputable def Uj:LS:=["_law_script","_law_world_here","_law_live","_law_held","_law_matter","_law_told","_law_ground","_law_cuts","_law_person_here"]
def v8:LS:=["_law_script"]
noncomputable def zu:Need:=#[["_law_world","_law_last","_law_mixed","_law_cell_at","ground_of","_law_one"],[],["len","dict"]]
noncomputable def uT:PT :=
  %[.ife (.not (.call "_law_one" %[.var 1,.var 3,.var 4,.var 8,.var 6,.var 7|1])) %[.ret (.bl kd)|2] .nil|2]
def Bb:PT :=
  %[.set 1 (.call "_law_world" %[.var 0|1]),.tset [2,3] (.call "_law_last" %[.var 1|1]),.set 4 (.idx (.idx (.var 1) (.int 1)) (.bin .Mod (.call "_law_mixed" %[.call "_law_cell_at" %[.var 0,.int 1|1],.int 96|1]) (.bi .len %[.idx (.var 1) (.int 1)|1]))),.set 5 (.call "ground_of" %[.var 1,.var 4|1]),.set 6 (.comp [] ["_law_row"] (.nm 0) .val %[.idx (.var 5) (.int 0)|1] .nop (.idx (.var 0) (.int 0))),.own 7 (.dof (.comp [] ["_law_name","_law_cut"] (.tp [0,1]) .val %[.idx (.var 5) (.int 1)|1] .nop (.tup %[.var 0,.var 1|1]))),.for_ (.nm 8) .val %[.idx (.var 1) (.int 0)|1] uT,.ret (.cmp .Eq (.bin .Add (.bi .len %[.var 6|1]) (.bi .len %[.var 7|1])) (.bi .len %[.idx (.var 1) (.int 0)|1]))|2]
theorem zp:BA zu Bb Uj v8 (top 63)=true:=by kernel_rfl
theorem aF(a b:Str):Qn (.str a) (.str b)=decide (a=b):=by rw[Qz,o2];simp[Qn]
theorem lD(l:LS)(z:Str):((l.map j0).any λy=>Qn y (.str z))=decide (z∈l):=by rw[QBN,Qz,wP,o2];constructor;rintro⟨x,u,e⟩;have e:Qn (.str x) (.str z)=true:=e;rw[aF,o2]at e;exact e▸u;intro h;exact#[z,h,by show Qn (.str z) (.str z)=kf;rw[aF];exact dT rfl]
theorem sC(l:LS):(l.map j0).all xB=true:=by rw[QCL,Q0];exact λ_ _=>rfl
noncomputable def Gf(g:Str)(cut:LS)(s:Str):Bool:=!decide (s=g)&&!decide (s∈cut)
inductive Led(es:VC)(st:LS)(g:Str)(cut:LS):Str->Prop
 |st {s:Str}:s∈st->Gf g cut s=kf->Led es st g cut s
 |ed {a b:Str}:Led es st g cut a->(a,b)∈es->Gf g cut b=kf->Led es st g cut b
theorem BN:∀{ks ns:LS},ks.Nodup->(∀s∈ks,s∈ns)->ks.9<=ns.9
 |[],_,_,_=>Qq _|s::r,ns,h,hs=>by let#[k,u]:=Qj.mp h;have z:=hs s QE;have:=BN (ks:=r) (ns:=ns.erase s) u λx y=>(QBa (λ(e:x=s)=>k (e▸y))).mpr (hs x (QF _ y));rw[QAh z]at this;have f:=QA9 z;rw[QM];omega
def one(y:Str):Prop:=∃c,c<128/\y=#[(qG [c])]
def pr(p:Str×Str):D:=.tuple [.str p.1,.str p.2]
theorem Y2{α h:Type}(f:α->h)(l:List α)(a b:Option Int):FJ (l.map f) a b=(FJ l a b).map f:=by unfold FJ;rw[QA,List.map_take,List.map_drop]
noncomputable abbrev Pt:=Str×Str
theorem GR(h:pr p=pr q):p=q:=by let#[a,b]:=p;let#[c,d]:=q;injection h with h;injection h with h1 h;injection h with h2 _;injection h1 with h1;injection h2 with h2;exact QCm h1 h2
theorem Ma{x k:D}{r:List D}(h:x≠k):dA (x::r) k=(dA r k).map (·+1):=by unfold dA;rw[ii h];cases r<;>rfl
theorem Ih{x k:D}{r:List D}(h:x=k):dA (x::r) k=jr 0:=by unfold dA;rw[i0 h]
noncomputable def look{α:Type}:List (Pt×α)->Pt->Option α
 |[],_=>kv|e::l,p=>if e.1=p then jr e.2 else look l p
noncomputable def put{α:Type}:List (Pt×α)->Pt->α->List (Pt×α)
 |[],p,v=>[(p,v)]|e::l,p,v=>if e.1=p then(e.1,v)::l else e::put l p v
def TC{α:Type}(l:List (Pt×α)):List D:=l.map λe=>pr e.1
theorem BK{α:Type}{p:Pt}:∀{l:List (Pt×α)},look l p=kv->dA (TC l) (pr p)=kv/\∀w,put l p w=l++[(p,w)]
 |[],_=>#[rfl,λ_=>rfl]|e::l,h=>by unfold look at h;by_cases c:e.1=p;rw[i0 c]at h;cases h;rw[ii c]at h;let#[y,x]:=BK h;refine#[?_,λw=>?_];show dA (pr e.1::TC l) (pr p)=kv;rw[Ma (λz=>c (GR z)),y];rfl;show(if e.1=p then(e.1,w)::l else e::put l p w)=_;rw[ii c,x];rfl
theorem BC{α:Type}{p:Pt}{v:α}(f:α->T):∀{l:List (Pt×α)},look l p=jr v->∃n,dA (TC l) (pr p)=jr n/\(l.map λe=>f e.2)[n]?=jr (f v)/\∀w,TC (put l p w)=TC l/\(l.map λe=>f e.2).set n (f w)=(put l p w).map λe=>f e.2
 |[],h=>by cases h|e::l,h=>by unfold look at h;by_cases c:e.1=p;rw[i0 c]at h;injection h with h;refine#[0,?_,?_,λw=>?_];exact Ih (o9 pr c);show jr (f e.2)=_;rw[h];have:put (e::l) p w=(e.1,w)::l:=i0 c;rw[this];exact#[rfl,rfl];rw[ii c]at h;let#[n,i,k,u]:=BC f h;refine#[n+1,?_,k,λw=>?_];show dA (pr e.1::TC l) (pr p)=jr (n+1);rw[Ma (λz=>c (GR z)),i];rfl;have:put (e::l) p w=e::put l p w:=ii c;rw[this];let#[y,x]:=u w;refine#[?_,?_];show pr e.1::TC (put l p w)=pr e.1::TC l;rw[y];show f e.2::(l.map λe=>f e.2).set n (f w)=f e.2::(put l p w).map λe=>f e.2;rw[x]
theorem JD{α:Type}{p q:Pt}{w:α}:∀{l:List (Pt×α)},look (put l p w) q=if p=q then jr w else look l q
 |[]=>rfl|e::l=>by
  by_cases c:e.1=p;have h:put (e::l) p w=(e.1,w)::l:=i0 c;rw[h];show(if e.1=q then jr w else look l q)=if p=q then jr w else(if e.1=q then jr e.2 else look l q)
  rw[c];split<;>rfl;have h:put (e::l) p w=e::put l p w:=ii c;rw[h];show(if e.1=q then jr e.2 else look (put l p w) q)=if p=q then jr w else(if e.1=q then jr e.2 else look l q)
  rw[JD];by_cases d:e.1=q;rw[i0 d,i0 d,ii (λz=>c (d.trans z.symm))];rw[ii d,ii d]
theorem GZ{α:Type}{p:Pt}{w:α}:∀{l:List (Pt×α)},(put l p w).9<=l.9+1
 |[]=>QY _|e::l=>by by_cases c:e.1=p;rw[show put (e::l) p w=(e.1,w)::l from i0 c,QM,QM];omega;have:=GZ (p:=p) (w:=w) (l:=l);rw[show put (e::l) p w=e::put l p w from ii c,QM,QM];omega
theorem NB(p:Pt):YD kf (pr p):=#[[.s p.1,.s p.2],rfl,by simp[f9,nkds]]
noncomputable abbrev Inn:=List (Pt×Int)
noncomputable abbrev Rm:=List (Pt×Inn)
noncomputable def ZD(l:Inn):T:=.dct kf (TC l) (l.map λe=>T.d (.int e.2))
def oB(r:Rm):T:=.dct kf (TC r) (r.map λe=>ZD e.2)
def sdf(r:Rm)(p:Pt):Rm:=match look r p with
 |some _=>r|none=>r++[(p,[])]
theorem XZ(hl:r.9<kn)(q:Q (oB (sdf r p))):Us (.d (pr p)) (oB r) Q:=by
 refine#[TC r,_,rfl,NB p,by unfold TC;rw[QA];exact hl,?_];unfold sdf at q;cases h:look r p with
 |some v=>rw[h]at q;let#[n,x,_]:=BC ZD h;exact .inl #[n,x,q]|none =>
  rw[h]at q;refine .inr #[(BK h).1,?_];have e:oB (r++[(p,[])])=.dct kf (TC r++[pr p]) ((r.map λe=>ZD e.2)++[.dct kf [] []]):=by unfold oB TC;rw[QT,QT];rfl
  show Q (T.dct kf (TC r++[pr p]) ((r.map λe=>ZD e.2)++[.dct kf [] []]));rw[<- e];exact q
theorem uR(hl:l.9<kn)(q:Q (ZD (put l p v))):Rc (ZD l) (.d (pr p)) (.d (.int v)) Q:=by
 refine#[NB p,by unfold TC;rw[QA];exact hl,?_];have e:rK kf (TC l) (l.map λe=>T.d (.int e.2)) (pr p) (.d (.int v))=ZD (put l p v):=by
  unfold rK;cases h:look l p with|none=>let#[x,y]:=BK h;rw[x,y];unfold ZD TC;rw[QT,QT];rfl|some u=>let#[n,x,y,f]:=BC (λi:Int=>T.d (.int i)) h;rw[x];let#[k,z]:=f v;show T.dct kf (TC l) ((l.map λe=>T.d (.int e.2)).set n (T.d (.int v)))=_;unfold ZD;rw[k,z]
 show Q (rK kf (TC l) (l.map λe=>T.d (.int e.2)) (pr p) (.d (.int v)));rw[e];exact q
theorem MI{Q:T->(T->T)->Prop}(h:look r p=jr l)(q:∀f:T->T,(∀x,f (ZD x)=oB (put r p x))->Q (ZD l) f):Sr (.d (pr p)) (oB r) Q:=by let#[n,i,k,u]:=BC ZD h;refine#[kf,TC r,_,n,ZD l,rfl,NB p,i,k,q _ λx=>?_];let#[z,y]:=u x;show T.dct kf (TC r) ((r.map λe=>ZD e.2).set n (ZD x))=_;unfold oB;rw[z,y]
def XA:Pt:=("","begin")
def tO(n:Str):Pt:=(n,"to")
def fR(n:Str):Pt:=(n,"from")
theorem Ky:("begin":Str)≠"to":=by decide +kernel
theorem Vy:("begin":Str)≠"from":=by decide +kernel
theorem Yy:("to":Str)≠"from":=by decide +kernel
theorem zC:XA≠tO a:=λh=>Ky (o9 QCY h)
theorem IE:XA≠fR a:=λh=>Vy (o9 QCY h)
theorem AA:tO a≠fR b:=λh=>Yy (o9 QCY h)
theorem LB(h:tO a=tO b):a=b:=o9 qP h
theorem mI(h:fR a=fR b):a=b:=o9 qP h
def J6(p q:Pt):Prop:=(p=XA/\∃n,q=tO n)∨(∃n,p=tO n/\q=fR n)∨(∃a b,a≠b/\p=fR a/\q=tO b)
theorem nF(h:J6 p q):¬ J6 q p:=by
 rintro k;rcases h with⟨rfl,n,rfl⟩| ⟨n,rfl,rfl⟩| ⟨a,b,u,rfl,rfl⟩<;>rcases k with⟨x,m,y⟩| ⟨m,x,y⟩| ⟨c,d,z,x,y⟩
 exact zC x.symm;exact IE y;exact AA x;exact IE x.symm;exact AA x.symm;exact z ((mI x).symm.trans (LB y));exact zC x.symm;exact u ((mI y).trans (LB x).symm);exact AA x
theorem sG(h:J6 p q):p≠q:=λe=>nF h (by rw[e]at h ⊢;exact h)
noncomputable abbrev Wy:=Pt×Pt×Int
def lk(r:Rm)(p:Pt):Inn:=(look r p).getD []
def XB(r:Rm)(w:Wy):Rm:=put (put (sdf (sdf r w.1) w.2.1) w.1 (put (lk (sdf (sdf r w.1) w.2.1) w.1) w.2.1 w.2.2)) w.2.1 (put (lk (put (sdf (sdf r w.1) w.2.1) w.1 (put (lk (sdf (sdf r w.1) w.2.1) w.1) w.2.1 w.2.2)) w.2.1) w.1 0)
theorem zV{α:Type}{p q:Pt}{v:α}:∀{l:List (Pt×α)},look (l++[(p,v)]) q=(look l q).or (if p=q then jr v else kv)
 |[]=>rfl|e::l=>by show(if e.1=q then jr e.2 else look (l++[(p,v)]) q)=(if e.1=q then jr e.2 else look l q).or (if p=q then jr v else kv);by_cases c:e.1=q;rw[i0 c,i0 c];rfl;rw[ii c,ii c];exact zV
theorem yV:look (sdf r p) q=(look r q).or (if p=q then jr [] else kv):=by
 unfold sdf;cases h:look r p with
 |some v =>
  show look r q=_;cases y:look r q with
  |some x=>rfl|none =>
   show kv=if p=q then jr [] else kv
   rw[ii];intro e;rw[e,y]at h;cases h
 |none=>show look (r++[(p,[])]) q=_;exact zV
theorem YR:(sdf r p).9<=r.9+1:=by unfold sdf;split;omega;rw[QJ,Q5];omega
theorem xJ{α:Type}{p:Pt}{w:α}{e:Pt×α}:∀{l:List (Pt×α)},e∈put l p w->e=(p,w)∨e∈l
 |[],h=>.inl (QI.mp h)|x::l,h=>by by_cases c:x.1=p;rw[show put (x::l) p w=(x.1,w)::l from i0 c]at h;rcases QK.mp h with h|h;exact .inl (by rw[h,c]);exact .inr (QF _ h);rw[show put (x::l) p w=x::put l p w from ii c]at h;rcases QK.mp h with h|h;exact .inr (by rw[h];exact QE);exact(xJ h).imp_right (QF _)
theorem BR{α:Type}{p:Pt}{w:α}{q:Pt}:∀{l:List (Pt×α)},(∃v,(q,v)∈put l p w)↔q=p∨∃v,(q,v)∈l
 |[]=>by
  constructor;rintro⟨v,h⟩;exact .inl (o9 qP (QI.mp h));rintro(rfl|⟨v,h⟩)
  ·exact#[w,QI.mpr rfl]
  exact(nomatch h)
 |x::l=>by
  by_cases c:x.1=p;rw[show put (x::l) p w=(x.1,w)::l from i0 c];constructor;rintro⟨v,h⟩;rcases QK.mp h with h|h;exact .inl ((o9 qP h).trans c);exact .inr #[v,QF _ h];rintro(rfl|⟨v,h⟩)
  ·exact#[w,by rw[c];exact QE]
  rcases QK.mp h with h|h
  ·exact#[w,by rw[<- h];exact QE]
  exact#[v,QF _ h];rw[show put (x::l) p w=x::put l p w from ii c];have y:=BR (p:=p) (w:=w) (q:=q) (l:=l);constructor;rintro⟨v,h⟩;rcases QK.mp h with h|h;exact .inr #[v,by rw[h];exact QE];exact(y.mp #[v,h]).imp_right λ#[v,h]=>#[v,QF _ h]
  rintro(h|⟨v,h⟩)
  ·let#[v,h]:=y.mpr (.inl h)
   exact#[v,QF _ h]
  rcases QK.mp h with h|h
  ·exact#[v,by rw[h];exact QE]
  let#[v,h]:=y.mpr (.inr #[v,h]);exact#[v,QF _ h]
def Y6(r:Rm)(p q:Pt):Prop:=∃v,(q,v)∈lk r p
def Key(r:Rm)(p:Pt):Prop:=∃l,look r p=jr l
def Pos(r:Rm):Prop:=∀p,∀e∈lk r p,(0<e.2↔J6 p e.1)
def Zc(r:Rm):Prop:=∀p q,Y6 r p q->Key r q
def Sz(r:Rm)(n:Nat):Prop:=r.9<=n/\∀p,(lk r p).9<=n
theorem mE:lk (put r p l) q=if p=q then l else lk r q:=by unfold lk;rw[JD];split<;>rfl
theorem lE:lk (sdf r p) q=lk r q:=by
 unfold lk;rw[yV];cases look r q with|some x=>rfl|none=>show(if p=q then jr [] else kv).getD []=[];split<;>rfl
theorem JJ:Key (put r p l) q↔p=q∨Key r q:=by unfold Key;rw[JD];by_cases h:p=q;rw[i0 h];exact#[λ_=>.inl h,λ_=>#[_,rfl]];rw[ii h];exact#[.inr,λz=>z.resolve_left h]
theorem ID:Key (sdf r p) q↔p=q∨Key r q:=by
 unfold Key;rw[yV];cases look r q with|some x=>exact#[λ_=>.inr #[_,rfl],λ_=>#[_,rfl]]|none=>show(∃l,(if p=q then jr [] else kv)=jr l)↔_;by_cases h:p=q;rw[i0 h];exact#[λ_=>.inl h,λ_=>#[_,rfl]];rw[ii h];exact#[λ#[_,e]=>(nomatch e),λz=>(z.resolve_left h)]
theorem iJ(h:w.1≠w.2.1)(p:Pt):lk (XB r w) p=if w.2.1=p then put (lk r p) w.1 0 else if w.1=p then put (lk r p) w.2.1 w.2.2 else lk r p:=by unfold XB;rw[mE,mE,mE,lE,lE,lE,lE,ii h,lE,lE];by_cases y:w.2.1=p;rw[i0 y,i0 y,y];rw[ii y,ii y];by_cases x:w.1=p;rw[i0 x,i0 x,x];rw[ii x,ii x]
theorem aG:Key (XB r w) p↔p=w.1∨p=w.2.1∨Key r p:=by
 unfold XB;rw[JJ,JJ,ID,ID];constructor;rintro(h|h|h|h|h)
 ·exact .inr (.inl h.symm)
 exact .inl h.symm;exact .inr (.inl h.symm);exact .inl h.symm;exact .inr (.inr h);rintro(h|h|h)
 ·exact .inr (.inl h.symm)
 exact .inl h.symm;exact .inr (.inr (.inr (.inr h)))
theorem CJ(h:w.1≠w.2.1):Y6 (XB r w) p q↔Y6 r p q∨(p=w.1/\q=w.2.1)∨(p=w.2.1/\q=w.1):=by
 unfold Y6;rw[iJ h];by_cases x:w.2.1=p;rw[i0 x,BR];constructor;rintro(e|e)
 ·exact .inr (.inr #[x.symm,e])
 exact .inl e;rintro(e|⟨u,y⟩| ⟨u,y⟩)
 ·exact .inr e
 exact i3 (u.symm.trans x.symm) h;exact .inl y;rw[ii x];by_cases k:w.1=p;rw[i0 k,BR];constructor;rintro(e|e)
 ·exact .inr (.inl #[k.symm,e])
 exact .inl e;rintro(e|⟨u,y⟩| ⟨u,y⟩)
 ·exact .inr e
 exact .inl y;exact i3 u.symm x;rw[ii k];exact#[.inl,λz=>z.elim id λz=>z.elim (λe=>i3 e.1.symm k) λe=>i3 e.1.symm x]
def yH(w:Wy):Prop:=J6 w.1 w.2.1/\0<w.2.2
theorem f8(g:yH w)(y:Pos r):Pos (XB r w):=by intro p e h;rw[iJ (sG g.1)]at h;by_cases k:w.2.1=p;rw[i0 k]at h;rcases xJ h with z|z;rw[z,<- k];exact#[λx=>i3 x (wt 0),λx=>i3 x (nF g.1)];exact y p e z;rw[ii k]at h;by_cases u:w.1=p;rw[i0 u]at h;rcases xJ h with z|z;rw[z,<- u];exact#[λ_=>g.1,λ_=>g.2];exact y p e z;rw[ii u]at h;exact y p e h
theorem Sa(g:yH w)(x:Zc r):Zc (XB r w):=by
 intro p q h;rw[aG];rcases(CJ (sG g.1)).mp h with h|⟨_,h⟩| ⟨_,h⟩
 exact .inr (.inr (x p q h));exact .inr (.inl h);exact .inl h
theorem kN{α:Type}{w:α}{l:List (Pt×α)}{n:Nat}(h:l.9<=n):(put l p w).9<=n+1:=QW GZ ()
theorem DR{α:Type}{p:Pt}{w:α}:∀{l:List (Pt×α)},(look l p).isSome=kf->(put l p w).9=l.9
 |[],h=>by cases h|e::l,h=>by by_cases c:e.1=p;rw[show put (e::l) p w=(e.1,w)::l from i0 c];rfl;rw[show put (e::l) p w=e::put l p w from ii c,QM,QM];rw[show look (e::l) p=look l p from ii c]at h;rw[DR h]
theorem lV(h:Key r p):(look r p).isSome=true:=by let#[l,e]:=h;rw[e];rfl
theorem D9:(XB r w).9<=r.9+2:=by have x:Key (sdf (sdf r w.1) w.2.1) w.1:=ID.mpr (.inr (ID.mpr (.inl rfl)));have h:Key (sdf (sdf r w.1) w.2.1) w.2.1:=ID.mpr (.inl rfl);unfold XB;rw[DR (lV (JJ.mpr (.inr h))),DR (lV x)];have:=YR (r:=r) (p:=w.1);have:=YR (r:=sdf r w.1) (p:=w.2.1);omega
theorem LI{n:Nat}(g:w.1≠w.2.1)(h:Sz r n):Sz (XB r w) (n+2):=by
 refine#[QW D9 (by have:=h.1;omega),λp=>?_];rw[iJ g];have x:=h.2 p;split;exact QW (kN x) ();split
 ·exact QW (kN x) ()
 omega
theorem T1:∀{ws:List Wy}{r:Rm},(∀w∈ws,yH w)->∀{p q:Pt},Y6 (ws.foldl XB r) p q↔Y6 r p q∨(∃v,(p,q,v)∈ws)∨∃v,(q,p,v)∈ws
 |[],r,_,p,q=>#[.inl,λz=>z.elim id λz=>z.elim (λ#[_,z]=>(nomatch z)) λ#[_,z]=>(nomatch z)]
 |w::ws,r,h,p,q=>by
  rw[QAI,T1 (λw x=>h w (QF _ x)),CJ (sG (h w QE).1)];constructor;rintro((z|⟨rfl,rfl⟩| ⟨rfl,rfl⟩)|⟨v,z⟩| ⟨v,z⟩)
  ·exact .inl z
  exact .inr (.inl #[_,QE]);exact .inr (.inr #[_,QE]);exact .inr (.inl #[v,QF _ z]);exact .inr (.inr #[v,QF _ z]);rintro(z|⟨v,z⟩| ⟨v,z⟩)
  ·exact .inl (.inl z)
  rcases QK.mp z with z|z
  ·rw[<- z]
   exact .inl (.inr (.inl #[rfl,rfl]))
  exact .inr (.inl #[v,z]);rcases QK.mp z with z|z
  ·rw[<- z]
   exact .inl (.inr (.inr #[rfl,rfl]))
  exact .inr (.inr #[v,z])
theorem lW:∀{ws:List Wy}{r:Rm}{n:Nat},(∀w∈ws,yH w)->Pos r->Zc r->Key r XA->Sz r n->Pos (ws.foldl XB r)/\Zc (ws.foldl XB r)/\Key (ws.foldl XB r) XA/\Sz (ws.foldl XB r) (n+2 * ws.length)
 |[],r,n,_,h1,h2,h3,h4=>#[h1,h2,h3,h4]|w::ws,r,n,h,h1,h2,h3,h4=>by have g:=h w QE;have:=lW (ws:=ws) (r:=XB r w) (n:=n+2) (λw x=>h w (QF _ x)) (f8 g h1) (Sa g h2) (aG.mpr (.inr (.inr h3))) (LI (sG g.1) h4);rw[QAI,QM,show n+2 * (ws.length+1)=n+2+2 * ws.length by omega];exact this
noncomputable def KT(g:Str)(n:Str):List Wy:=if n=g then[] else[(tO n,fR n,1),(XA,tO n,2)]
noncomputable def VW(g:Str)(e:Str×Str):List Wy:=if e.1=g∨e.1=e.2 then[] else[(tO e.1,fR e.1,1),(tO e.2,fR e.2,1),(fR e.1,tO e.2,2)]
def GH:Rm:=[(XA,[])]
def kA(es:VC)(st:LS)(g:Str):Rm:=(es.flatMap (VW g)).foldl XB ((st.flatMap (KT g)).foldl XB GH)
theorem sx:(0:Int)<1:=by decide
theorem jAp:(0:Int)<2:=by decide
theorem dZ:(KT g n).9<=2:=by unfold KT;split;exact Qq _;exact QY _
theorem fZ:(VW g e).9<=3:=by unfold VW;split;exact Qq _;exact QY _
theorem JM:∀w∈KT g n,yH w:=by
 intro w h;unfold KT at h;split at h;exact(nomatch h);rcases QK.mp h with rfl|h
 ·exact#[.inr (.inl #[n,rfl,rfl]),sx]
 rw[QI.mp h];exact#[.inl #[rfl,n,rfl],jAp]
theorem YM:∀w∈VW g e,yH w:=by
 intro w x;unfold VW at x;split at x;exact(nomatch x);rename_i h;rcases QK.mp x with rfl|x;exact#[.inr (.inl #[e.1,rfl,rfl]),sx];rcases QK.mp x with rfl|x
 ·exact#[.inr (.inl #[e.2,rfl,rfl]),sx]
 rw[QI.mp x];exact#[.inr (.inr #[e.1,e.2,λz=>h (.inr z),rfl,rfl]),jAp]
theorem kO{α:Type}{f:α->List Wy}{k:Nat}(h:∀x,(f x).9<=k):∀(l:List α),(l.flatMap f).9<=k * l.9
 |[]=>QY _|x::l=>by have:=kO h l;have:=h x;rw[Wn,QJ,QM,Nat.mul_succ];omega
theorem sH{α:Type}{f:α->List Wy}(h:∀x,∀w∈f x,yH w)(l:List α):∀w∈l.flatMap f,yH w:=λw z=>by let#[x,_,y]:=wQ.mp z;exact h x w y
structure RmOk(r:Rm)(n:Nat):Prop where
 pos:Pos r
 dom:Zc r
 bg:Key r XA
 sz:Sz r n
theorem HE:RmOk GH 1:=by
 have e:∀p,lk GH p=[]:=λp=>by show(if XA=p then jr [] else kv).getD []=[];split<;>rfl
 refine#[λp y x=>?_,λp q #[v,h]=>?_,#[[],i0 rfl],QY _,λp=>?_];rw[e]at x;exact(nomatch x);rw[e]at h;exact(nomatch h);rw[e];exact Qq _
theorem RmOk.add{r:Rm}{n:Nat}(h:RmOk r n){ws:List Wy}(g:∀w∈ws,yH w):RmOk (ws.foldl XB r) (n+2 * ws.length):=by let#[u,z,y,x]:=lW g h.pos h.dom h.bg h.sz;exact#[u,z,y,x]
theorem BU{es:VC}{st:LS}(z:es.9<=126)(y:st.9<=11):RmOk (kA es st g) 1000:=by have a:=(HE.add (sH (f:=KT g) (λ_=>JM) st)).add (sH (f:=VW g) (λ_=>YM) es);have x:=kO (f:=KT g) (k:=2) (λ_=>dZ) st;have h:=kO (f:=VW g) (k:=3) (λ_=>fZ) es;exact#[a.pos,a.dom,a.bg,QW a.sz.1 (),λp=>QW (a.sz.2 p) ()]
def Mi(r:Rm)(p q:Pt):Prop:=∃v,(q,v)∈lk r p/\0<v
inductive Rch(r:Rm):Pt->Prop
 |bg:Rch r XA
 |go {p q:Pt}:Rch r p->Mi r p q->Rch r q
theorem Gu:(p,q,v)∈KT g n↔n≠g/\((p,q,v)=(tO n,fR n,1)∨(p,q,v)=(XA,tO n,2)):=by unfold KT;split;rename_i h;exact#[λz=>(nomatch z),λz=>i3 h z.1];rename_i h;rw[QK,QI];exact#[λz=>#[h,z],λz=>z.2]
theorem Hu:(p,q,v)∈VW g e↔(e.1≠g/\e.1≠e.2)/\((p,q,v)=(tO e.1,fR e.1,1)∨(p,q,v)=(tO e.2,fR e.2,1)∨(p,q,v)=(fR e.1,tO e.2,2)):=by unfold VW;split;rename_i h;exact#[λz=>(nomatch z),λz=>h.elim (λh=>i3 h z.1.1) λh=>i3 h z.1.2];rename_i h;rw[QK,QK,QI];exact#[λz=>#[#[λe=>h (.inl e),λe=>h (.inr e)],z],λz=>z.2]
theorem RE{cut:LS}{s:Str}:Gf g cut s=kf↔s≠g/\s∉cut:=by unfold Gf;rw[Qb,Q7,Q7,decide_eq_false_iff_not,decide_eq_false_iff_not]
end
section
variable{es:VC}{st:LS}{g:Str}{x:LS}
theorem RN{s:Str}(h:Led es st g x s):s≠g/\s∉x:=by
 cases h with|st _ h=>exact RE.mp h|ed _ _ h=>exact RE.mp h
end
section
variable{r:Rm}{ks:List Pt}{vs:List D}
theorem b7:∀{ws:List Wy}{r:Rm}{n:Nat},(∀w∈ws,yH w)->Sz r n->Sz (ws.foldl XB r) (n+2 * ws.length)
 |[],r,n,_,h4=>h4|w::ws,r,n,h,h4=>by have:=b7 (ws:=ws) (r:=XB r w) (n:=n+2) (λw x=>h w (QF _ x)) (LI (sG (h w QE).1) h4);rw[QAI,QM,show n+2 * (ws.length+1)=n+2+2 * ws.length by omega];exact this
inductive CF(r:Rm):List Pt->List D->Prop
 |bg:CF r [XA] [.none]
 |add {ks:List Pt}{vs:List D}{p q:Pt}:CF r ks vs->p∈ks->Mi r p q->q∉ks->CF r (ks++[q]) (vs++[pr p])
theorem CF.len(h:CF r ks vs):vs.9=ks.length:=by
 induction h with|bg=>rfl|add _ _ _ _ x=>rw[QJ,QJ,x];rfl
theorem CF.hb(h:CF r ks vs):XA∈ks:=by
 induction h with|bg=>exact QE|add _ _ _ _ x=>exact Ql _ x
theorem CF.rch(h:CF r ks vs):∀k∈ks,Rch r k:=by
 induction h with|bg=>intro k hk;rw[QI.mp hk];exact .bg|add _ y w _ x=>intro k hk;rcases Qf.mp hk with z|z;exact x k z;rw[QI.mp z];exact .go (x _ y) w
theorem CF.nd(h:CF r ks vs):ks.Nodup:=by
 induction h with
 |bg=>exact Qj.mpr #[λz=>(nomatch z),Qx]
 |add _ _ _ n x=>refine qT.mpr #[x,Qj.mpr #[λz=>(nomatch z),Qx],λa y b hb z=>?_];rw[QI.mp hb]at z;exact n (z▸y)
theorem kJ(x:Zc r)(hb:Key r XA){p:Pt}(h:Rch r p):Key r p:=by
 cases h with|bg=>exact hb|go _ w=>let#[v,m,_]:=w;exact x _ _ #[v,m]
theorem tS{p:Pt}{l:Inn}:∀{r:Rm},look r p=jr l->p∈r.map (·.1)
 |[],h=>by cases h|e::r,h=>by by_cases c:e.1=p;rw[<- c];exact QE;rw[show look (e::r) p=look r p from ii c]at h;exact QF _ (tS (r:=r) h)
theorem nH:∀{ks ns:List Pt},ks.Nodup->(∀s∈ks,s∈ns)->ks.9<=ns.9
 |[],_,_,_=>Qq _|s::r,ns,h,hs=>by let#[v,u]:=Qj.mp h;have z:=hs s QE;have:=nH (ks:=r) (ns:=ns.erase s) u λx y=>(QBa (λ(e:x=s)=>v (e▸y))).mpr (hs x (QF _ y));rw[QAh z]at this;have w:=QA9 z;rw[QM];omega
theorem CF.le(y:Zc r)(hb:Key r XA)(h:CF r ks vs):ks.9<=r.length:=by
 have:=nH (ns:=r.map (·.1)) h.nd λs x=>by let#[l,e]:=kJ y hb (h.rch s x);exact tS e
 rw[QA]at this;exact this
structure Srch(r:Rm)(ks:List Pt)(vs:List D)(ws:List Pt):Prop where
 cf:CF r ks vs
 sub:∀w∈ws,w∈ks
 clo:∀k∈ks,k∉ws->∀q,Mi r k q->q∈ks
structure Srch1(r:Rm)(here:Pt)(ks:List Pt)(vs:List D)(ws:List Pt)(l:Inn):Prop where
 cf:CF r ks vs
 sub:∀w∈ws,w∈ks
 clo:∀k∈ks,k∉ws->k≠here->∀q,Mi r k q->q∈ks
 her:here∈ks
 don:∀e∈lk r here,0<e.2->e.1∈ks∨e∈l
 all:∀e∈l,e∈lk r here
end
section
variable{r:Rm}{ks ws:List Pt}{vs:List D}
theorem Ys:Srch r [XA] [.none] [XA]:=#[.bg,λ_ h=>h,λk h n=>i3 h n]
theorem Srch.pop{w:Pt}(h:Srch r ks vs (w::ws)):Srch1 r w ks vs ws (lk r w):=by refine#[h.cf,λx v=>h.sub x (QF _ v),λk hk n u=>h.clo k hk λz=>?_,h.sub w QE,λe y _=>.inr y,λe y=>y];rcases QK.mp z with z|z;exact u z;exact n z
theorem Srch1.skip{y:Pt}{e:Pt×Int}{l:Inn}(h:Srch1 r y ks vs ws (e::l))(c:0<e.2->e.1∈ks):Srch1 r y ks vs ws l:=by
 refine#[h.cf,h.sub,h.clo,h.her,λx u p=>?_,λx u=>h.all x (QF _ u)];rcases h.don x u p with z|z;exact .inl z;rcases QK.mp z with z|z
 ·rw[z]at p ⊢;exact .inl (c p)
 exact .inr z
theorem Srch1.add{u:Pt}{e:Pt×Int}{l:Inn}(h:Srch1 r u ks vs ws (e::l))(c:0<e.2)(n:e.1∉ks):Srch1 r u (ks++[e.1]) (vs++[pr u]) (ws++[e.1]) l:=by
 have f:=h.all e QE;refine#[h.cf.add h.her #[e.2,f,c] n,λx v=>?_,λk hk a b q w=>?_,Ql _ h.her,λx v p=>?_,λx v=>h.all x (QF _ v)];rcases Qf.mp v with z|z
 ·exact Ql _ (h.sub x z)
 exact QZ _ z;rcases Qf.mp hk with z|z
 ·exact Ql _ (h.clo k z (λy=>a (Ql _ y)) b q w)
 exact i3 (QZ _ z) a;rcases h.don x v p with z|z
 ·exact .inl (Ql _ z)
 rcases QK.mp z with z|z
 ·rw[z];exact .inl (QZ _ QE)
 exact .inr z
theorem Srch1.fin{x:Pt}(h:Srch1 r x ks vs ws []):Srch r ks vs ws:=by refine#[h.cf,h.sub,λk hk n q w=>?_];by_cases e:k=x;subst e;let#[v,m,p]:=w;rcases h.don (q,v) m p with z|z;exact z;exact(nomatch z);exact h.clo k hk n e q w
theorem Srch.done(h:Srch r ks vs [])(p:Pt):p∈ks↔Rch r p:=by
 refine#[h.cf.rch p,λz=>?_];induction z with|bg=>exact h.cf.hb|go _ w x=>exact h.clo _ x (λz=>(nomatch z)) _ w
end
def eC(Q:T->LT->Prop):PEnds:={ nx:=λh=>tX (NA [0] h) (Q (.d .none)),rt:=λt h=>tX (NA [0] h) (Q t) }
theorem DK{Ψ:PEv}{b:PT}{p:PSp}{N x:LS}{ds:LT}{Q:T->LT->Prop}(ρ:xA)(h:pF Ψ b (eC Q) ρ)(hl:ds.9=x.length:=by rfl)(hc:BB 0 p.md x.9=[0]:=by rfl)(y:rB N p.md ds=ρ:=by rfl):ds.9=x.9/\pF Ψ b (zD p x.9 Q) (rB N p.md ds):=by
 have e:zD p x.9 Q=eC Q:=by unfold zD;rw[hc];rfl
 rw[e,y];exact#[hl,h]
def y6(r:Rm)(h t:Pt)(v:Int):xA:=[oW (oB r),bD (pr h),bD (pr t),bD (.int v)]
section
variable{Ψ:PEv}{Z:PEnds}{q:PT}{r:Rm}{h t:Pt}{v:Int}
theorem jAH(hl:r.9<kn)(k:pF Ψ q Z (y6 (sdf r h) h t v)):pF Ψ (.seq (.sdf 0 (.var 1)) q) Z (y6 r h t v):=by delta y6 at k ⊢;simp![↓yA];refine#[rfl,XZ hl ?_];exact k
theorem jAG(hl:r.9<kn)(k:pF Ψ q Z (y6 (sdf r t) h t v)):pF Ψ (.seq (.sdf 0 (.var 2)) q) Z (y6 r h t v):=by delta y6 at k ⊢;simp![↓yA];refine#[rfl,XZ hl ?_];exact k
theorem jAF{l:Inn}(e:look r h=jr l)(hl:l.9<kn)(k:pF Ψ q Z (y6 (put r h (put l t v)) h t v)):pF Ψ (.seq (.six (.idx (.var 0) (.var 1)) (.var 2) (.var 3)) q) Z (y6 r h t v):=by delta y6 at k ⊢;simp![↓yA];refine MI e λf x=>uR hl ?_;rw[x];exact k
theorem jAE{l:Inn}(e:look r t=jr l)(hl:l.9<kn)(k:pF Ψ q Z (y6 (put r t (put l h 0)) h t v)):pF Ψ (.seq (.six (.idx (.var 0) (.var 2)) (.var 1) (.int 0)) q) Z (y6 r h t v):=by delta y6 at k ⊢;simp![↓yA];refine MI e λf x=>uR hl ?_;rw[x];exact k
end
theorem NE{r:Rm}{p:Pt}(h:Key r p):look r p=jr (lk r p):=by let#[l,e]:=h;unfold lk;rw[e];rfl
def xH:PSp where
 md:=[.chg]
 run:=λh Q _=>∃(r:Rm) (w:Wy),h=[oB r,.d (pr w.1),.d (pr w.2.1),.d (.int w.2.2)]/\(w.1≠w.2.1/\Sz r 5000)/\Q (.d .none) [oB (XB r w)]
theorem Pe{Ψ:PEv}:EC Ψ CQ xH IQ aN:=by rintro _ Q _ ⟨r,w,rfl,⟨z,h⟩,q⟩;refine DK (y6 r w.1 w.2.1 w.2.2) ?_;have a:=h.1;have k:=YR (r:=r) (p:=w.1);have y:Key (sdf (sdf r w.1) w.2.1) w.1:=ID.mpr (.inr (ID.mpr (.inl rfl)));have x:Key (sdf (sdf r w.1) w.2.1) w.2.1:=ID.mpr (.inl rfl);have v:=h.2 w.1;have u:=h.2 w.2.1;refine jAH () (jAG () (jAF (NE y) (by rw[lE,lE];omega) (jAE (NE (JJ.mpr (.inr x))) (by rw[mE,ii z,lE,lE];omega) ?_)));exact q
def jJ:PSp where
 md:=[.chg]
 run:=λh Q _=>∃(r:Rm) (n:Str),h=[oB r,.d (.str n)]/\Sz r 5000/\Q (.d .none) [oB (XB r (tO n,fR n,1))]
theorem Re{Ψ:PEv}(x:Ψ.sp "add_way"=xH):EC Ψ VI jJ EO JL:=by rintro _ Q _ ⟨r,n,rfl,h,q⟩;refine DK [oW (oB r),bD (.str n)] ?_;delta VI;simp![↓iH (md:=[]) x rfl rfl];refine#[(),(),?_];exact#[_,(tO n,fR n,1),rfl,#[AA,h],#[_,rfl,q]]
def r6(es:VC)(st:LS)(g:Str)(r:Rm)(o4 o5 o6:Option Sl):xA:=[bD (.list (es.map pr)),bD (.tuple (st.map j0)),bD (.str g),oW (oB r),o4,o5,o6]
section
variable{Ψ:PEv}{Z:PEnds}{es:VC}{st:LS}{g:Str}{r:Rm}
theorem Cy(h:Ψ.va "BEGIN"=jr (pr XA)){q:PT}{o3 o4 o5 o6:Option Sl}(k:pF Ψ q Z (r6 es st g GH o4 o5 o6)) :
  pF Ψ (.seq (.own 3 (.dsp (.glo "BEGIN") (.dnew kf))) q) Z [bD (.list (es.map pr)),bD (.tuple (st.map j0)),bD (.str g),o3,o4,o5,o6]:=by
 simp![↓jI h];exact#[NB XA,k]
theorem By(b:Ψ.sp "add_name"=jJ)(a:Ψ.sp "add_way"=xH)(v:Ψ.va "BEGIN"=jr (pr XA))(u:Ψ.va "WIDE"=jr (.int 2)){n:Str}{o5 o6:Option Sl}(h:Sz r 4900)(k:Z.nx (r6 es st g ((KT g n).foldl XB r) (bD (.str n)) o5 o6)) :
  pF Ψ JF Z (r6 es st g r (bD (.str n)) o5 o6):=by
 delta r6 at k ⊢;delta JF;simp![↓jI v,↓jI u,↓iH (md:=[]) b rfl rfl,↓iH (md:=[]) a rfl rfl];by_cases e:n=g;rw[dT e];unfold KT at k;rw[i0 e]at k;exact k;rw[dF e];unfold KT at k;rw[ii e]at k;have z:Sz r 5000:=#[QW h.1 (),λp=>QW (h.2 p) ()]
 have x:=LI (w:=(tO n,fR n,1)) AA h;have y:Sz (XB r (tO n,fR n,1)) 5000:=#[QW x.1 (),λp=>QW (x.2 p) ()]
 refine#[_,_,rfl,z,#[_,rfl,?_]];refine#[(),?_];exact#[_,(XA,tO n,2),rfl,#[zC,y],#[_,rfl,k]]
theorem Uy(j:Ψ.sp "add_name"=jJ)(i:Ψ.sp "add_way"=xH)(f:Ψ.va "WIDE"=jr (.int 2)){a b:Str}{o4:Option Sl}(y:Sz r 4900)(k:Z.nx (r6 es st g ((VW g (a,b)).foldl XB r) o4 (bD (.str a)) (bD (.str b)))) :
  pF Ψ iF Z (r6 es st g r o4 (bD (.str a)) (bD (.str b))):=by
 delta r6 at k ⊢;delta iF;simp![↓jI f,↓iH (md:=[]) j rfl rfl,↓iH (md:=[]) i rfl rfl];unfold VW at k;by_cases e:a=g;rw[dT e];rw[i0 (.inl e)]at k;exact k;rw[dF e];by_cases h:a=b;rw[dT h];rw[i0 (.inr h)]at k;exact k;rw[dF h];rw[ii (λz=>z.elim e h)]at k;have v:Sz r 5000:=#[QW y.1 (),λp=>QW (y.2 p) ()]
 have x:=LI (w:=(tO a,fR a,1)) AA y;have u:=LI (w:=(tO b,fR b,1)) AA x;refine#[_,_,rfl,v,#[_,rfl,?_]];refine#[_,_,rfl,#[QW x.1 (),λp=>QW (x.2 p) ()],#[_,rfl,?_]];refine#[(),(),?_];exact#[_,(fR a,tO b,2),rfl,#[AA.symm,#[QW u.1 (),λp=>QW (u.2 p) ()]],#[_,rfl,k]]
end
section
variable{Ψ:PEv}{r:Rm}{p q:Pt}{l:Inn}{n m:Bool}{R:T->Prop}{W:LT->Prop}{E:XE}{ρ:xA}{b:PX}{M:List (T×Bool)->xA->Prop}{md:List Md}{ks:List Pt}{vs:List D}
def SI:PSp where
 run:=λx Q _=>∃(h:VC) (st:LS) (g:Str),x=[.d (.list (h.map pr)),.d (.tuple (st.map j0)),.d (.str g)]/\(h.9<=126/\st.9<=11)/\Q (oB (kA h st g)) []
theorem m4(o:Ψ.sp "add_name"=jJ)(j:Ψ.sp "add_way"=xH)(i:Ψ.va "BEGIN"=jr (pr XA))(f:Ψ.va "WIDE"=jr (.int 2)):EC Ψ JO SI FO fL:=by rintro _ Q _ ⟨h,st,g,rfl,⟨Y,X⟩,q⟩;refine zA [bD (.list (h.map pr)),bD (.tuple (st.map j0)),bD (.str g),kv,kv,kv,kv] ?_;refine Cy i ?_;delta r6;simp![↓yA];rw[<- bA];refine RA (λ(s:Str)=>T.d (.str s)) (λl ρ=>∃r x,RmOk r (1+4 * (11 - l.9))/\l.9<=11/\(l.flatMap (KT g)).foldl XB r=(st.flatMap (KT g)).foldl XB GH/\ρ=r6 h st g r x kv kv) ?_ ?_ _ _ #[GH,_,?_,X,rfl,rfl];rintro ρ ⟨r,x,ok,_,e,rfl⟩;have e:r=(st.flatMap (KT g)).foldl XB GH:=e;delta r6;simp![↓yA];rw[<- bA];refine RA (λ(p:Str×Str)=>T.d (pr p)) (λl ρ=>∃r v u,Sz r (45+6 * (126 - l.9))/\l.9<=126/\(l.flatMap (VW g)).foldl XB r=kA h st g/\ρ=r6 h st g r (TN x) v u) ?_ ?_ _ _ #[r,_,_,?_,Y,by rw[e];rfl,rfl];rintro ρ ⟨r,v,u,_,_,e,rfl⟩;have e:r=kA h st g:=e;subst e;delta r6;simp![↓yA];exact q;rintro⟨a,b⟩ l ρ N k ⟨r,v,u,s,w,e,rfl⟩;rw[QM]at s w;rw[Wn,QAi]at e;refine bF.mk rfl ?_;refine Uy (a:=a) (b:=b) o j f #[QW s.1 (),λp=>QW (s.2 p) ()] (k _ #[_,_,_,?_,(),e,rfl]);have z:Sz ((VW g (a,b)).foldl XB r) (45+6 * (126 - (l.9+1))+2 * (VW g (a,b)).9):=b7 YM s;have y:=fZ (g:=g) (e:=(a,b));exact#[QW z.1 (),λp=>QW (z.2 p) ()];exact#[QW ok.sz.1 (by rw[wK];omega),λp=>QW (ok.sz.2 p) (by rw[wK];omega)];rintro s l ρ N k ⟨r,x,ok,w,e,rfl⟩;rw[QM]at ok w;rw[Wn,QAi]at e;refine By (n:=s) o j i f #[QW ok.sz.1 (),λp=>QW (ok.sz.2 p) ()] (k _ #[_,_,?_,(),e,rfl]);have z:=ok.add (ws:=KT g s) JM;have y:=dZ (g:=g) (n:=s);exact#[z.pos,z.dom,z.bg,QW z.sz.1 (),λp=>QW (z.sz.2 p) ()];exact#[HE.pos,HE.dom,HE.bg,QW HE.sz.1 (),λp=>QW (HE.sz.2 p) ()]
def cY(l:Inn):D:=.dict (l.map λe=>(pr e.1,.int e.2))
def Rn(r:Rm):List (D×D):=r.map λe=>(pr e.1,cY e.2)
theorem c5(h:look r p=jr l):RC (Rn r)=jr true:=by
 cases r with|nil=>cases h|cons e r=>rfl
theorem T9(l:Inn):(l.map λe=>(pr e.1,j1 e.2))=[]∨RC (l.map λe=>(pr e.1,j1 e.2))=jr true:=by
 cases l with|nil=>exact .inl rfl|cons e r=>exact .inr rfl
theorem uk(h:Key r p)(k:R (.d (cY (lk r p)))):KA (.d (.dict (Rn r))) n (.d (pr p)) m R:=by
 have e:=NE h;let#[i,u,y,_]:=BC (λl=>T.d (cY l)) e;have w:(Rn r).map (·.1)=TC r:=by unfold Rn TC;rw[QR];rfl
 refine yr (c5 e) (NB p) (by rw[w];exact u) ?_ k;have v:(Rn r).map (·.2)=r.map λe=>cY e.2:=by unfold Rn;rw[QR];rfl
 rw[v];rw[Qc]at y ⊢;cases z:r[i]? with|none=>rw[z]at y;cases y|some x=>rw[z]at y;injection y with y;injection y with y;show jr (cY x.2)=_;rw[y]
theorem Vr:bK .itm [(.d (cY l),n)] W=W (l.map λe=>.d (.tuple [pr e.1,.int e.2])):=by unfold cY;rw[Kr (T9 l),QR];rfl
theorem XI{K:TK}:t7 (oB r) kd Ψ b E ρ K=zB Ψ b E (lockA ρ) λy m _=>K y m ρ:=rfl
theorem T2{K:TK}:t7 (ZD l) kd Ψ b E ρ K=zB Ψ b E (lockA ρ) λy m _=>K y m ρ:=rfl
theorem eT:n6 (oB r) kd Ψ b E md ρ M=AL Ψ b E md (lockA ρ) λxs _=>M xs ρ:=rfl
theorem yc:n6 (ZD l) kd Ψ b E md ρ M=AL Ψ b E md (lockA ρ) λxs _=>M xs ρ:=rfl
def cq(t:T)(r:Rm):Prop:=t=oB r∨t=.d (.dict (Rn r))
theorem kr{b:Bool}{ks:List D}{ts:LT}{n m:Bool}{k:D}{l:Nat}{t:T}(z:YD b k)(y:dA ks k=jr l)(x:ts[l]?=jr t)(h:R t):KA (.dct b ks ts) kd (.d k) m R:=.inr #[b,ks,ts,l,t,rfl,z,y,x,h]
theorem kF(h:Key r p)(k:R (ZD (lk r p))):KA (oB r) kd (.d (pr p)) m R:=by let#[i,y,x,_]:=BC ZD (NE h);exact kr (n:=kd) (NB p) y x k
theorem yR{v:Int}(h:look l p=jr v)(k:R (.d (.int v))):KA (ZD l) kd (.d (pr p)) m R:=by let#[i,y,x,_]:=BC (λv:Int=>T.d (.int v)) h;exact kr (n:=kd) (NB p) y x k
theorem mZ(l:Inn):MF (l.map λe=>T.d (.int e.2))=jr (l.map λe=>.int e.2):=by rw[show(l.map λe=>T.d (.int e.2))=(l.map λe=>j1 e.2).map T.d by rw[QR];rfl,rA]
theorem Zk:bK .itm [(ZD l,kd)] W=W (l.map λe=>.d (.tuple [pr e.1,.int e.2])):=by
 refine(pV _ _).trans ?_;have e:((TC l).zip (l.map λe=>j1 e.2)).map (λp=>T.d (.tuple [p.1,p.2]))=l.map λe=>T.d (.tuple [pr e.1,.int e.2]):=by unfold TC;rw[List.zip_map',QR];rfl
 refine ot #[λ#[x,h,k]=>?_,λk=>#[_,mZ l,by rw[e];exact k]];rw[mZ]at h;cases h;rw[e]at k;exact k
theorem Gc{a:PX}:jG (.idx a b)=jG a:=rfl
theorem Ep:pT [(ZD l,kd)]=false:=rfl
noncomputable def dg(ks:List Pt)(vs:List D):T:=.dct kf (ks.map pr) (vs.map T.d)
theorem FR:pr q∈ks.map pr↔q∈ks:=by constructor;intro h;let#[x,y,e]:=QO.mp h;rw[<- GR e];exact y;exact QAG
theorem tH(ks:List Pt)(q:Pt):(dA (ks.map pr) (pr q)).isSome=decide (q∈ks):=by rw[Qz,tY,FR,o2]
theorem Dk{x:D}{Q:T->Prop}(n:q∉ks)(hl:ks.9<kn)(k:Q (dg (ks++[q]) (vs++[x]))):Rc (dg ks vs) (.d (pr q)) (.d x) Q:=by refine#[NB q,by rw[QA];exact hl,?_];show Q (rK kf (ks.map pr) (vs.map T.d) (pr q) (.d x));unfold rK;rw[SA.mpr (λz=>n (FR.mp z))];unfold dg at k;rw[QT,QT]at k;exact k
theorem Kp{L:Bool->Prop}:PB .NotIn (.d (pr q)) (dg ks vs) L=L (!decide (q∈ks)):=by unfold dg;rw[oO,tH];exact ot #[λh=>h.2,λh=>#[NB q,h]]
def cQ(h:T)(ks:List Pt)(vs:List D)(ws:List Pt)(o3 o4 o5:Option Sl):xA:=[jr (.bor h),jr (.own (dg ks vs)),jr (.own (.lst ((ws.map pr).map T.d))),o3,o4,o5]
end
section
variable{Ψ:PEv}{Z:PEnds}{x:T}{r:Rm}{ks ws:List Pt}{vs:List D}
section
variable{w:Pt}{o3 o4 o5:Option Sl}
theorem Oy{p q:Pt}{v:Int}(hl:ks.9<kn)(a:ws.length<kn)(u:(0<v->q∈ks)->Z.nx (cQ x ks vs ws (bD (pr p)) (bD (pr q)) (bD (.int v))))
  (k:0<v->q∉ks->Z.nx (cQ x (ks++[q]) (vs++[pr p]) (ws++[q]) (bD (pr p)) (bD (pr q)) (bD (.int v)))) :
  pF Ψ bB Z (cQ x ks vs ws (bD (pr p)) (bD (pr q)) (bD (.int v))):=by
 delta cQ at u k ⊢;delta bB;simp![↓Kp];by_cases h:0<v;rw[dT h];by_cases y:q∈ks;rw[dT y];exact u λ_=>y;rw[dF y];simp only[WG,↓reduceIte];refine Dk y hl ?_;refine#[by rw[QA,QA];exact a,?_];have:=k h y;rw[QT,QT]at this;exact this;rw[dF h];exact u λz=>i3 z h
theorem Ul{q:PT}(k:pF Ψ q Z (cQ x ks vs ws (bD (pr w)) o4 o5)) :
  pF Ψ (.seq (.set 3 (.mt .pop (.var 2) %[.int 0|1])) q) Z (cQ x ks vs (w::ws) o3 o4 o5):=by
 delta cQ at k ⊢;simp![↓yA];refine#[0,.d (pr w),?_,rfl,rfl,k];unfold UT;rw[i0 (by decide),i0 (by rw[QA,QA,QM];omega)];rfl
theorem Bl(y:cq x r)(hk:Key r w)
  (k:oI (pF Ψ bB) (.tp [4,5]) { Z with nx:=λh=>Z.nx (kill [4,5] h) } ((lk r w).map λe=>T.d (.tuple [pr e.1,.int e.2])) (cQ x ks vs ws (bD (pr w)) o4 o5)) :
  pF Ψ %[.for_ (.tp [4,5]) .itm %[.idx (.var 0) (.var 3)|1] bB|2] Z (cQ x ks vs ws (bD (pr w)) o4 o5):=by
 rcases y with rfl|rfl;delta cQ at k ⊢;simp![↓XI];refine kF hk ?_;simp![↓yc,↓Zk,Ep,Gc];exact k;delta cQ at k ⊢;simp![↓yA];refine uk hk ?_;simp![↓Vr];exact k
theorem Ny(m:cq x r)(a:Zc r)(hb:Key r XA)(W:r.9<=1000)(h:Srch r ks vs (w::ws))(K:2 * (r.9 - ks.9)+ws.length+1<=3000)
  (o:∀z u y o3 o4 o5,Srch r z u y->2 * (r.9 - z.9)+y.9<=2 * (r.9 - ks.9)+ws.length->Z.nx (cQ x z u y o3 o4 o5)) :
  pF Ψ BD Z (cQ x ks vs (w::ws) o3 o4 o5):=by
 have A:kn=16777216:=qA;refine Ul ?_;have X:=h.pop;have hk:Key r w:=kJ a hb (h.cf.rch w (h.sub w QE));refine Bl m hk ?_;refine RA (λ(e:Pt×Int)=>T.d (.tuple [pr e.1,.int e.2])) (λl k=>∃z u y o4 o5,Srch1 r w z u y l/\2 * (r.9 - z.9)+y.9<=2 * (r.9 - ks.9)+ws.length/\k=cQ x z u y (bD (pr w)) o4 o5) ?_ ?_ _ _ #[ks,vs,ws,_,_,X,QY _,rfl];rintro k ⟨z,u,y,g,f,s,l,rfl⟩;exact o z u y _ (TN g) (TN f) s.fin l;rintro⟨q,v⟩ l k N i ⟨z,u,y,g,f,s,e,rfl⟩;refine bF.mk rfl ?_;have Y:=s.cf.le a hb;refine Oy (p:=w) (q:=q) (v:=v) () () (λc=>i _ #[z,u,y,_,_,s.skip c,e,rfl]) λc n=>?_;have b:=s.add c n;have j:=b.cf.le a hb;rw[QJ,Q5]at j;exact i _ #[_,_,_,_,_,b,by rw[QJ,QJ,Q5];omega,rfl]
theorem Py(h:Ψ.va "BEGIN"=jr (pr XA)){q:PT}(k:pF Ψ q Z (cQ x [XA] [.none] [XA] kv kv kv)) :
  pF Ψ (.seq (.own 1 (.dsp (.glo "BEGIN") .non)) (.seq (.own 2 (.lst %[.glo "BEGIN"|1])) q)) Z [jr (.bor x),kv,kv,kv,kv,kv]:=by
 have y:kn=16777216:=qA;simp![↓jI h];exact#[NB XA,(),k]
end
end
theorem FI{Ψ:PEv}{E:XE}{c:PX}{q:PT}{Z:PEnds}{ρ:xA}(W:Nat->xA->Prop)(m:Nat)(u:W m ρ)(z:∀m ρ,W m ρ->vP Ψ c E ρ λb x=>if b=kf then mB Ψ E q { Z with nx:=λh=>∃y,y < m/\W y h,ct:=λh=>∃y,y < m/\W y h,bk:=Z.nx } x else Z.nx x):ur Ψ E c q Z ρ:=#[W,#[m,u],z]
def vG:PSp where
 md:=[.bor]
 run:=λz Q _=>∃(y:T) (r:Rm),z=[y]/\(cq y r/\Zc r/\Key r XA/\r.9<=1000)/\∀h x,CF r h x->(∀p,p∈h↔Rch r p)->Q (dg h x) []
theorem S8{Ψ:PEv}(j:Ψ.va "BEGIN"=jr (pr XA)):EC Ψ jF vG zF SD:=by
 rintro _ Q _ ⟨k,r,rfl,⟨l,i,hb,g⟩,q⟩;refine zA [jr (.bor k),kv,kv,kv,kv,kv] ?_;refine Py j ?_;delta cQ;simp![↓yA];refine FI (λm v=>m<=3000/\∃h x ws o3 o4 o5,Srch r h x ws/\m=2 * (r.9 - h.9)+ws.length/\v=cQ k h x ws o3 o4 o5) (2 * (r.9 - 1)+1) #[(),[XA],[.none],[XA],kv,kv,kv,Ys,rfl,rfl] ?_;rintro m v ⟨o,h,x,ws,o3,o4,o5,s,e,rfl⟩;cases ws with|nil=>delta cQ;simp![QA];rw[dF ()];simp![↓yA];exact q h x s.cf s.done|cons w ws=>rw[QM]at e;have a:=λ(Z:PEnds) f=>Ny (Ψ:=Ψ) (Z:=Z) (o3:=o3) (o4:=o4) (o5:=o5) l i hb g s () f;unfold cQ at a;delta cQ;simp![QA];rw[dT ()];refine a _ λu z y o3 o4 o5 b n=>#[_,(),(),u,z,y,o3,o4,o5,b,rfl,rfl]
theorem cT{α:Type}{x:α}{r:List α}:vD (x::r) 0=jr x:=FF (j:=0) rfl
theorem Jg{α:Type}{x y:α}{r:List α}:vD (x::y::r) 1=jr y:=FF (j:=1) rfl
def sm:List Pt->(Pt->Int)->Int
 |[],_=>0|x::l,f=>f x+sm l f
section
variable{f g:Pt->Int}
theorem kB:∀{l:List Pt},(∀x∈l,f x=g x)->sm l f=sm l g
 |[],_=>rfl|x::l,h=>by show f x+sm l f=g x+sm l g;rw[h x QE,kB λy z=>h y (QF _ z)]
theorem vI:∀(l:List Pt),sm l (λx=>f x+g x)=sm l f+sm l g
 |[]=>rfl|x::l=>by show f x+g x+sm l _=f x+sm l f+(g x+sm l g);rw[vI l];omega
theorem mK:∀(l:List Pt),sm l (λx=>- f x)=- sm l f
 |[]=>rfl|x::l=>by show - f x+sm l _=- (f x+sm l f);rw[mK l];omega
theorem uH:∀(l:List Pt),sm l (λ_=>0)=0
 |[]=>rfl|x::l=>by show 0+sm l _=0;rw[uH l];rfl
theorem NP:∀{l:List Pt},(∀x∈l,0<=f x)->0<=sm l f
 |[],_=>QAw _|x::l,h=>by have v:=h x QE;have u:=NP (l:=l) λy z=>h y (QF _ z);show 0<=f x+sm l f;omega
theorem kI:∀{l:List Pt},(∀x∈l,0<=f x)->∀{y:Pt},y∈l->f y<=sm l f
 |x::l,h,y,z=>by have w:=h x QE;have u:∀y∈l,0<=f y:=λy z=>h y (QF _ z);show f y<=f x+sm l f;rcases QK.mp z with e|e;have v:=NP u;rw[e];omega;have v:=kI u e;omega
theorem i7:∀{l:List Pt},(∀x∈l,0<=f x)->∀{y z:Pt},y∈l->z∈l->y≠z->f y+f z<=sm l f
 |x::l,h,y,z,v,hz,ne=>by
  have a:=h x QE;have w:∀y∈l,0<=f y:=λy v=>h y (QF _ v);show f y+f z<=f x+sm l f;rcases QK.mp v with e|e;rcases QK.mp hz with u|u
  ·exact i3 (e.trans u.symm) ne
  have k:=kI w u;rw[e];omega;rcases QK.mp hz with u|u
  ·have k:=kI w e
   rw[u];omega
  have k:=i7 w e u ne;omega
theorem J7:∀{l:List Pt},0<sm l f->∃x∈l,0<f x
 |[],h=>i3 h (wt 0)|x::l,h=>by by_cases c:0<f x;exact#[x,QE,c];have h:0<f x+sm l f:=h;let#[y,z,p]:=J7 (l:=l) ();exact#[y,QF _ z,p]
theorem YZ{k:Pt->Pt->Int}{m:List Pt}:∀(l:List Pt),sm l (λx=>sm m λy=>k x y)=sm m λy=>sm l λx=>k x y
 |[]=>(uH m).symm|x::l=>by show sm m (λy=>k x y)+sm l _=sm m λy=>k x y+sm l λx=>k x y;rw[YZ l,vI]
theorem eR{u:Pt}{k:Int}:∀{l:List Pt},u∉l->sm l (λx=>if x=u then k else 0)=0
 |[],_=>rfl|x::l,h=>by show(if x=u then k else 0)+sm l _=0;rw[ii (λ(e:x=u)=>h (e▸QE)),eR λz=>h (QF _ z)];rfl
theorem nK{u:Pt}{k:Int}:∀{l:List Pt},l.Nodup->u∈l->sm l (λx=>if x=u then k else 0)=k
 |x::l,nd,h=>by let#[v,y]:=Qj.mp nd;show(if x=u then k else 0)+sm l _=k;by_cases e:x=u;rw[i0 e,eR (by rw[<- e];exact v)];omega;rw[ii e,nK y ((QK.mp h).resolve_left λz=>e z.symm)];omega
theorem cU(p:Pt->Bool):∀(l:List Pt),sm l f=sm (l.filter p) f+sm (l.filter λx=>!p x) f
 |[]=>rfl|x::l=>by
  show f x+sm l f=_;rw[WM,WM,cU p l];cases p x with|true=>show _=(f x+sm (l.filter p) f)+sm (l.filter λx=>!p x) f;omega|false=>show _=sm (l.filter p) f+(f x+sm (l.filter λx=>!p x) f);omega
theorem Ic{a:Pt->Pt->Int}(l:List Pt)(h:∀x∈l,∀y∈l,a x y=- a y x):sm l (λx=>sm l λy=>a x y)=0:=by
 have w:sm l (λx=>sm l λy=>a x y)=sm l λy=>sm l λx=>a x y:=YZ l;have v:(sm l λy=>sm l λx=>a x y)=- sm l (λy=>sm l λx=>a y x):=by rw[<- mK];refine kB λy z=>?_;rw[<- mK];exact kB λx u=>h x u y z
 omega
end
section
variable{p q u v:Pt}{r:Rm}{w:Wy}{es:VC}{st:LS}{g:Str}
def rm(r:Rm)(p q:Pt):Int:=(look (lk r p) q).getD 0
def BI(r:Rm)(p q:Pt):Prop:=∃v,look (lk r p) q=jr v
def Ug(r:Rm):Prop:=∀p,((lk r p).map (·.1)).Nodup
theorem oH{α:Type}{q:Pt}{v:α}:∀{l:List (Pt×α)},look l q=jr v->(q,v)∈l
 |[],h=>by cases h|e::l,h=>by by_cases c:e.1=q;rw[show look (e::l) q=jr e.2 from i0 c]at h;injection h with h;rw[<- c,<- h];exact QE;rw[show look (e::l) q=look l q from ii c]at h;exact QF _ (oH h)
theorem KS{α:Type}{q:Pt}{v:α}:∀{l:List (Pt×α)},(l.map (·.1)).Nodup->(q,v)∈l->look l q=jr v
 |e::l,nd,h=>by let#[k,y]:=Qj.mp nd;rcases QK.mp h with c|c;rw[<- c];exact i0 rfl;have x:e.1≠q:=λz=>k (QO.mpr #[(q,v),c,z.symm]);rw[show look (e::l) q=look l q from ii x];exact KS y c
theorem put_keys{α:Type}{p:Pt}{w:α}:∀{l:List (Pt×α)},(put l p w).map (·.1)=if p∈l.map (·.1) then l.map (·.1) else l.map (·.1)++[p]
 |[]=>rfl|e::l=>by by_cases c:e.1=p;rw[show put (e::l) p w=(e.1,w)::l from i0 c,i0 (by rw[<- c];exact QE)];rfl;rw[show put (e::l) p w=e::put l p w from ii c];rw[QU,QU,put_keys];by_cases h:p∈l.map (·.1);rw[i0 h,i0 (QF _ h)];rw[ii h,ii (λz=>(QK.mp z).elim (λz=>c z.symm) h)];rfl
theorem cH{α:Type}{w:α}{l:List (Pt×α)}(h:(l.map (·.1)).Nodup):((put l p w).map (·.1)).Nodup:=by rw[put_keys];split;exact h;rename_i n;refine qT.mpr #[h,Qj.mpr #[λz=>(nomatch z),Qx],λa x b hb z=>?_];rw[QI.mp hb]at z;exact n (z▸x)
theorem MW(nd:Ug r):Mi r p q↔0<rm r p q:=by
 unfold Mi rm;constructor;rintro⟨v,m,h⟩;rw[KS (nd p) m];exact h;intro h;cases e:look (lk r p) q with|none=>rw[e]at h;exact i3 h (wt 0)|some v=>rw[e]at h;exact#[v,oH e,h]
def A3(r:Rm)(u v:Pt):Rm:=put (put r u (put (lk r u) v (rm r u v - 1))) v (put (lk (put r u (put (lk r u) v (rm r u v - 1))) v) u (rm (put r u (put (lk r u) v (rm r u v - 1))) v u+1))
theorem jY(h:u≠v)(p:Pt):lk (A3 r u v) p=if v=p then put (lk r v) u (rm r v u+1) else if u=p then put (lk r u) v (rm r u v - 1) else lk r p:=by
 have e:rm (put r u (put (lk r u) v (rm r u v - 1))) v u=rm r v u:=by unfold rm;rw[mE,ii h]
 unfold A3;rw[e,mE,mE,mE,ii h]
theorem lX(h:u≠v)(p q:Pt):rm (A3 r u v) p q=rm r p q+(if p=v/\q=u then 1 else 0) - (if p=u/\q=v then 1 else 0):=by show(look (lk (A3 r u v) p) q).getD 0=_;rw[jY h];by_cases y:v=p;rw[i0 y,JD,ii (c:=p=u/\q=v) (λz=>h (z.1.symm.trans y.symm))];by_cases x:u=q;rw[i0 x,i0 #[y.symm,x.symm],<- y,<- x];show rm r v u+1=rm r v u+1 - 0;omega;rw[ii x,ii (λz=>x z.2.symm),y];show rm r p q=rm r p q+0 - 0;omega;rw[ii y,ii (c:=p=v/\q=u) (λz=>y z.1.symm)];by_cases x:u=p;rw[i0 x,JD];by_cases k:v=q;rw[i0 k,i0 #[x.symm,k.symm],<- x,<- k];show rm r u v - 1=rm r u v+0 - 1;omega;rw[ii k,ii (λz=>k z.2.symm),x];show rm r p q=rm r p q+0 - 0;omega;rw[ii x,ii (λz=>x z.1.symm)];show rm r p q=rm r p q+0 - 0;omega
theorem eB:BI r p q↔Y6 r p q:=by
 unfold BI Y6;constructor;rintro⟨v,h⟩;exact#[v,oH h];rintro⟨v,h⟩;generalize lk r p=l at h;induction l with
 |nil=>exact(nomatch h)
 |cons e l x =>
  by_cases c:e.1=q;exact#[e.2,i0 c];rcases QK.mp h with z|z
  ·exact i3 (by rw[<- z]) c
  let#[w,y]:=x z;exact#[w,(show look (e::l) q=look l q from ii c).trans y]
theorem Vg(h:u≠v)(k:BI r u v)(z:BI r v u):BI (A3 r u v) p q↔BI r p q:=by unfold BI;rw[jY h];by_cases y:v=p;rw[i0 y,JD];by_cases x:u=q;rw[i0 x,<- y,<- x];exact#[λ_=>z,λ_=>#[_,rfl]];rw[ii x,y];rw[ii y];by_cases x:u=p;rw[i0 x,JD];by_cases e3:v=q;rw[i0 e3,<- x,<- e3];exact#[λ_=>k,λ_=>#[_,rfl]];rw[ii e3,x];rw[ii x]
theorem zf(h:u≠v)(nd:Ug r):Ug (A3 r u v):=by
 intro p;rw[jY h];split;exact cH (nd v);split
 ·exact cH (nd u)
 exact nd p
theorem KR(h:¬ BI r p q):rm r p q=0:=by
 unfold rm;cases e:look (lk r p) q with|none=>rfl|some v=>exact i3 #[v,e] h
def Fw(p q:Pt)(v:Int):Prop:=(∃n,p=tO n/\q=fR n/\v=1)∨(∃n,p=XA/\q=tO n/\v=2)∨(∃a b,a≠b/\p=fR a/\q=tO b/\v=2)∨(¬ J6 p q/\v=0)
def lq(P:Pt->Pt->Int->Prop)(r:Rm):Prop:=∀p,∀e∈lk r p,P p e.1 e.2
theorem C5{P:Pt->Pt->Int->Prop}(a:w.1≠w.2.1)(f:P w.1 w.2.1 w.2.2)(b:P w.2.1 w.1 0)(h:lq P r):lq P (XB r w):=by intro p e x;rw[iJ a]at x;by_cases k:w.2.1=p;rw[i0 k]at x;rcases xJ x with z|z;rw[z,<- k];exact b;exact h p e z;rw[ii k]at x;by_cases y:w.1=p;rw[i0 y]at x;rcases xJ x with z|z;rw[z,<- y];exact f;exact h p e z;rw[ii y]at x;exact h p e x
theorem nU(h:(r.map (·.1)).Nodup):((sdf r p).map (·.1)).Nodup:=by
 unfold sdf;cases e:look r p with|some v=>exact h|none=>show(List.map (λe:Pt×Inn=>e.1) (r++[(p,[])])).Nodup;rw[QT];refine qT.mpr #[h,Qj.mpr #[λz=>(nomatch z),Qx],λa y b hb z=>?_];have hb:b=p:=QI.mp hb;rw[z,hb]at y;let#[x,k,f]:=QO.mp y;have:=KS h (show(p,x.2)∈r by rw[<- f];exact k);rw[e]at this;cases this
theorem l9(x:w.1≠w.2.1)(h:Ug r):Ug (XB r w):=by
 intro p;rw[iJ x];split;exact cH (h p);split
 ·exact cH (h p)
 exact h p
theorem dB:Key r p↔p∈r.map (·.1):=by
 constructor;rintro⟨l,e⟩;exact tS e;intro h;induction r with
 |nil=>exact(nomatch h)
 |cons e r x =>
  by_cases c:e.1=p;exact#[e.2,i0 c];rcases QK.mp h with z|z
  ·exact i3 z.symm c
  let#[l,hl]:=x z;exact#[l,(show look (e::r) p=look r p from ii c).trans hl]
structure Tbl0(r:Rm):Prop where
 ndk:(r.map (·.1)).Nodup
 ndi:Ug r
 cap:lq Fw r
 kind:∀p,Key r p->p=XA∨∃n,p=tO n∨p=fR n
 sym:∀p q,Y6 r p q->Y6 r q p/\Key r p
theorem hV(h:J6 p q):(p=XA∨∃n,p=tO n∨p=fR n)/\(q=XA∨∃n,q=tO n∨q=fR n):=by
 rcases h with⟨h,n,e⟩| ⟨n,h,e⟩| ⟨a,b,_,h,e⟩
 exact#[.inl h,.inr #[n,.inl e]];exact#[.inr #[n,.inl h],.inr #[n,.inr e]];exact#[.inr #[a,.inr h],.inr #[b,.inl e]]
theorem Oc(k:J6 w.1 w.2.1)(f:Fw w.1 w.2.1 w.2.2)(t:Tbl0 r):Tbl0 (XB r w):=by
 have y:=sG k;refine#[?_,l9 y t.ndi,C5 y f (.inr (.inr (.inr #[nF k,rfl]))) t.cap,λp h=>?_,λp q h=>?_];unfold XB;exact cH (cH (nU (nU t.ndk)));rcases aG.mp h with z|z|z
 ·rw[z];exact(hV k).1
 rw[z];exact(hV k).2;exact t.kind p z;rw[CJ y,aG];rcases(CJ y).mp h with z|⟨x,a⟩| ⟨x,a⟩
 let#[e,b]:=t.sym p q z;exact#[.inl e,.inr (.inr b)];exact#[.inr (.inr #[a,x]),.inl x];exact#[.inr (.inl #[a,x]),.inr (.inl x)]
theorem rZ:∀{ws:List Wy}{r:Rm},(∀w∈ws,J6 w.1 w.2.1/\Fw w.1 w.2.1 w.2.2)->Tbl0 r->Tbl0 (ws.foldl XB r)
 |[],_,_,t=>t|w::ws,r,h,t=>rZ (ws:=ws) (λw x=>h w (QF _ x)) (Oc (h w QE).1 (h w QE).2 t)
theorem mM{p:Pt}:∀{ws:List Wy}{r:Rm},Key (ws.foldl XB r) p↔Key r p∨∃w∈ws,p=w.1∨p=w.2.1
 |[],r=>#[.inl,λz=>z.elim id λ#[_,m,_]=>(nomatch m)]
 |w::ws,r=>by
  rw[QAI,mM (ws:=ws),aG];constructor;rintro((z|z|z)|⟨x,m,z⟩)
  ·exact .inr #[w,QE,.inl z]
  exact .inr #[w,QE,.inr z];exact .inl z;exact .inr #[x,QF _ m,z];rintro(z|⟨x,m,z⟩)
  ·exact .inl (.inr (.inr z))
  rcases QK.mp m with rfl|m
  ·rcases z with z|z
   ·exact .inl (.inl z)
   exact .inl (.inr (.inl z))
  exact .inr #[x,m,z]
def d6(es:VC)(st:LS)(g:Str):List Wy:=st.flatMap (KT g)++es.flatMap (VW g)
theorem FE:kA es st g=(d6 es st g).foldl XB GH:=by unfold kA d6;rw[QAi]
theorem oE{v:Int}:(p,q,v)∈d6 es st g↔(∃n∈st,n≠g/\((p,q,v)=(tO n,fR n,1)∨(p,q,v)=(XA,tO n,2)))∨(∃e∈es,(e.1≠g/\e.1≠e.2)/\((p,q,v)=(tO e.1,fR e.1,1)∨(p,q,v)=(tO e.2,fR e.2,1)∨(p,q,v)=(fR e.1,tO e.2,2))):=by
 unfold d6;rw[Qf,wQ,wQ];constructor;rintro(⟨n,m,h⟩| ⟨e,m,h⟩)
 ·exact .inl #[n,m,Gu.mp h]
 exact .inr #[e,m,Hu.mp h];rintro(⟨n,m,h⟩| ⟨e,m,h⟩)
 ·exact .inl #[n,m,Gu.mpr h]
 exact .inr #[e,m,Hu.mpr h]
theorem xC:∀w∈d6 es st g,J6 w.1 w.2.1/\Fw w.1 w.2.1 w.2.2:=by
 rintro⟨p,q,v⟩ h;rcases oE.mp h with⟨n,_,_,e|e⟩| ⟨e,_,⟨_,x⟩,z|z|z⟩
 cases e;exact#[.inr (.inl #[n,rfl,rfl]),.inl #[n,rfl,rfl,rfl]];cases e;exact#[.inl #[rfl,n,rfl],.inr (.inl #[n,rfl,rfl,rfl])];cases z;exact#[.inr (.inl #[_,rfl,rfl]),.inl #[_,rfl,rfl,rfl]];cases z;exact#[.inr (.inl #[_,rfl,rfl]),.inl #[_,rfl,rfl,rfl]];cases z;exact#[.inr (.inr #[_,_,x,rfl,rfl]),.inr (.inr (.inl #[_,_,x,rfl,rfl,rfl]))]
theorem eJ(p:Pt):lk GH p=[]:=by show(if XA=p then jr [] else kv).getD []=[];split<;>rfl
theorem Cr:Tbl0 GH:=by refine#[Qj.mpr #[λz=>(nomatch z),Qx],λp=>?_,λp e x=>?_,λp h=>?_,λp q h=>?_];rw[eJ];exact Qx;rw[eJ]at x;exact(nomatch x);exact .inl (QI.mp (dB.mp h));let#[v,h]:=h;rw[eJ]at h;exact(nomatch h)
end
section
variable{es:VC}{st:LS}{g:Str}
section
variable{p q:Pt}{n:Str}
theorem oD:Tbl0 (kA es st g):=by rw[FE];exact rZ xC Cr
theorem Ca:∀w∈d6 es st g,yH w:=λw h=>by unfold d6 at h;rcases Qf.mp h with z|z;exact sH (f:=KT g) (λ_=>JM) st w z;exact sH (f:=VW g) (λ_=>YM) es w z
theorem cC:Y6 (kA es st g) p q↔(∃v,(p,q,v)∈d6 es st g)∨∃v,(q,p,v)∈d6 es st g:=by
 rw[FE,T1 Ca];constructor;rintro(⟨v,h⟩| h)
 ·rw[eJ]at h;exact(nomatch h)
 exact h;exact .inr
theorem lQ(h:Key (kA es st g) (tO n)):Y6 (kA es st g) (tO n) (fR n):=by
 rw[FE]at h;rcases mM.mp h with z|⟨⟨p,q,v⟩,m,z⟩
 exact i3 (QI.mp (dB.mp z)).symm zC;refine cC.mpr (.inl #[1,oE.mpr ?_]);have z:tO n=p∨tO n=q:=z;rcases oE.mp m with⟨k,mk,x,e|e⟩| ⟨e,u,x,y|y|y⟩
 cases e;rcases z with z|z;rw[LB z];exact .inl #[k,mk,x,.inl rfl];exact i3 z AA;cases e;rcases z with z|z;exact i3 z.symm zC;rw[LB z];exact .inl #[k,mk,x,.inl rfl];cases y;rcases z with z|z;rw[LB z];exact .inr #[e,u,x,.inl rfl];exact i3 z AA;cases y;rcases z with z|z;rw[LB z];exact .inr #[e,u,x,.inr (.inl rfl)];exact i3 z AA;cases y;rcases z with z|z;exact i3 z AA;rw[LB z];exact .inr #[e,u,x,.inr (.inl rfl)]
theorem T5:Fw p q (rm (kA es st g) p q)∨(¬ BI (kA es st g) p q/\rm (kA es st g) p q=0):=by by_cases h:BI (kA es st g) p q;let#[v,e]:=h;have:=oD (es:=es) (st:=st) (g:=g) |>.cap p (q,v) (oH e);unfold rm;rw[e];exact .inl this;exact .inr #[h,KR h]
theorem Az:0<=rm (kA es st g) p q:=by rcases T5 (es:=es) (st:=st) (g:=g) (p:=p) (q:=q) with(⟨_,_,_,e⟩| ⟨_,_,_,e⟩| ⟨_,_,_,_,_,e⟩| ⟨_,e⟩)|⟨_,e⟩<;>rw[e]<;>decide
theorem OJ(h:¬ J6 p q):rm (kA es st g) p q=0:=by
 rcases T5 (es:=es) (st:=st) (g:=g) (p:=p) (q:=q) with(⟨n,y,x,_⟩| ⟨n,y,x,_⟩| ⟨a,b,z,y,x,_⟩| ⟨_,e⟩)|⟨_,e⟩
 exact i3 (.inr (.inl #[n,y,x])) h;exact i3 (.inl #[y,n,x]) h;exact i3 (.inr (.inr #[a,b,z,y,x])) h;exact e;exact e
theorem bp(h:q≠fR n):rm (kA es st g) (tO n) q=0:=OJ λl=>by
 rcases l with⟨e,_⟩| ⟨m,y,x⟩| ⟨a,b,_,e,_⟩
 exact zC e.symm;exact h (by rw[x,LB y]);exact AA e
theorem Kv:rm (kA es st g) (tO n) (fR n)<=1:=by
 rcases T5 (es:=es) (st:=st) (g:=g) (p:=tO n) (q:=fR n) with(⟨_,_,_,e⟩| ⟨m,h,_,_⟩| ⟨a,b,x,h,y,_⟩| ⟨_,e⟩)|⟨_,e⟩
 rw[e];decide;exact i3 h.symm zC;exact i3 h AA;rw[e];decide;rw[e];decide
theorem Jp(h:Key (kA es st g) (tO n)):rm (kA es st g) (tO n) (fR n)=1:=by
 have a:=eB.mpr (lQ h);rcases T5 (es:=es) (st:=st) (g:=g) (p:=tO n) (q:=fR n) with(⟨_,_,_,e⟩| ⟨m,x,_,_⟩| ⟨a,b,y,x,u,_⟩| ⟨l,e⟩)|⟨z,e⟩
 exact e;exact i3 x.symm zC;exact i3 x AA;exact i3 (.inr (.inl #[n,rfl,rfl])) l;exact i3 a z
theorem Ez(h:p≠tO n):rm (kA es st g) p (fR n)=0:=OJ λl=>by
 rcases l with⟨_,m,e⟩| ⟨m,y,x⟩| ⟨a,b,_,_,e⟩
 exact AA e.symm;exact h (by rw[y,mI x]);exact AA e.symm
theorem Iz:rm (kA es st g) p XA=0:=OJ λl=>by
 rcases l with⟨_,m,e⟩| ⟨m,x,h⟩| ⟨a,b,_,_,e⟩
 exact zC e;exact IE h;exact zC e
theorem Zv(h:p≠fR n):rm (kA es st g) p (tO n)=0∨rm (kA es st g) p (tO n)=2:=by
 rcases T5 (es:=es) (st:=st) (g:=g) (p:=p) (q:=tO n) with(⟨_,_,e,_⟩| ⟨m,_,_,e⟩| ⟨a,b,_,_,_,e⟩| ⟨l,e⟩)|⟨_,e⟩
 exact i3 e AA;exact .inr e;exact .inr e;exact .inl e;exact .inl e
theorem xp{v:Int}(h:(p,tO n,v)∈d6 es st g):rm (kA es st g) p (tO n)=2:=by
 have a:BI (kA es st g) p (tO n):=eB.mpr (cC.mpr (.inl #[v,h]));have l:J6 p (tO n):=(xC _ h).1;rcases T5 (es:=es) (st:=st) (g:=g) (p:=p) (q:=tO n) with(⟨_,_,e,_⟩| ⟨m,_,_,e⟩| ⟨a,b,_,_,_,e⟩| ⟨x,e⟩)|⟨z,e⟩
 exact i3 e AA;exact e;exact e;exact i3 l x;exact i3 a z
end
end
section
variable{es:VC}{st:LS}{g:Str}
def vs0(es:VC)(st:LS)(g:Str):List Pt:=(kA es st g).map (·.1)
def fl(es:VC)(st:LS)(g:Str)(r:Rm)(p q:Pt):Int:=rm (kA es st g) p q - rm r p q
def out(es:VC)(st:LS)(g:Str)(r:Rm)(p:Pt):Int:=sm (vs0 es st g) (fl es st g r p)
structure Base(es:VC)(st:LS)(g:Str)(r:Rm):Prop where
 ndi:Ug r
 adj:∀p q,BI r p q↔BI (kA es st g) p q
 keys:r.map (·.1)=vs0 es st g
 nn:∀p q,0<=rm r p q
 anti:∀p q,fl es st g r p q=- fl es st g r q p
structure Flow(es:VC)(st:LS)(g:Str)(r:Rm):Prop extends Base es st g r where
 cons:∀x,x≠XA->x≠tO g->out es st g r x=0
theorem IF:(vs0 es st g).Nodup:=oD.ndk
theorem Eh:Flow es st g (kA es st g):=by
 have e:∀p q,fl es st g (kA es st g) p q=0:=λp q=>by unfold fl;omega
 refine#[#[oD.ndi,λp q=>WF,rfl,λp q=>Az,λp q=>by rw[e,e];rfl],λx _ _=>?_];unfold out;rw[kB (g:=λ_=>0) λq _=>e x q];exact uH _
theorem CB{p q:Pt}(h:BI (kA es st g) p q):BI (kA es st g) q p:=eB.mpr (oD.sym p q (eB.mp h)).1
theorem aB{p q:Pt}(h:BI (kA es st g) p q):p∈vs0 es st g:=dB.mp (oD.sym p q (eB.mp h)).2
theorem rT{p q:Pt}(h:BI (kA es st g) p q):p≠q:=by
 rcases cC.mp (eB.mp h) with⟨v,m⟩| ⟨v,m⟩
 exact sG (xC _ m).1;exact(sG (xC _ m).1).symm
section
variable{r:Rm}
theorem Base.dom(b:Base es st g r):Zc r:=λp q h=>by have a:=(b.adj p q).mp (eB.mpr h);rw[dB,b.keys];exact aB (CB a)
theorem Base.bg(b:Base es st g r):Key r XA:=by rw[dB,b.keys];refine dB.mp ?_;show Key (kA es st g) XA;rw[FE];exact mM.mpr (.inl #[[],i0 rfl])
theorem Base.len(b:Base es st g r):r.9=(kA es st g).length:=by have:=o9 qO b.keys;unfold vs0 at this;rw[QA,QA]at this;exact this
theorem Base.adjw(b:Base es st g r){p q:Pt}(h:0<rm r p q):BI (kA es st g) p q:=(b.adj p q).mp (by
 unfold rm at h;cases e:look (lk r p) q with|none=>rw[e]at h;exact i3 h (wt 0)|some v=>exact#[v,e])
theorem mS{u:Pt}{l:Inn}(h:u∈r.map (·.1)):(put r u l).map (·.1)=r.map (·.1):=by rw[put_keys,i0 h]
theorem Base.pushed(b:Base es st g r){u v:Pt}(h:0<rm r u v):Base es st g (A3 r u v):=by
 have a:=b.adjw h;have y:=rT a;have e:=lX (r:=r) y;refine#[zf y b.ndi,λp q=>?_,?_,λp q=>?_,λp q=>?_];rw[Vg y ((b.adj u v).mpr a) ((b.adj v u).mpr (CB a))];exact b.adj p q;have k:u∈r.map (·.1):=by rw[b.keys];exact aB a
 have f:v∈r.map (·.1):=by rw[b.keys];exact aB (CB a)
 unfold A3;rw[mS (by rw[mS k];exact f),mS k];exact b.keys;rw[e];have:=b.nn p q;by_cases c:p=u/\q=v;rw[i0 c,c.1,c.2];split<;>omega;rw[ii c];split<;>omega;unfold fl;rw[e,e];have:=b.anti p q;unfold fl at this;by_cases x:p=v/\q=u;rw[i0 x,i0 (c:=q=u/\p=v) #[x.2,x.1],ii (c:=p=u/\q=v) (λz=>y (z.1.symm.trans x.1)),ii (c:=q=v/\p=u) (λz=>y (z.2.symm.trans x.1))];omega;rw[ii x,ii (c:=q=u/\p=v) (λz=>x #[z.2,z.1])];by_cases w:p=u/\q=v;rw[i0 w,i0 (c:=q=v/\p=u) #[w.2,w.1]];omega;rw[ii w,ii (c:=q=v/\p=u) (λz=>w #[z.2,z.1])];omega
theorem AZ(b:Base es st g r){u v:Pt}(h:0<rm r u v)(x:Pt):out es st g (A3 r u v) x=out es st g r x+(if x=u then 1 else 0) - (if x=v then 1 else 0):=by
 have a:=b.adjw h;have f:=rT a;unfold out;have e:∀q,fl es st g (A3 r u v) x q=fl es st g r x q+((if q=v then(if x=u then 1 else 0) else 0)+-(if q=u then(if x=v then 1 else 0) else 0)):=λq=>by unfold fl;rw[lX f];by_cases k:x=u;have w:x≠v:=λz=>f (k.symm.trans z);rw[ii (c:=x=v/\q=u) (λz=>w z.1),i0 k,ii w];by_cases y:q=v;rw[i0 (c:=x=u/\q=v) #[k,y],i0 y];split<;>omega;rw[ii (c:=x=u/\q=v) (λz=>y z.2),ii y];split<;>omega;rw[ii (c:=x=u/\q=v) (λz=>k z.1),ii k];by_cases w:x=v;rw[i0 w];by_cases y:q=u;rw[i0 (c:=x=v/\q=u) #[w,y],i0 y];split<;>omega;rw[ii (c:=x=v/\q=u) (λz=>y z.2),ii y];split<;>omega;rw[ii (c:=x=v/\q=u) (λz=>w z.1),ii w];split<;>split<;>omega
 rw[kB λq _=>e q,vI,vI,mK,nK IF (aB (CB a)),nK IF (aB a)];omega
end
section
variable{r y:Rm}{ks:List Pt}
theorem CF.find{vs:List D}(h:CF r ks vs){q:Pt}(m:q∈ks)(b:q≠XA):∃z u p k v,CF r z u/\p∈z/\Mi r p q/\q∉z/\ks=z++q::k/\vs=u++pr p::v:=by
 induction h with|bg=>exact i3 (QI.mp m) b|@add ks vs p x c i w n f=>by_cases e:q∈ks;let#[z,u,a,k,v,Z,Y,X,s,o,l]:=f e;exact#[z,u,a,k++[x],v++[pr p],Z,Y,X,s,by rw[o,Q1];rfl,by rw[l,Q1];rfl];have j:q=x:=QI.mp ((Qf.mp m).resolve_left e);subst j;exact#[ks,vs,p,[],[],c,i,w,n,rfl,rfl]
structure LC(es:VC)(st:LS)(g:Str)(y r:Rm)(here:Pt)(ks:List Pt):Prop extends Base es st g r where
 cons:∀x,x≠XA->x≠tO g->out es st g r x=if x=here then 1 else 0
 val:out es st g r XA=out es st g y XA+if here=XA then 1 else 0
 fresh:∀p,∀q∈ks,rm y p q<=rm r p q
theorem F9(f:Flow es st g y)(ks:List Pt):LC es st g y y (tO g) ks:=by refine#[f.toBase,λx u h=>?_,?_,λp q _=>QAw _];rw[ii h];exact f.cons x u h;rw[ii (λz=>zC z.symm)];omega
theorem af{h p:Pt}{u:List Pt}(nd:Ug y)(l:LC es st g y r h ks)(i:h∈ks)(hb:h≠XA)(w:Mi y p h)(f:h∉u)(e:∀q∈u,q∈ks):0<rm r p h/\LC es st g y (A3 r p h) p u:=by have v:0<rm r p h:=Int.lt_of_lt_of_le ((MW nd).mp w) (l.fresh p h i);have b:=rT (l.adjw v);refine#[v,l.toBase.pushed v,λx a j=>?_,?_,λx q k=>?_];rw[AZ l.toBase v,l.cons x a j];split<;>split<;>omega;rw[AZ l.toBase v,l.val,ii hb,ii (c:=XA=h) (λz=>hb z.symm)];by_cases c:p=XA;rw[i0 c,i0 c.symm];omega;rw[ii c,ii (λz=>c z.symm)];omega;have a:=l.fresh x q (e q k);rw[lX b,ii (c:=x=p/\q=h) (λz=>f (z.2▸k))];split<;>omega
theorem Nn(l:LC es st g y r XA ks):Flow es st g r/\out es st g r XA=out es st g y XA+1:=by refine#[#[l.toBase,λx h z=>?_],?_];rw[l.cons x h z,ii h];rw[l.val,i0 rfl]
end
end
section
variable{es:VC}{st:LS}{g:Str}{r:Rm}
section
variable{p q y:Pt}{n a:Str}{ks:List Pt}
theorem sM(b:Base es st g r)(h:rm (kA es st g) q p=0):fl es st g r p q=rm r q p:=by have:=b.anti p q;unfold fl at this ⊢;omega
def jX(r:Rm)(n:Str):Int:=rm r (fR n) (tO n)
theorem IW(b:Base es st g r)(n:Str):fl es st g r (tO n) (fR n)=jX r n:=sM b (OJ λl=>nF (.inr (.inl #[n,rfl,rfl])) l)
theorem GM(b:Base es st g r)(n:Str):jX r n<=1:=by rw[<- IW b];have x:=Kv (es:=es) (st:=st) (g:=g) (n:=n);have h:=b.nn (tO n) (fR n);unfold fl;omega
theorem M7(b:Base es st g r)(h:p∉vs0 es st g∨q∉vs0 es st g):rm r p q=0:=by refine KR λa=>?_;have a:=(b.adj p q).mp a;rcases h with h|h;exact h (aB a);exact h (aB (CB a))
theorem yh(l:List Pt)(nd:l.Nodup)(u:Pt)(k:Int)(h:u∉l->k=0):sm l (λx=>if x=u then k else 0)=k:=by by_cases m:u∈l;exact nK nd m;rw[eR m,h m]
def inn(r:Rm)(n:Str)(y:Pt):Int:=if y=fR n then 0 else rm r (tO n) y
theorem YS(f:Flow es st g r)(h:n≠g):sm (vs0 es st g) (inn r n)=jX r n:=by
 have c:=f.cons (tO n) (λz=>zC z.symm) (λz=>h (LB z));unfold out at c;have e:∀y,fl es st g r (tO n) y=(if y=fR n then jX r n else 0)+- inn r n y:=λy=>by unfold inn;by_cases e:y=fR n;rw[i0 e,i0 e,e,IW f.toBase];omega;rw[ii e,ii e];unfold fl;rw[bp e];omega
 rw[kB λy _=>e y,vI,mK,yh _ IF (fR n) (jX r n) (λz=>M7 f.toBase (.inl z))]at c;omega
theorem JS(b:Base es st g r)(n:Str)(y:Pt):0<=inn r n y:=by unfold inn;split;decide;exact b.nn _ _
def ve(r:Rm)(n:Str)(y:Pt):Int:=if y=tO n then 0 else rm r y (fR n)
theorem TZ(f:Flow es st g r)(n:Str):sm (vs0 es st g) (ve r n)=jX r n:=by
 have c:=f.cons (fR n) (λz=>IE z.symm) (λz=>AA z.symm);unfold out at c;have e:∀y,fl es st g r (fR n) y=- (if y=tO n then jX r n else 0)+ve r n y:=λy=>by unfold ve;by_cases e:y=tO n;rw[i0 e,i0 e,e];have:=f.anti (fR n) (tO n);rw[IW f.toBase]at this;omega;rw[ii e,ii e,sM f.toBase (Ez e)];omega
 rw[kB λy _=>e y,vI,mK,yh _ IF (tO n) (jX r n) (λz=>M7 f.toBase (.inr z))]at c;omega
theorem ym(b:Base es st g r)(n:Str)(y:Pt):0<=ve r n y:=by unfold ve;split;decide;exact b.nn _ _
def BW(r:Rm)(n:Str):Prop:=0<rm r (tO n) XA
def Yc(r:Rm)(a b:Str):Prop:=a≠b/\0<rm r (tO b) (fR a)
theorem ZK(b:Base es st g r)(h:BW r n):n∈st/\n≠g:=by
 rcases cC.mp (eB.mp (b.adjw h)) with⟨v,m⟩| ⟨v,m⟩
 exact i3 (xC _ m).1 λl=>by
  rcases l with⟨e,_⟩| ⟨_,_,e⟩| ⟨_,_,_,e,_⟩
  exact zC e.symm;exact IE e;exact AA e
 rcases oE.mp m with⟨k,mk,x,e|e⟩| ⟨e,_,_,y|y|y⟩
 ·exact i3 (o9 qP e) zC
 have:=o9 (λw:Wy=>w.2.1) e;rw[LB this];exact#[mk,x];exact i3 (o9 qP y) zC;exact i3 (o9 qP y) zC;exact i3 (o9 qP y) IE
theorem dn(b:Base es st g r){c:Str}(h:Yc r a c):(a,c)∈es/\a≠g:=by
 rcases cC.mp (eB.mp (b.adjw h.2)) with⟨v,m⟩| ⟨v,m⟩
 exact i3 (xC _ m).1 λl=>by
  rcases l with⟨e,_⟩| ⟨k,z,x⟩| ⟨_,_,_,e,_⟩
  exact zC e.symm;exact h.1 ((mI x).trans (LB z).symm);exact AA e
 rcases oE.mp m with⟨k,mk,u,e|e⟩| ⟨e,f,u,y|y|y⟩
 ·exact i3 (o9 qP e).symm AA
 exact i3 (o9 qP e).symm IE;exact i3 (o9 qP y).symm AA;exact i3 (o9 qP y).symm AA;have z:a=e.1:=mI (o9 qP y);have x:c=e.2:=LB (o9 (λw:Wy=>w.2.1) y);rw[z,x];exact#[f,u.1]
theorem lY:inn r n XA=rm r (tO n) XA:=by unfold inn;exact ii IE
theorem TR(h:a≠n):inn r n (fR a)=rm r (tO n) (fR a):=by unfold inn;exact ii λz=>h (mI z)
theorem Ae(h:a≠n):ve r a (tO n)=rm r (tO n) (fR a):=by unfold ve;exact ii λz=>h (LB z).symm
theorem pJ(b:Base es st g r)(h:0<rm r p q):p∈vs0 es st g/\q∈vs0 es st g:=#[aB (b.adjw h),aB (CB (b.adjw h))]
theorem U1(f:Flow es st g r)(n:Str)(h:n≠g):rm r (tO n) XA<=1:=by by_cases c:0<rm r (tO n) XA;have z:=kI (λx _=>JS f.toBase n x) (pJ f.toBase c).2;rw[YS f h,lY]at z;exact QAS z (GM f.toBase n);omega
theorem Mf(f:Flow es st g r)(h:BW r n):jX r n=1:=by have ng:=(ZK f.toBase h).2;have z:=kI (λx _=>JS f.toBase n x) (pJ f.toBase h).2;rw[YS f ng,lY]at z;have:=GM f.toBase n;unfold BW at h;omega
theorem Te(f:Flow es st g r)(h:Yc r a n)(ng:n≠g):jX r n=1:=by have z:=kI (λx _=>JS f.toBase n x) (pJ f.toBase h.2).2;rw[YS f ng,TR h.1]at z;have:=GM f.toBase n;have:=h.2;omega
theorem A6(f:Flow es st g r)(ng:n≠g){x:Pt}(u:0<inn r n x)(h:0<inn r n y):x=y:=by
 have w:x∈vs0 es st g:=by unfold inn at u;split at u;exact i3 u (wt 0);exact(pJ f.toBase u).2
 have v:y∈vs0 es st g:=by unfold inn at h;split at h;exact i3 h (wt 0);exact(pJ f.toBase h).2
 by_cases e:x=y;exact e;have k:=i7 (λz _=>JS f.toBase n z) w v e;rw[YS f ng]at k;have:=GM f.toBase n;omega
theorem y0(f:Flow es st g r){b:Str}(ng:n≠g)(x:Yc r a n)(h:Yc r b n):a=b :=
 mI (A6 f ng (by rw[TR x.1];exact x.2) (by rw[TR h.1];exact h.2))
theorem MS(f:Flow es st g r)(x:BW r n)(h:Yc r a n):False :=
 IE (A6 f (ZK f.toBase x).2 (by rw[lY];exact x) (by rw[TR h.1];exact h.2))
theorem z9(f:Flow es st g r)(h:jX r n=1):∃y,y≠tO n/\0<rm r y (fR n):=by let#[y,_,x]:=J7 (f:=ve r n) (l:=vs0 es st g) (by rw[TZ f,h];decide);unfold ve at x;split at x;exact i3 x (wt 0);rename_i ne;exact#[y,ne,x]
theorem Uh(b:Base es st g r)(h:BI r y (fR n)):∃m,y=tO m:=by
 rcases cC.mp (eB.mp ((b.adj _ _).mp h)) with⟨v,m⟩| ⟨v,m⟩
 rcases(xC _ m).1 with⟨_,k,e⟩| ⟨k,e,_⟩| ⟨_,k,_,_,e⟩
 ·exact i3 e.symm AA
 exact#[k,e];exact i3 e.symm AA;rcases(xC _ m).1 with⟨e,_⟩| ⟨k,e,_⟩| ⟨_,k,_,_,e⟩
 ·exact i3 e.symm IE
 exact i3 e.symm AA;exact#[k,e]
theorem n9(b:Base es st g r)(h:BI r y XA):∃m,y=tO m:=by
 rcases cC.mp (eB.mp ((b.adj _ _).mp h)) with⟨v,m⟩| ⟨v,m⟩
 rcases(xC _ m).1 with⟨_,k,e⟩| ⟨k,_,e⟩| ⟨_,k,_,_,e⟩
 ·exact i3 e zC
 exact i3 e IE;exact i3 e zC;rcases(xC _ m).1 with⟨_,k,e⟩| ⟨k,e,_⟩| ⟨_,k,_,e,_⟩
 ·exact#[k,e]
 exact i3 e zC;exact i3 e IE
theorem bn(f:Flow es st g r)(h:jX r n=1):∃m,Yc r n m:=by let#[y,z,x]:=z9 f h;let#[m,rfl]:=Uh f.toBase ((f.adj _ _).mpr (f.toBase.adjw x));exact#[m,λe=>z (by rw[e]),x]
theorem DP(f:Flow es st g r){v:Int}(m:(p,tO n,v)∈d6 es st g):0<rm r p (tO n):=by
 have c:=xp m;have l:=(xC _ m).1;have h:fl es st g r p (tO n)=rm r (tO n) p:=sM f.toBase (OJ (nF l));unfold fl at h;rw[c]at h;have key:rm r (tO n) p<=1:=by
  rcases oE.mp m with⟨k,mk,z,e|e⟩| ⟨e,o,z,y|y|y⟩
  exact i3 (o9 (λw:Wy=>w.2.1) e) AA;have b:p=XA:=o9 qP e;have u:n=k:=LB (o9 (λw:Wy=>w.2.1) e);rw[b];exact U1 f n (by rw[u];exact z);exact i3 (o9 (λw:Wy=>w.2.1) y) AA;exact i3 (o9 (λw:Wy=>w.2.1) y) AA;have b:p=fR e.1:=o9 qP y;have u:n=e.2:=LB (o9 (λw:Wy=>w.2.1) y);rw[b];by_cases c:0<rm r (tO n) (fR e.1);have j:e.1≠n:=by rw[u];exact z.2
  have i:=kI (λx _=>ym f.toBase e.1 x) (pJ f.toBase c).1;rw[TZ f,Ae j]at i;exact QAS i (GM f.toBase _);omega
 omega
theorem oU{l m:List Pt}(v:l.Nodup)(u:m.Nodup)(h:∀x,x∈l↔x∈m):l.9=m.length:=by have a:=nH v λx z=>(h x).mp z;have b:=nH u λx z=>(h x).mpr z;omega
noncomputable def BH(ks:List Pt)(x:Pt):Bool:=decide (x.2="to")&&!decide (fR x.1∈ks)
theorem jE{x:Pt}:BH ks x=kf↔∃n,x=tO n/\fR n∉ks:=by unfold BH;rw[Qb,Q7,o2,decide_eq_false_iff_not];constructor;rintro⟨u,z⟩;exact#[x.1,QCm rfl u,z];rintro⟨n,rfl,h⟩;exact#[rfl,h]
theorem iR(p:Pt->Bool):∀(l:List Pt),sm l (λx=>if p x=kf then 1 else 0)=(l.filter p).9
 |[]=>rfl|x::l=>by show(if p x=kf then 1 else 0)+sm l _=_;rw[iR p l,WM];by_cases c:p x=kf;rw[i0 c,i0 c,QM];omega;rw[ii c,ii c];omega
theorem DV(f:Flow es st g r)(nd:ks.Nodup)(hk:∀p,p∈ks↔Rch r p)(M:tO g∉ks):out es st g r XA=(ks.filter (BH ks)).length:=by
 have sub:∀p∈ks,p∈vs0 es st g:=λp L=>by have:=dB.mp (kJ f.toBase.dom f.toBase.bg ((hk p).mp L));rw[f.keys]at this;exact this
 have o:∀x∈ks,∀y,y∉ks->rm r x y=0:=λx w y u=>by have:=f.nn x y;by_cases c:0<rm r x y;exact i3 ((hk y).mpr (.go ((hk x).mp w) ((MW f.ndi).mpr c))) u;omega
 have I:sm ((vs0 es st g).filter λx=>decide (x∈ks)) (λx=>out es st g r x)=out es st g r XA:=by
  have hb:XA∈ks:=(hk XA).mpr .bg;have e:∀x∈(vs0 es st g).filter (λx=>decide (x∈ks)),out es st g r x=if x=XA then out es st g r XA else 0:=λx w=>by by_cases c:x=XA;rw[i0 c,c];rw[ii c];exact f.cons x c λz=>M (z▸oa (QX.mp w).2)
  rw[kB e];exact nK (IF.sublist Q3) (QX.mpr #[sub _ hb,dT hb])
 have G:∀x∈(vs0 es st g).filter (λx=>decide (x∈ks)),sm ((vs0 es st g).filter λy=>!decide (y∈ks)) (fl es st g r x)=if BH ks x=kf then 1 else 0:=λx w=>by
  have W:x∈ks:=oa (QX.mp w).2;have Z:=(QX.mp w).1;have k:∀y∈(vs0 es st g).filter (λy=>!decide (y∈ks)),y∉ks/\fl es st g r x y=rm (kA es st g) x y:=λy u=>by have:=(QX.mp u).2;rw[Q7,decide_eq_false_iff_not]at this;refine#[this,?_];unfold fl;rw[o x W y this];omega
  have B:∀y∈(vs0 es st g).filter (λy=>!decide (y∈ks)),∀n,y=tO n->fl es st g r x y=0:=λy u n e=>by
   let#[C,O]:=k y u;rw[O,e];by_cases A:x=fR n;rw[A];exact OJ λl=>nF (.inr (.inl #[n,rfl,rfl])) l;rcases Zv (es:=es) (st:=st) (g:=g) A with z|z
   ·exact z
   have a:BI (kA es st g) x (tO n):=by refine qu λJ=>?_;rw[KR J]at z;exact i3 z (by decide)
   rcases cC.mp (eB.mp a) with⟨v,m⟩| ⟨v,m⟩
   have:=DP f m;rw[o x W (tO n) (e▸C)]at this;exact i3 this (wt 0);rw[OJ (nF (xC _ m).1)]
  rcases oD.kind x (dB.mpr Z) with e|⟨n,e|e⟩
  have i:¬ BH ks x=true:=λz=>by let#[n,j,_]:=jE.mp z;exact zC (e.symm.trans j)
  rw[ii i];rw[kB (g:=λ_=>0),uH];intro y u;by_cases t:∃n,y=tO n;let#[n,t]:=t;exact B y u n t;rw[(k y u).2,e];exact OJ λl=>by
   rcases l with⟨_,z⟩| ⟨n,z,_⟩| ⟨_,b,_,_,z⟩
   exact t z;exact zC z;exact t #[b,z]
  by_cases X:fR n∈ks
  ·have i:¬ BH ks x=true:=λz=>by
    let#[m,j,h]:=jE.mp z;rw[<- LB (e.symm.trans j)]at h;exact h X
   rw[ii i,kB (g:=λ_=>0),uH];intro y u;rw[(k y u).2,e];exact bp λz=>(k y u).1 (z▸X)
  rw[i0 (jE.mpr #[n,e,X])];have K:Key (kA es st g) (tO n):=by rw[<- e];exact dB.mpr Z
  have N:fR n∈vs0 es st g:=aB (CB (eB.mpr (lQ K)));rw[kB (g:=λy=>if y=fR n then 1 else 0)];exact nK (IF.sublist Q3) (QX.mpr #[N,by rw[dF X];rfl]);intro y u;rw[(k y u).2,e];by_cases c:y=fR n;rw[i0 c,c,Jp K];rw[ii c,bp c];have i:¬ BH ks x=true:=λz=>by let#[m,j,_]:=jE.mp z;exact AA (j.symm.trans e)
  rw[ii i,kB (g:=λ_=>0),uH];intro y u;by_cases t:∃n,y=tO n;let#[n,t]:=t;exact B y u n t;rw[(k y u).2,e];exact OJ λl=>by
   rcases l with⟨z,_⟩| ⟨n,z,_⟩| ⟨_,b,_,_,z⟩
   exact IE z.symm;exact AA z.symm;exact t #[b,z]
 have F:∀x,out es st g r x=sm ((vs0 es st g).filter λy=>decide (y∈ks)) (fl es st g r x)+sm ((vs0 es st g).filter λy=>!decide (y∈ks)) (fl es st g r x):=λx=>cU _ _;have E:sm ((vs0 es st g).filter λx=>decide (x∈ks)) (λx=>out es st g r x)=sm ((vs0 es st g).filter λx=>decide (x∈ks)) (λx=>if BH ks x=kf then 1 else 0):=by rw[kB λx _=>F x,vI,Ic _ λx _ y _=>f.anti x y,kB G];omega
 rw[<- I,E,iR];have:(((vs0 es st g).filter λx=>decide (x∈ks)).filter (BH ks)).9=(ks.filter (BH ks)).length:=by refine oU ((IF.sublist Q3).sublist Q3) (nd.sublist Q3) λx=>?_;rw[QX,QX,QX,o2];exact#[λ#[#[_,s],Y]=>#[s,Y],λ#[s,Y]=>#[#[sub x s,s],Y]]
 rw[this]
theorem Nf(f:Flow es st g r):out es st g r XA=(((lk r XA).map (·.1)).filter λy=>decide (0<rm r y XA)).length:=by
 have e:∀y∈vs0 es st g,fl es st g r XA y=if decide (0<rm r y XA)=kf then 1 else 0:=λy x=>by rw[sM f.toBase Iz];have z:=f.nn y XA;by_cases c:0<rm r y XA;rw[dT c,i0 rfl];let#[n,e]:=n9 f.toBase ((f.adj _ _).mpr (f.toBase.adjw c));rw[e]at c ⊢;have:=U1 f n (ZK f.toBase c).2;omega;rw[dF c,ii (by decide)];omega
 unfold out;rw[kB e,iR];have:((vs0 es st g).filter λy=>decide (0<rm r y XA)).9=(((lk r XA).map (·.1)).filter λy=>decide (0<rm r y XA)).length:=by refine oU (IF.sublist Q3) ((f.ndi XA).sublist Q3) λy=>?_;rw[QX,QX,o2];refine#[λ#[_,h]=>#[?_,h],λ#[_,h]=>#[(pJ f.toBase h).1,h]];let#[v,hv]:=(f.adj XA y).mpr (CB (f.toBase.adjw h));exact QO.mpr #[(y,v),oH hv,rfl]
 rw[this]
theorem jg(f:Flow es st g r)(hk:∀p,p∈ks↔Rch r p)(o:tO g∉ks){cut:LS}(hc:∀n,tO n∈ks->fR n∉ks->n∈cut):¬ ∃a,(a,g)∈es/\Led es st g cut a:=by
 have u:∀p∈ks,∀n v,(p,tO n,v)∈d6 es st g->tO n∈ks:=λp j n v m=>(hk _).mpr (.go ((hk _).mp j) ((MW f.ndi).mpr (DP f m)));have key:∀n,Led es st g cut n->fR n∈ks:=λn h=>by
  induction h with|@st s h k=>let#[w,x]:=RE.mp k;have t:=u XA ((hk _).mpr .bg) s 2 (oE.mpr (.inl #[s,h,w,.inr rfl]));exact qu λz=>x (hc s t z)|@ed a b l m k i=>let#[w,x]:=RE.mp k;by_cases e:a=b;rw[<- e];exact i;have t:=u (fR a) i b 2 (oE.mpr (.inr #[(a,b),m,#[(RN l).1,e],.inr (.inr rfl)]));exact qu λz=>x (hc b t z)
 rintro⟨a,m,l⟩;exact o (u (fR a) (key a l) g 2 (oE.mpr (.inr #[(a,g),m,#[(RN l).1,(RN l).1],.inr (.inr rfl)])))
end
end
inductive Run(r:Rm)(g f:Str):LS->Str->Prop
 |nil:Run r g f [] f
 |go {c:LS}{n m:Str}:Run r g f c n->n≠g->Yc r n m->Run r g f (c++[n]) m
inductive Chn(es:VC)(st:LS)(g:Str):LS->Str->Prop
 |st {f:Str}:f∈st->f≠g->Chn es st g [] f
 |go {c:LS}{n m:Str}:Chn es st g c n->n≠g->(n,m)∈es->Chn es st g (c++[n]) m
section
variable{es:VC}{st:LS}{g:Str}{r:Rm}
section
variable{s n:Str}{c:LS}
theorem Run.chn(f:Flow es st g r)(x:BW r s)(h:Run r g s c n):Chn es st g c n:=by
 induction h with|nil=>exact .st (ZK f.toBase x).1 (ZK f.toBase x).2|go _ ng y z=>exact .go z ng (dn f.toBase y).1
theorem Run.thr1(f:Flow es st g r)(y:BW r s)(h:Run r g s c n)(ng:n≠g):jX r n=1:=by
 cases h with|nil=>exact Mf f y|go _ _ x=>exact Te f x ng
theorem Run.pred(h:Run r g s c n):∀x,x∈c∨x=n->x=s∨∃y∈c,Yc r y x:=by
 induction h with
 |nil=>intro x u;exact u.elim (λz=>(nomatch z)) .inl
 |@go c n m _ _ v w =>
  intro x u;rcases u with u|rfl;have:x∈c∨x=n:=(Qf.mp u).imp_right QI.mp;rcases w x this with z|⟨y,k,z⟩
  exact .inl z;exact .inr #[y,Ql _ k,z];exact .inr #[n,QZ _ QE,v]
theorem Run.ng(h:Run r g s c n):∀x∈c,x≠g:=by
 induction h with
 |nil=>exact λx y=>(nomatch y)
 |go _ k _ u=>intro x y;rcases Qf.mp y with z|z;exact u x z;rw[QI.mp z];exact k
theorem Run.nd(f:Flow es st g r)(w:BW r s)(h:Run r g s c n):c.Nodup/\n∉c:=by
 induction h with
 |nil=>exact#[Qx,λz=>(nomatch z)]
 |@go c n m h k x u =>
  have nd:(c++[n]).Nodup:=qT.mpr #[u.1,Qj.mpr #[λz=>(nomatch z),Qx],λa i b hb z=>by rw[QI.mp hb]at z;exact u.2 (z▸i)];refine#[nd,λz=>?_];rcases Qf.mp z with z|z;rcases h.pred m (.inl z) with e|⟨y,v,e⟩
  ·rw[e]at x;exact MS f w x
  rw[y0 f (h.ng m z) e x]at v;exact u.2 v;exact x.1 (QI.mp z).symm
theorem Run.apart(f:Flow es st g r){s':Str}(q:BW r s)(b:BW r s'){l:LS}{p:Str}(h:Run r g s c n)(h':Run r g s' l p):∀x∈c,x∈l->s=s':=by
 induction h with
 |nil=>exact λx a=>(nomatch a)
 |@go c n m h k X i =>
  intro x a v;rcases Qf.mp a with z|z;exact i x z v;have z:=QI.mp z;subst z;rcases h.pred x (.inr rfl) with e|⟨y,j,e⟩<;>rcases h'.pred x (.inl v) with u|⟨o,w,u⟩
  exact e.symm.trans u;rw[e]at u;exact(MS f q u).elim;rw[u]at e;exact(MS f b e).elim;rw[y0 f k e u]at j;exact i o j w
end
end
section
variable{es:VC}{st:LS}{g:Str}
theorem kg{cut:LS}{c:LS}{n:Str}(h:Chn es st g c n)(hc:∀x∈c,x∉cut)(ng:n≠g)(y:n∉cut):Led es st g cut n:=by
 induction h with|st h _=>exact .st h (RE.mpr #[ng,y])|@go c n m _ k e z=>exact .ed (z (λx u=>hc x (Ql _ u)) k (hc n (QZ _ QE))) e (RE.mpr #[ng,y])
theorem ub{cut:LS}{c:LS}(h:Chn es st g c g)(hl:¬ ∃a,(a,g)∈es/\Led es st g cut a):∃x∈c,x∈cut:=by
 refine qu λz=>?_;have hc:∀x∈c,x∉cut:=λx y m=>z #[x,y,m];cases h with|st _ e=>exact e rfl|@go c n _ h k e=>exact hl #[n,e,kg h (λx y=>hc x (Ql _ y)) k (hc n (QZ _ QE))]
def uK:List (LS)->Prop
 |[]=>True|c::cs=>(∀d∈cs,∀x∈c,x∉d)/\uK cs
theorem lh{cut:LS}:∀{cs:List (LS)},uK cs->(∀c∈cs,∃x∈c,x∈cut)->∃u:LS,u.9=cs.9/\u.Nodup/\(∀p∈u,p∈cut)/\∀p∈u,∃c∈cs,p∈c
 |[],_,_=>#[[],rfl,Qx,λ_ z=>(nomatch z),λ_ z=>(nomatch z)]
 |c::cs,a,h=>by
  let#[u,e,b,e3,k]:=lh (cs:=cs) a.2 λd v=>h d (QF _ v);let#[x,w,hc]:=h c QE;refine#[x::u,by rw[QM,QM,e],Qj.mpr #[λz=>?_,b],λp y=>?_,λp y=>?_];let#[d,v,y]:=k x z;exact a.1 d v x w y;rcases QK.mp y with z|z
  ·rw[z];exact hc
  exact e3 p z;rcases QK.mp y with z|z
  ·exact#[c,QE,by rw[z];exact w]
  let#[d,v,y]:=k p z;exact#[d,QF _ v,y]
theorem KQ{cut:LS}{cs:List (LS)}(a:uK cs)(h:∀c∈cs,Chn es st g c g)(hl:¬ ∃a,(a,g)∈es/\Led es st g cut a):cs.9<=cut.length:=by let#[z,y,x,e3,_]:=lh a λc hc=>ub (h c hc) hl;rw[<- y];exact BN x e3
end
section
variable{ks:List Pt}{vs:List D}{p:Pt}
noncomputable def ZC(ks:List Pt)(vs:List D):List (D×D):=(ks.map pr).zip vs
theorem vp(ks:List Pt)(vs:List D):(dg ks vs).er=.dict (ZC ks vs):=by show PyData.dict ((ks.map pr).zip (ersT (vs.map T.d)))=_;rw[UA];rfl
theorem aM(h:vs.9=ks.9):(ZC ks vs).map (·.1)=ks.map pr:=WK (by rw[QA];omega)
theorem cg(h:vs.9=ks.9):(ZC ks vs).map (·.2)=vs:=WL (by rw[QA];omega)
theorem HJ(h:vs.9=ks.9)(m:p∈ks):RC (ZC ks vs)=jr true:=by
 cases ks with
 |nil=>exact(nomatch m)
 |cons x ks=>cases vs with|nil=>cases h|cons y vs=>rfl
theorem UV{q:Pt}{u:List Pt}:∀{y:List Pt},q∉y->dA ((y++q::u).map pr) (pr q)=jr y.9
 |[],_=>Ih rfl|x::y,h=>by show dA (pr x::(y++q::u).map pr) (pr q)=_;rw[Ma (λz=>h (by rw[GR z];exact QE)),UV λz=>h (QF _ z)];rfl
theorem vr{h z:List Pt}{y x:List D}{q:Pt}{n m:Bool}{R:T->Prop}(u:y.9=h.9)(w:x.9=z.9)(v:q∉h)(k:R (.d (pr p))):KA (.d (.dict (ZC (h++q::z) (y++pr p::x)))) n (.d (pr q)) m R:=by
 have hl:(y++pr p::x).9=(h++q::z).length:=by rw[QJ,QJ,QM,QM,u,w]
 refine yr (HJ hl (p:=q) (QZ _ QE)) (NB q) (by rw[aM hl];exact UV v) ?_ k;rw[cg hl,<- u,Qy (QY _),QBO];rfl
theorem aY(a b:Pt):Qn (pr a) (pr b)=decide (a=b):=by
 rw[Qz,o2];have e:Qn (pr a) (pr b)=(Qn (.str a.1) (.str b.1)&&(Qn (.str a.2) (.str b.2)&&kf)):=by simp[pr,Qn,PyData.eqvAll]
 rw[e,aF,aF,QAm,Qb,o2,o2];exact#[λh=>QCm h.1 h.2,λh=>by rw[h];exact#[rfl,rfl]]
def EF(es:VC)(st:LS):Prop:=(∀s∈st,qg s=kf)/\∀e∈es,qg e.1=kf/\qg e.2=kf
theorem ED{a b:Str}(x:qg a=kf)(h:qg b=kf):RF (pr (a,b)):=by refine#[?_,?_];simp only[pr,QAY,qr,x,h,Bool.and_self];simp only[pr,QBI,wc];decide
theorem bU:qg "to"=true:=by decide +kernel
theorem JZ:qg "from"=true:=by decide +kernel
theorem MP:qg ""=kf/\qg "begin"=true:=by decide +kernel
theorem A9{es:VC}{st:LS}{g:Str}(h:EF es st)(k:p∈vs0 es st g):RF (pr p):=by
 have k:Key (kA es st g) p:=dB.mpr k;rw[FE]at k;rcases mM.mp k with z|⟨⟨u,v,c⟩,m,z⟩
 rw[QI.mp (dB.mp z)];exact ED MP.1 MP.2;have z:p=u∨p=v:=z;rcases oE.mp m with⟨n,w,_,e|e⟩| ⟨e,x,_,y|y|y⟩
 cases e;rcases z with z|z<;>subst z;exact ED (h.1 n w) bU;exact ED (h.1 n w) JZ;cases e;rcases z with z|z<;>subst z;exact ED MP.1 MP.2;exact ED (h.1 n w) bU;cases y;rcases z with z|z<;>subst z;exact ED (h.2 e x).1 bU;exact ED (h.2 e x).1 JZ;cases y;rcases z with z|z<;>subst z;exact ED (h.2 e x).2 bU;exact ED (h.2 e x).2 JZ;cases y;rcases z with z|z<;>subst z;exact ED (h.2 e x).1 JZ;exact ED (h.2 e x).2 bU
def XT(r:Rm)(x:List (D×D))(last:D)(h:Pt)(o4:Option Sl):xA:=[oW (oB r),bD (.dict x),bD last,bD (pr h),o4]
end
section
variable{Ψ:PEv}{Z:PEnds}{q:PT}{r:Rm}{h:List (D×D)}{last:D}{u v:Pt}
theorem mz(hk:Key r u)(w:BI r u v)(hl:(lk r u).9<kn)(k:pF Ψ q Z (XT (put r u (put (lk r u) v (rm r u v - 1))) h last v (bD (pr u)))) :
  pF Ψ (.seq (.six (.idx (.var 0) (.var 4)) (.var 3) (.bin .Sub (.idx (.idx (.var 0) (.var 4)) (.var 3)) (.int 1))) q) Z (XT r h last v (bD (pr u))):=by
 let#[x,y]:=w;have e:rm r u v=x:=by unfold rm;rw[y];rfl
 rw[e]at k;delta XT at k ⊢;simp![↓XI];refine kF hk ?_;simp![↓T2];refine yR y ?_;simp![↓yA];refine MI (NE hk) λf z=>uR hl ?_;rw[z];exact k
theorem gz(hk:Key r v)(w:BI r v u)(hl:(lk r v).9<kn)(k:pF Ψ q Z (XT (put r v (put (lk r v) u (rm r v u+1))) h last v (bD (pr u)))) :
  pF Ψ (.seq (.six (.idx (.var 0) (.var 3)) (.var 4) (.bin .Add (.idx (.idx (.var 0) (.var 3)) (.var 4)) (.int 1))) q) Z (XT r h last v (bD (pr u))):=by
 let#[x,y]:=w;have e:rm r v u=x:=by unfold rm;rw[y];rfl
 rw[e]at k;delta XT at k ⊢;simp![↓XI];refine kF hk ?_;simp![↓T2];refine yR y ?_;simp![↓yA];refine MI (NE hk) λf z=>uR hl ?_;rw[z];exact k
end
theorem Base.inn{es:VC}{st:LS}{g:Str}{r:Rm}(b:Base es st g r)(p:Pt):(lk r p).9<=(kA es st g).length:=by
 have:=nH (ns:=vs0 es st g) (b.ndi p) λq h=>by let#[e,x,z]:=QO.mp h;have a:BI r p q:=eB.mpr #[e.2,by rw[<- z];exact x];exact aB (CB ((b.adj p q).mp a))
 unfold vs0 at this;rw[QA,QA]at this;exact this
section
variable{Ψ:PEv}{Z:PEnds}{es:VC}{st:LS}{g:Str}
theorem rf{m r:Rm}{ks:List Pt}{vs:List D}{x:Pt}{last:D}{o4:Option Sl}{z v:List Pt}{b u:List D}(hsz:(kA es st g).9<=1000)(R:Ug m)(I:CF m z b)(S:ks=z++v)(ev:vs=b++u)(h9:u.9=v.9)(F:x∈z)(hb:x≠XA)(i:LC es st g m r x z)
  (k:∀h y n l p A,CF m h y->ks=h++n->vs=y++l->l.9=n.9->h.9<z.9->p∈h->LC es st g m A p h->Z.nx (XT A (ZC ks vs) last p (bD (pr p)))) :
  pF Ψ aE Z (XT r (ZC ks vs) last x o4):=by
 let#[h,y,p,j,e,J,Q,w,B,X,G]:=I.find F hb;have M:=I.len;have L:=J.len;have H:e.9=j.length:=by rw[X,G,QJ,QJ,QM,QM]at M;omega
 have s:ks=h++x::(j++v):=by rw[S,X,Q1];rfl
 have o:vs=y++pr p::(e++u):=by rw[ev,G,Q1];rfl
 let#[W,K]:=af R i F hb w B λq P=>by rw[X];exact Ql _ P
 have a:=i.adjw W;have C:=rT a;have O:Key r p:=by rw[dB,i.keys];exact aB a
 have N:Key r x:=by rw[dB,i.keys];exact aB (CB a)
 have E:=i.toBase.inn;have Y:pF Ψ %[.set 3 (.var 4)|2] Z (XT (A3 r p x) (ZC ks vs) last x (bD (pr p))):=by have:=k h y (x::(j++v)) (pr p::(e++u)) p (A3 r p x) J s o (by rw[QM,QM,QJ,QJ];omega) (by rw[X,QJ,QM];omega) Q K;unfold XT at this;delta XT;simp![↓yA];exact this
 have f:pF Ψ %[.six (.idx (.var 0) (.var 4)) (.var 3) (.bin .Sub (.idx (.idx (.var 0) (.var 4)) (.var 3)) (.int 1)),.six (.idx (.var 0) (.var 3)) (.var 4) (.bin .Add (.idx (.idx (.var 0) (.var 3)) (.var 4)) (.int 1)),.set 3 (.var 4)|2] Z (XT r (ZC ks vs) last x (bD (pr p))):=by have i1:=E p;have i2:=E x;refine mz O ((i.adj _ _).mpr a) () (gz ?_ ?_ ?_ Y);exact JJ.mpr (.inr N);show BI _ x p;have:=(i.adj x p).mpr (CB a);unfold BI at this ⊢;rw[mE,ii C];exact this;rw[mE,ii C];omega
 unfold XT at f;delta XT;delta aE;simp![↓yA];rw[s,o]at f ⊢;refine vr L (by rw[QJ,QJ];omega) B ?_;simp![↓yA];exact f
end
section
variable{Ψ:PEv}{W:LT->Prop}{n m:Bool}{E:XE}{ρ:xA}{R:T->Prop}{a g f:Str}{es:VC}{st c:LS}{r:Rm}{Z:PEnds}{ks:List Pt}{vs:List D}{L:Bool->Prop}{Q:T->Bool->Prop}{i:Nat}{cs:List (LS)}
def mR:PSp where
 md:=[.chg]
 run:=λy Q _=>∃(es:VC) (st:LS) (g:Str) (h:Rm) (ks:List Pt) (vs:List D),y=[oB h,.d (.dict (ZC ks vs)),.d (pr (tO g))]/\((kA es st g).9<=1000/\EF es st/\Flow es st g h/\CF h ks vs/\tO g∈ks)/\∀x,Flow es st g x->out es st g x XA=out es st g h XA+1->Q (.d .none) [oB x]
theorem Lm(B:Ψ.va "BEGIN"=jr (pr XA)):EC Ψ XG mR DL bJ:=by
 rintro _ Q _ ⟨es,st,g,k,ks,vs,rfl,⟨N,M,fl,H,I⟩,q⟩;refine DK [oW (oB k),bD (.dict (ZC ks vs)),bD (pr (tO g)),kv,kv] ?_;delta XG;simp![↓yA];refine FI (λm ρ=>∃r h x v u y o4,m=h.9/\CF k h x/\ks=h++v/\vs=x++u/\u.9=v.9/\y∈h/\LC es st g k r y h/\ρ=XT r (ZC ks vs) (pr (tO g)) y o4) ks.9 #[k,ks,vs,[],[],tO g,_,rfl,H,by rw[qI],by rw[qI],rfl,I,F9 fl ks,rfl] ?_;rintro m ρ ⟨r,h,x,v,u,y,o4,em,C,S,ev,J,K,Y,rfl⟩;have o:RF (pr y):=A9 M (by have:=kJ fl.toBase.dom fl.toBase.bg (C.rch y K);rw[dB,fl.keys]at this;exact this);have s:RF (pr XA):=ED MP.1 MP.2;have z:∀L:Bool->Prop,L (!decide (y=XA))->PB .NotEq (.d (pr y)) (.d (pr XA)) L:=λL l=>by show RF (pr y)/\RF (pr XA)/\L (!PyData.eqv (pr y) (pr XA));rw[aY];exact#[o,s,l]
 by_cases e:y=XA;subst e;delta XT;simp![↓jI B];refine z _ ?_;rw[dT rfl];let#[P,O]:=Nn Y;exact q r P O;have A:=λ(Z:PEnds) G=>rf (Ψ:=Ψ) (Z:=Z) (last:=pr (tO g)) (o4:=o4) N fl.ndi C S ev J K e Y G;unfold XT at A;delta XT;simp![↓jI B];refine z _ ?_;rw[dF e];refine A _ λw j X b p F a1 a2 a3 a4 a5 a6 a7=>#[w.9,(),F,w,j,X,b,p,_,rfl,a1,a2,a3,a4,a6,a7,rfl]
theorem O6{l:Inn}:bK .val [(ZD l,kd)] W=W ((l.map λe=>pr e.1).map T.d):=oV _ _
theorem Yk{kvs:List (D×D)}(h:RC kvs=jr kf):bK .val [(.d (.dict kvs),n)] W=W ((kvs.map (·.1)).map T.d):=by unfold bK TB;rw[pA];show OB .val [GB kvs] W=_;unfold GB;rw[h];exact oV _ _
theorem Nb{a b h:PX}{t:Str}{x:T}{R:Option T->Prop}:ZG Ψ E [] [t] (.nm 0) (.and a b) h ρ x R=vP Ψ (.and a b) E (jr (.bor x)::lockA ρ) λk z=>if k=kf then zB Ψ h E z λy n _=>fC y n (R (jr y)) else R none:=rfl
theorem xL{p:Pt}:KA (.d (pr p)) n (.d (.int 0)) m R=R (.d (.str p.1)):=by delta pr;rw[DW,cT,GA]
theorem B6{p:Pt}:KA (.d (pr p)) n (.d (.int 1)) m R=R (.d (.str p.2)):=by delta pr;rw[DW,Jg,GA]
theorem gh:(T.d (.tuple [.str a,.str "from"]))=.d (pr (fR a)):=rfl
theorem c8:(T.d (.tuple [.str a,.str "to"]))=.d (pr (tO a)):=rfl
def vH:PSp where
 md:=[.bor]
 run:=λh Q _=>∃(es:VC) (st:LS) (g:Str) (r:Rm) (n:Str),h=[oB r,.d (.str n)]/\((kA es st g).9<=1000/\Flow es st g r/\jX r n=1)/\∀m,Yc r n m->Q (.d (.str m)) []
theorem i4:EC Ψ sE vH AH dG:=by
 rintro _ Q _ ⟨es,st,g,r,n,rfl,⟨M,fl,A⟩,q⟩;have J:=fl.toBase.inn (fR n);let#[b,k]:=bn fl A;have o:BI r (fR n) (tO b):=(fl.adj _ _).mpr (CB (fl.toBase.adjw k.2));have X:Key r (fR n):=by rw[dB,fl.keys];exact aB ((fl.adj _ _).mp o)
 refine zA [jr (.bor (oB r)),bD (.str n),kv] ?_;delta sE;simp![gh,↓XI];refine#[(),kF X ?_];simp![↓yc,↓O6];have F:((lk r (fR n)).map λe=>pr e.1).map T.d=((lk r (fR n)).map (·.1)).map λp=>T.d (pr p):=by rw[QR,QR];rfl
 rw[F];refine fA (λp=>T.d (pr p)) (λ(p:Pt)=>T.d (.str p.1)) (λp=>!decide (p.1=n)&&decide (0<rm r p (fR n))) ((lk r (fR n)).map (·.1)) [] _ (λx K R u=>?_) (by show 0+((lk r (fR n)).map (·.1)).9<=_;rw[QA];omega) ?_;let#[e,B,C]:=QO.mp K;have G:BI r (fR n) x:=eB.mpr #[e.2,by rw[<- C];exact B];have w:BI r x (fR n):=(fl.adj _ _).mpr (CB ((fl.adj _ _).mp G));have s:Key r x:=by rw[dB,fl.keys];exact aB ((fl.adj _ _).mp w)
 let#[v,hv]:=w;have ev:rm r x (fR n)=v:=by unfold rm;rw[hv];rfl
 rw[ev]at u;simp![↓Nb,↓xL,↓XI];by_cases c:x.1=n;rw[dT c]at u ⊢;exact u;rw[dF c]at u ⊢;simp only[WG,↓reduceIte];refine kF s ?_;simp![↓T2];refine yR hv ?_;simp![↓xL];by_cases d:0<v;rw[dT d]at u ⊢;exact u;rw[dF d]at u ⊢;exact u;have j:tO b∈((lk r (fR n)).map (·.1)).filter λp=>!decide (p.1=n)&&decide (0<rm r p (fR n)):=by let#[v,hv]:=o;refine QX.mpr #[QO.mpr #[_,oH hv,rfl],?_];rw[dF (show ¬ (tO b).1=n from λz=>k.1 z.symm),dT k.2];rfl
 cases l:((lk r (fR n)).map (·.1)).filter λp=>!decide (p.1=n)&&decide (0<rm r p (fR n)) with
 |nil=>rw[l]at j;exact(nomatch j)
 |cons y I =>
  have Y:y∈((lk r (fR n)).map (·.1)).filter λp=>!decide (p.1=n)&&decide (0<rm r p (fR n)):=by rw[l];exact QE
  have h:=(QX.mp Y).2;rw[Qb,Q7,decide_eq_false_iff_not,o2]at h;let#[m,rfl]:=Uh fl.toBase ((fl.adj _ _).mpr (fl.toBase.adjw h.2));rw[Qd,bA (λp:Pt=>j0 p.1)];simp![↓yA];rw[QU,cT];simp![↓yA];exact q m #[λz=>h.1 z.symm,h.2]
def AI:PSp where
 md:=[.bor]
 run:=λh Q _=>∃(es:VC) (st:LS) (g:Str) (r:Rm) (f:Str),h=[oB r,.d (.str f),.d (.str g)]/\((kA es st g).9<=1000/\Flow es st g r/\BW r f)/\∀c,Run r g f c g->Q (.lst ((c.map j0).map T.d)) []
theorem xl(fl:Flow es st g r)(w:BW r f){n:Str}(h:Run r g f c n):(∀x∈c,tO x∈vs0 es st g)/\tO n∈vs0 es st g:=by
 induction h with
 |nil=>exact#[λx y=>(nomatch y),(pJ fl.toBase w).1]
 |go _ _ v u=>refine#[λx y=>?_,(pJ fl.toBase v.2).1];rcases Qf.mp y with z|z;exact u.1 x z;rw[QI.mp z];exact u.2
theorem UZ(fl:Flow es st g r)(y:BW r f){n:Str}(h:Run r g f c n):c.9<=(kA es st g).length:=by
 have nd:=(h.nd fl y).1;have:=nH (ks:=c.map tO) (ns:=vs0 es st g) (WD tO (λa b u z=>u (LB z)) nd) λp w=>by let#[x,v,e]:=QO.mp w;rw[<- e];exact(xl fl y h).1 x v
 unfold vs0 at this;rw[QA,QA]at this;exact this
def yp(r:Rm)(f g:Str)(c:LS)(n:Str):xA:=[jr (.bor (oB r)),bD (.str f),bD (.str g),oW (.lst ((c.map j0).map T.d)),bD (.str n)]
theorem vg(y:Ψ.sp "name_behind"=vH){n:Str}(x:(kA es st g).9<=1000)(fl:Flow es st g r)(h:jX r n=1)(hl:c.9<=1000)(k:∀m,Yc r n m->Z.nx (yp r f g (c++[n]) m)) :
  pF Ψ FD Z (yp r f g c n):=by
 delta yp at k ⊢;delta FD;simp![↓eT,↓jA (md:=[.bor]) y rfl rfl];refine#[by rw[QA,QA];omega,#[_,_,_,_,_,rfl,#[x,fl,h],λm nx=>?_]];have:=k m nx;rw[QT,QT]at this;simp![↓yA];exact this
theorem E8(j:Ψ.sp "name_behind"=vH):EC Ψ DF AI zK PH:=by
 rintro _ Q _ ⟨es,st,g,r,f,rfl,⟨b,fl,z⟩,q⟩;have u:kn=16777216:=qA;refine zA [jr (.bor (oB r)),bD (.str f),bD (.str g),kv,kv] ?_;delta DF
 simp![↓yA];refine#[Qq _,FI (λm ρ=>∃c n,m+c.9=1001/\Run r g f c n/\ρ=yp r f g c n) 1001 #[[],f,rfl,.nil,rfl] ?_];rintro m ρ ⟨c,n,l,x,rfl⟩;have hl:=UZ fl z x;by_cases e:n=g;subst e;delta yp;simp![↓yA];exact q c x;have v:=λ(Z:PEnds) u=>vg (Ψ:=Ψ) (Z:=Z) (f:=f) (g:=g) (c:=c) j b fl (x.thr1 fl z e) () u;unfold yp at v;delta yp;simp![↓yA];rw[dF e];refine v _ λk w=>?_;have h:=x.go e w;have y:=UZ fl z h;rw[QJ,Q5]at y;exact#[m - 1,(),c++[n],k,by rw[QJ,Q5];omega,h,rfl]
theorem Zp{q:Pt}(hv:vs.9=ks.9)(hb:XA∈ks):PB .NotIn (.d (pr q)) (.d (.dict (ZC ks vs))) L=L (!decide (q∈ks)):=by show(∃b,(RC (ZC ks vs)=jr b∨ZC ks vs=[])/\YD b (pr q)/\L (!(dA ((ZC ks vs).map (·.1)) (pr q)).isSome))=_;rw[HJ hv hb,aM hv,tH];exact ot #[λ#[_,_,_,h]=>h,λh=>#[kf,.inl rfl,NB q,h]]
theorem Ki{q:Pt}(hv:vs.9=ks.9)(hb:XA∈ks):PB .In (.d (pr q)) (.d (.dict (ZC ks vs))) L=L (decide (q∈ks)):=by show(∃b,(RC (ZC ks vs)=jr b∨ZC ks vs=[])/\YD b (pr q)/\L (dA ((ZC ks vs).map (·.1)) (pr q)).isSome)=_;rw[HJ hv hb,aM hv,tH];exact ot #[λ#[_,_,_,h]=>h,λh=>#[kf,.inl rfl,NB q,h]]
theorem Tt{x:LS}(y:x.9<64)(q:∀h:LS,h.Perm x->ai h=kf->Q (.lst ((h.map j0).map T.d)) kf):eM .sorted [(.lst ((x.map j0).map T.d),n)] Q:=by unfold eM TB;rw[UC];exact .inl #[_,x,rfl,rA _,y,q]
theorem At{ls:List (LS)}(x:ls.9<64)(q:∀h:List (LS),h.Perm ls->Q (.lst ((h.map jC).map T.d)) kf):eM .sorted [(.d (.list (ls.map jC)),n)] Q:=by unfold eM TB;rw[pA];exact .inr (.inl #[_,ls,rfl,rA _,x,q])
def bO(ks:List Pt):LS:=(ks.filter (BH ks)).map λp=>p.1
def oR:PSp where
 run:=λh Q _=>∃(ks:List Pt) (vs:List D),h=[.d (.dict (ZC ks vs))]/\(vs.9=ks.9/\XA∈ks/\ks.9<=1000/\(ks.filter (BH ks)).9<64)/\∀cut:LS,cut.Perm (bO ks)->ai cut=kf->Q (.lst ((cut.map j0).map T.d)) []
theorem Le:EC Ψ BF oR yK OH:=by rintro _ Q _ ⟨ks,vs,rfl,⟨hv,hb,k,v⟩,q⟩;refine zA [bD (.dict (ZC ks vs))] ?_;delta BF;simp![↓Yk (HJ hv hb),aM hv];rw[<- bA];refine fA (λp=>T.d (pr p)) (λ(p:Pt)=>T.d (.str p.1)) (BH ks) ks [] _ (λx w R h=>?_) (by show 0+ks.9<=_;omega) ?_;have h:R (if(decide (x.2="to")&&!decide (fR x.1∈ks))=kf then jr (T.d (.str x.1)) else kv):=h;simp![↓Nb,↓xL,↓B6,gh,↓Zp hv hb];by_cases c:x.2="to";rw[dT c]at h ⊢;refine#[(),?_];by_cases d:fR x.1∈ks;rw[dT d]at h ⊢;exact h;rw[dF d]at h ⊢;exact h;rw[dF c]at h ⊢;exact h;rw[Qd,bA (λp:Pt=>j0 p.1),show((ks.filter (BH ks)).map λp=>j0 p.1)=(bO ks).map j0 by unfold bO;rw[QR];rfl];refine Tt (by unfold bO;rw[QA];exact v) λy u z=>?_;simp![↓yA];exact q y u z
theorem X5(f:Flow es st g r):(((lk r XA).map (·.1)).filter λy=>decide (0<rm r y XA)).9<=st.length:=by
 have u:∀y∈((lk r XA).map (·.1)).filter (λy=>decide (0<rm r y XA)),y=tO y.1/\BW r y.1:=λy x=>by have h:=oa (QX.mp x).2;let#[n,rfl]:=n9 f.toBase ((f.adj _ _).mpr (f.toBase.adjw h));exact#[rfl,h]
 have nd:(((lk r XA).map (·.1)).filter λy=>decide (0<rm r y XA)).Nodup:=(f.ndi XA).sublist Q3;have:=BN (ks:=(((lk r XA).map (·.1)).filter λy=>decide (0<rm r y XA)).map (·.1)) (ns:=st) (by
  refine WD _ (λa b h=>h) (wg (λ{a b} k hb v z=>?_) nd);exact v (by rw[(u a k).1,(u b hb).1,z])) λs w=>by
  let#[y,x,e]:=QO.mp w;rw[<- e];exact(ZK f.toBase (u y x).2).1
 rw[QA]at this;exact this
theorem aH{α v:Type}{body:T->(Option T->Prop)->Prop}(P:α->v->Prop)(g:α->T)(f:v->T):∀(l:List α) (h:LT) (Q:LT->Prop),(∀x∈l,∀R:Option T->Prop,(∀y,P x y->R (jr (f y)))->body (g x) R)->h.9+l.9<=kn->(∀u,xo P l u->Q (h++u.map f))->AC body (l.map g) h Q
 |[],h,Q,_,hl,q=>by have:=q [] .nil;rw[wT,qI]at this;exact#[by rw[wK]at hl;omega,this]|x::r,h,Q,hb,hl,q=>by
  rw[QM]at hl;refine hb x QE _ λy k=>#[(),?_]
  refine aH P g f r _ Q (λz w=>hb z (QF _ w)) (by rw[QJ,Q5];omega) λu b=>?_;have:=q (y::u) (.cons k b);rw[QU]at this;rw[Q1];exact this
theorem Cj{r:PT}:BE Ψ E r Z i (dg ks vs) kf ρ=mB Ψ E r Z (ρ.set i (bD (.dict (ZC ks vs)))):=by unfold BE;rw[vp];exact ot #[λh=>h.2,λh=>#[rfl,h]]
def Yv(c:LS):T:=.lst ((c.map j0).map T.d)
theorem jp(cs:List (LS)):ersT (cs.map Yv)=cs.map jC:=by rw[BJ,QR];congr 1;funext c;show PyData.list (ersT ((c.map j0).map T.d))=_;rw[UA];rfl
theorem jAh{r:PT}:BE Ψ E r Z i (.lst (cs.map Yv)) kf ρ=mB Ψ E r Z (ρ.set i (bD (.list (cs.map jC)))):=by
 have e:(T.lst (cs.map Yv)).er=.list (cs.map jC):=by show PyData.list (ersT (cs.map Yv))=_;rw[jp]
 unfold BE;rw[e];exact ot #[λh=>h.2,λh=>#[rfl,h]]
theorem tu{a b:LT}:KC [.lst a,.lst b]=.tup [.lst a,.lst b]:=rfl
theorem kL:∀{cs:List (LS)},uK cs↔cs.Pairwise λc d=>∀x∈c,x∉d
 |[]=>#[λ_=>.nil,λ_=>trivial]|c::cs=>by rw[List.pairwise_cons,<- kL];exact WF
theorem zZ{ds:List (LS)}(h:ds.Perm cs)(a:uK cs):uK ds:=kL.mpr ((h.pairwise_iff (λ{a b} z x u y=>z x y u)).mpr (kL.mp a))
structure Good(es:VC)(st:LS)(g:Str)(cs:List (LS))(cut:LS):Prop where
 chn:∀c∈cs,Chn es st g c g/\c.Nodup/\∀x∈c,x≠g
 apart:uK cs
 len:cs.9=cut.9
 few:cut.9<=11
 nd:cut.Nodup
 srt:ai cut=kf
 ng:g∉cut
 led:¬ ∃a,(a,g)∈es/\Led es st g cut a
 okn:∀s∈cut,qg s=kf
end
section
variable{es:VC}{st:LS}{g:Str}{r:Rm}
theorem IM(f:Flow es st g r):∀{fs:LS}{cs:List (LS)},fs.Nodup->(∀s∈fs,BW r s)->xo (λs c=>Run r g s c g) fs cs->uK cs/\(∀c∈cs,∃s∈fs,Run r g s c g)
 |_,_,_,_,.nil=>#[trivial,λ_ h=>(nomatch h)]
 |s::fs,c::cs,nd,hf,.cons h t=>by
  let#[b,a]:=Qj.mp nd;let#[l,k]:=IM f a (λs j=>hf s (QF _ j)) t;refine#[#[λd w x i e=>?_,l],λd w=>?_];let#[u,y,v]:=k d w;have:=Run.apart f (hf s QE) (hf u (QF _ y)) h v x i e;exact b (this▸y);rcases QK.mp w with z|z
  ·rw[z];exact#[s,QE,h]
  let#[u,y,v]:=k d z;exact#[u,QF _ y,v]
def jx(r:Rm):List Pt:=((lk r XA).map λe=>e.1).filter λy=>decide (0<rm r y XA)
def nY(r:Rm):LS:=(jx r).map λp=>p.1
theorem Da(f:Flow es st g r):∀y∈jx r,y=tO y.1/\BW r y.1:=λy x=>by have h:=oa (QX.mp x).2;let#[n,rfl]:=n9 f.toBase ((f.adj _ _).mpr (f.toBase.adjw h));exact#[rfl,h]
theorem Tu(f:Flow es st g r):(nY r).Nodup:=by have nd:(jx r).Nodup:=(f.ndi XA).sublist Q3;refine WD _ (λa b h=>h) (wg (λ{a b} y hb x z=>?_) nd);exact x (by rw[(Da f a y).1,(Da f b hb).1,z])
theorem mY(f:Flow es st g r):∀s∈nY r,BW r s:=λs x=>by let#[y,h,e]:=QO.mp x;rw[<- e];exact(Da f y h).2
theorem UK(f:Flow es st g r):out es st g r XA=(nY r).9/\(nY r).9<=st.length:=by have x:=Nf f;have h:=X5 f;unfold nY;rw[QA];exact#[x,h]
theorem YN{α x:Type}{P:α->x->Prop}{l:List α}{m:List x}(h:xo P l m):l.9=m.length:=qE h
theorem Ff(f:Flow es st g r)(C:EF es st)(F:st.9<=11){ks:List Pt}{vs:List D}(W:CF r ks vs)(hk:∀p,p∈ks↔Rch r p)(q:tO g∉ks){cs ds:List (LS)}(Y:xo (λs c=>Run r g s c g) (nY r) cs)(j:ds.Perm cs){cut:LS}(w:cut.Perm (bO ks))(sc:ai cut=kf):Good es st g ds cut:=by
 let#[J,I]:=IM f (Tu f) (mY f) Y;let#[P,O]:=UK f;have N:=DV f W.nd hk q;have M:(bO ks).9=(ks.filter (BH ks)).length:=by unfold bO;rw[QA]
 have L:=YN Y;have u:∀s,s∈bO ks↔tO s∈ks/\fR s∉ks:=λs=>by unfold bO;rw[QO];constructor;rintro⟨y,B,e⟩;let#[v,x]:=QX.mp B;let#[n,X,k]:=jE.mp x;subst X;have e:n=s:=e;subst e;exact#[v,k];rintro⟨v,x⟩;exact#[tO s,QX.mpr #[v,jE.mpr #[s,rfl,x]],rfl]
 have l:(bO ks).Nodup:=by unfold bO;refine WD _ (λa b h=>h) (wg (λ{a b} E hb A z=>?_) (W.nd.sublist (Q3 (p:=BH ks))));let#[n,G,_]:=jE.mp (QX.mp E).2;let#[m,X,_]:=jE.mp (QX.mp hb).2;subst G X;have z:n=m:=z;exact A (by rw[z])
 have K:=w.length_eq;refine#[λc hc=>?_,zZ j J,by rw[j.length_eq,K];omega,(),w.nodup_iff.mpr l,sc,λz=>q ((u g).mp (w.mem_iff.mp z)).1,?_,λs o=>?_];let#[s,o,i]:=I c (j.mem_iff.mp hc);have Z:=mY f s o;exact#[i.chn f Z,(i.nd f Z).1,i.ng];exact jg f hk q λn v x=>w.mem_iff.mpr ((u n).mpr #[v,x]);have v:=((u s).mp (w.mem_iff.mp o)).1;have x:=dB.mp (kJ f.toBase.dom f.toBase.bg ((hk _).mp v));rw[f.keys]at x;have k:=(A9 C x).1;simp only[pr,tO,QAY,qr,Qb]at k;exact k.1
end
def mT(es:VC)(st:LS)(g:Str)(r:Rm)(h:List (D×D))(o5 o6:Option Sl):xA:=[bD (.list (es.map pr)),bD (.tuple (st.map j0)),bD (.str g),oW (oB r),bD (.dict h),o5,o6]
section
variable{Ψ:PEv}{Z:PEnds}{es:VC}{st:LS}{g:Str}{r:Rm}
section
variable{q:PT}{h:List (D×D)}{o6:Option Sl}
theorem jAM(u:Ψ.sp "rooms_of"=SI)(z:Ψ.sp "points_reached"=vG)(y:es.9<=126)(x:st.9<=11)(k:∀ks vs,CF (kA es st g) ks vs->(∀p,p∈ks↔Rch (kA es st g) p)->pF Ψ q Z (mT es st g (kA es st g) (ZC ks vs) kv kv)) :
  pF Ψ (.seq (.own 3 (.call "rooms_of" %[.var 0,.var 1,.var 2|1])) (.seq (.set 4 (.call "points_reached" %[.var 3|1])) q)) Z [bD (.list (es.map pr)),bD (.tuple (st.map j0)),bD (.str g),kv,kv,kv,kv]:=by
 have ok:=BU (g:=g) y x;delta mT at k;simp![↓jA (md:=[]) u rfl rfl,↓jA (md:=[.bor]) z rfl rfl];refine#[_,_,_,rfl,#[y,x],?_];simp![↓eT,↓jA (md:=[.bor]) z rfl rfl];refine#[_,_,rfl,#[(.inl rfl),ok.dom,ok.bg,ok.sz.1],λks vs hc hk=>?_];simp![↓Cj];exact k ks vs hc hk
theorem jAL(w:Ψ.sp "points_reached"=vG)(i:Ψ.sp "lay_chain"=mR){ks:List Pt}{vs:List D}(v:(kA es st g).9<=1000)(a:EF es st)(f:Flow es st g r)(j:CF r ks vs)(b:tO g∈ks)
  (k:∀z x y,Flow es st g z->out es st g z XA=out es st g r XA+1->CF z x y->(∀p,p∈x↔Rch z p)->Z.nx (mT es st g z (ZC x y) kv kv)) :
  pF Ψ GC Z (mT es st g r (ZC ks vs) kv kv):=by
 delta mT at k ⊢;delta GC;simp![c8,↓iH (md:=[]) i rfl rfl,↓jA (md:=[.bor]) w rfl rfl];refine#[(),#[_,_,_,_,_,_,rfl,#[v,a,f,j,b],λz u e=>#[_,rfl,?_]]];simp![↓eT,↓jA (md:=[.bor]) w rfl rfl];refine#[_,_,rfl,#[(.inl rfl),u.toBase.dom,u.toBase.bg,(by rw[u.toBase.len];exact v)],λx y hc hk=>?_];simp![↓Cj];exact k z x y u e hc hk
theorem jAK(w:Ψ.va "BEGIN"=jr (pr XA)){o5:Option Sl}(o:(kA es st g).9<=1000)(f:Flow es st g r)(k:pF Ψ q Z (mT es st g r h (bD (.list ((nY r).map j0))) o6)) :
  pF Ψ (.seq (.set 5 (.comp [] ["point"] (.nm 0) .val %[.idx (.var 3) (.glo "BEGIN")|1] (.cmp .Gt (.idx (.idx (.var 4) (.var 0)) (.glo "BEGIN")) (.int 0)) (.idx (.var 0) (.int 0)))) q) Z (mT es st g r h o5 o6):=by
 have s:=f.toBase.inn XA;delta mT at k ⊢;simp![↓XI,↓jI w];refine kF f.toBase.bg ?_;simp![↓yc,↓O6];have m:((lk r XA).map λe=>pr e.1).map T.d=((lk r XA).map λe=>e.1).map λp=>T.d (pr p):=by rw[QR,QR];rfl
 rw[m];refine fA (λp=>T.d (pr p)) (λ(p:Pt)=>T.d (.str p.1)) (λy=>decide (0<rm r y XA)) ((lk r XA).map λe=>e.1) [] _ (λx b R z=>?_) (by show 0+((lk r XA).map λe=>e.1).9<=_;rw[QA];omega) ?_;let#[e,i,j]:=QO.mp b;have n:BI r XA x:=eB.mpr #[e.2,by rw[<- j];exact i];have u:BI r x XA:=(f.adj _ _).mpr (CB ((f.adj _ _).mp n));have a:Key r x:=by rw[dB,f.keys];exact aB ((f.adj _ _).mp u)
 let#[v,hv]:=u;have ev:rm r x XA=v:=by unfold rm;rw[hv];rfl
 rw[ev]at z;simp![↓XI,↓jI w];refine kF a ?_;simp![↓T2,↓jI w];refine yR hv ?_;simp![↓xL];by_cases d:0<v;rw[dT d]at z ⊢;exact z;rw[dF d]at z ⊢;exact z;rw[Qd,bA (λp:Pt=>j0 p.1)];have l:((((lk r XA).map λe=>e.1).filter λy=>decide (0<rm r y XA)).map λp=>j0 p.1)=(nY r).map j0:=by unfold nY jx;rw[QR];rfl
 rw[l];simp![↓yA];exact k
theorem jAJ(a:Ψ.sp "chain_from"=AI)(u:(kA es st g).9<=1000)(b:st.9<=11)(f:Flow es st g r)(k:∀cs,xo (λs c=>Run r g s c g) (nY r) cs->pF Ψ q Z (mT es st g r h (bD (.list ((nY r).map j0))) (bD (.list (cs.map jC))))) :
  pF Ψ (.seq (.set 6 (.comp [] ["first"] (.nm 0) .val %[.var 5|1] .nop (.call "chain_from" %[.var 4,.var 0,.var 3|1]))) q) Z (mT es st g r h (bD (.list ((nY r).map j0))) o6):=by
 have hl:=(UK f).2;delta mT at k ⊢;simp![↓yA];rw[<- bA j0 (nY r)];refine aH (λs c=>Run r g s c g) (λs=>T.d (.str s)) Yv (nY r) [] _ (λx z R w=>?_) (by show 0+(nY r).9<=_;omega) λcs v=>?_;simp![↓eT,↓jA (md:=[.bor]) a rfl rfl];refine#[_,_,_,_,_,rfl,#[u,f,(mY f x z)],λc y=>?_];simp![↓yA];exact w c y;rw[Qd];simp![↓jAh];exact k cs v
end
end
section
variable{es u:VC}{F sr z:LS}{x:Str}{n:Int}
noncomputable def II:PSp where
 run:=λy Q _=>∃(es:VC) (st:LS) (g:Str),y=[.d (.list (es.map pr)),.d (.tuple (st.map j0)),.d (.str g)]/\(es.9<=126/\st.9<=11/\EF es st)/\∀h cut,Good es st g h cut->Q (.tup [.lst ((h.map jC).map T.d),.lst ((cut.map j0).map T.d)]) []
theorem j9{Ψ:PEv}(S:Ψ.sp "rooms_of"=SI)(G:Ψ.sp "points_reached"=vG)(R:Ψ.sp "lay_chain"=mR)(P:Ψ.sp "chain_from"=AI)(C:Ψ.sp "full_names"=oR)(O:Ψ.va "BEGIN"=jr (pr XA))(ds Q E)(h:II.run ds Q E):jB0 Ψ OG II EG PF ds Q:=by
 let#[es,st,g,rfl,#[W,i,B],q]:=h;have K:kn=16777216:=qA;have j:(kA es st g).9<=1000:=(BU (g:=g) W i).sz.1;refine zA [bD (.list (es.map pr)),bD (.tuple (st.map j0)),bD (.str g),kv,kv,kv,kv] ?_;refine jAM S G W i λo w H M=>?_;have b0:=UK (Eh (es:=es) (st:=st) (g:=g));delta mT;simp![↓yA];refine FI (λm Y=>∃r v b,(m:Int)+out es st g r XA=12/\Flow es st g r/\CF r v b/\(∀p,p∈v↔Rch r p)/\Y=mT es st g r (ZC v b) kv kv) (12 - out es st g (kA es st g) XA).toNat #[kA es st g,o,w,(),Eh,H,M,rfl] ?_;rintro m Y ⟨r,v,b,em,f,y,hk,rfl⟩;have bd:=UK f;by_cases a:tO g∈v;have k:=λ(Z:PEnds) K=>jAL (Ψ:=Ψ) (Z:=Z) G R j B f y a K;unfold mT at k;delta mT;simp![c8,↓Ki y.len y.hb];refine#[(),?_];rw[dT a];refine k _ λI s l X e c' N=>#[m - 1,?_,I,s,l,?_,X,c',N,rfl]
 have:=UK X;omega;have:=UK X;omega;have A:pF Ψ %[.set 5 (.comp [] ["point"] (.nm 0) .val %[.idx (.var 3) (.glo "BEGIN")|1] (.cmp .Gt (.idx (.idx (.var 4) (.var 0)) (.glo "BEGIN")) (.int 0)) (.idx (.var 0) (.int 0))),.set 6 (.comp [] ["first"] (.nm 0) .val %[.var 5|1] .nop (.call "chain_from" %[.var 4,.var 0,.var 3|1])),.ret (.tup %[.bi .sorted %[.var 6|1],.call "full_names" %[.var 4|1]|1])|2] (eZ Q) (mT es st g r (ZC v b) kv kv):=by refine jAK O j f (jAJ P j i f λcs k=>?_);have lc:=YN k;have l3:=DV f y.nd hk a;delta mT;simp![↓jA (md:=[]) C rfl rfl];refine At () λds J=>?_;simp![↓jA (md:=[]) C rfl rfl];refine#[_,_,rfl,#[y.len,y.hb,(QW (y.le f.toBase.dom f.toBase.bg) (by rw[f.toBase.len];exact j)),()],λcut L sc=>?_];simp![tu];exact#[(),q ds cut (Ff f B i y hk a k J L sc)]
 unfold mT at A;delta mT;simp![c8,↓Ki y.len y.hb];refine#[(),?_];rw[dF a];exact A
def tF(es:VC)(F:LS):VC:=es.filter λe=>decide (e.1∈F)
theorem cD{e:Str×Str}:e∈tF es F↔e∈es/\e.1∈F:=by unfold tF;rw[QX,o2]
def cM(es:VC)(sr:LS)(x:Str)(F:LS)(n:Int):Prop:=∃h:List (LS),uK h/\(∀c∈h,Chn (tF es F) sr x c x)/\n<=(h.9:Int)
theorem Chn.sub{g:Str}(w:∀e∈es,e∈u)(v:∀s∈sr,s∈z){c:LS}{n:Str}(h:Chn es sr g c n):Chn u z g c n:=by
 induction h with|st a b=>exact .st (v _ a) b|go _ b c y=>exact .go y b (w _ c)
theorem cM.sub{w:LS}{v:Int}(j:∀e∈es,e∈u)(i:∀s∈sr,s∈z)(g:∀y∈F,y∈w)(k:v<=n)(h:cM es sr x F n):cM u z x w v:=by let#[p,a,c,l]:=h;refine#[p,a,λd f=>Chn.sub (λe b=>?_) i (c d f),QAS k l];let#[o,m]:=cD.mp b;exact cD.mpr #[j e o,g _ m]
theorem MN{cs:List (LS)}{cut:LS}(h:Good (tF es F) sr x cs cut):cM es sr x F n↔n<=(cs.9:Int):=by constructor;rintro⟨y,a,c,l⟩;have:=KQ a c h.led;rw[<- h.len]at this;exact QAS l (Int.ofNat_le.mpr this);exact λl=>#[cs,h.apart,λc hc=>(h.chn c hc).1,l]
inductive Held(es:VC)(sr:LS)(nd:List (Str×Int)):Str->Prop
 |see {x:Str}{n:Int}:(x,n)∈nd->x∈sr->Held es sr nd x
 |tell {x:Str}{n:Int}(F:LS):(x,n)∈nd->(∀y∈F,Held es sr nd y)->cM es sr x F n->Held es sr nd x
end
section
variable{es v:VC}{sr y:LS}{nd u:List (Str×Int)}
theorem eV{S:LS}(f:∀x∈S,Held es sr nd x)(e:∀x n,(x,n)∈nd->x∈sr->x∈S)(k:∀x n,(x,n)∈nd->x∉S->¬ cM es sr x S n)(x:Str):x∈S↔Held es sr nd x:=by
 refine#[f x,λh=>?_];induction h with|see a b=>exact e _ _ a b|@tell x n F a _ m w=>by_cases z:x∈S;exact z;exact i3 (m.sub (λ_ h=>h) (λ_ h=>h) w (QAw _)) (k x n a z)
theorem Held.sub(j:∀e∈es,e∈v)(g:∀s∈sr,s∈y)(f:∀x n,(x,n)∈nd->∃w,w<=n/\(x,w)∈u){x:Str}(h:Held es sr nd x):Held v y u x:=by
 induction h with|see a b=>let#[w,_,m]:=f _ _ a;exact .see m (g _ b)|tell F a _ m i=>let#[w,l,k]:=f _ _ a;exact .tell F k i (m.sub j g (λ_ z=>z) l)
theorem oM{x:Str}(h:Held es sr nd x):∃n,(x,n)∈nd:=by
 cases h with|see a _=>exact#[_,a]|tell _ a=>exact#[_,a]
end
def NI(b:Bool)(l:List D):D:=if b then .tuple l else .list l
theorem Ex{b:Bool}{l:List D}{n:Bool}{W:LT->Prop}:bK .val [(.d (NI b l),n)] W=W (l.map T.d):=by
 cases b with|true=>exact Ax|false=>exact Hw
noncomputable def OD:PSp where
 md:=[.fro,.fro,.shal]
 run:=λz Q _=>∃(tb:Bool) (x:VC) (h F:LS) (g:Str),z=[.d (NI tb (x.map pr)),.d (.tuple (h.map j0)),.lst ((F.map j0).map T.d),.d (.str g)]/\(x.9<=126/\h.9<=11/\EF x h)/\∀y cut,Good (tF x F) h g y cut->Q (.tup [.lst ((y.map jC).map T.d),.lst ((cut.map j0).map T.d)]) []
theorem Ve{Ψ:PEv}(w:Ψ.sp "apart_chains"=II):EC Ψ UD OD SG NF:=by
 rintro _ Q _ ⟨tb,h,u,F,g,rfl,⟨b,a,v⟩,q⟩;have k:(tF h F).9<=126:=QW (Qw _ _) b;have z:EF (tF h F) u:=#[v.1,λe f=>v.2 e (cD.mp f).1]
 refine zA [bD (NI tb (h.map pr)),bD (.tuple (u.map j0)),jr (.bor (.lst ((F.map j0).map T.d))),bD (.str g)] ?_;delta UD;simp![↓Ex,↓jA (md:=[]) w rfl rfl];rw[<- bA pr h];refine fA (λp=>T.d (pr p)) (λ(p:Str×Str)=>T.d (pr p)) (λp=>decide (p.1∈F)) h [] _ (λx l R y=>?_) (by show 0+h.9<=_;omega) ?_;simp![↓xL,lD,sC,xB,true_or];by_cases d:x.1∈F;rw[dT d]at y ⊢;exact y;rw[dF d]at y ⊢;exact y;rw[Qd,bA pr];simp![↓jA (md:=[]) w rfl rfl];refine#[_,_,_,rfl,#[k,a,z],λj cut i=>?_];simp![↓yA];exact q j cut i
section
variable{Ψ:PEv}{E:XE}{ρ:xA}{K:TK}{a b c h:PX}{ds:List D}{n m:Bool}{L:Bool->Prop}
def Xs(x:T)(n:Bool)(Ψ:PEv)(b:PX)(E:XE)(ρ:xA)(K:TK):Prop:=sq (α:=Option Int) (nA x n) ρ (λρ R=>(pe Ψ b E).e ρ λu _ y=>lG u.er λo=>R o y) λu y=>oK (nA x n).vw kv u λz k=>K z k y
def dQ(x:T)(Q:Option Int->Prop):Prop:=lG x.er Q
theorem Vd{i:Int}{Q:Option Int->Prop}:dQ (.d (.int i)) Q=Q (jr i):=rfl
theorem Lk{x:T}{R:Option Int->xA->Prop}:sq (α:=Option Int) x ρ (λρ (R:Option Int->xA->Prop)=>R kv ρ) R=R kv ρ:=by unfold sq;split<;>rfl
theorem mq{j:Nat}:zB Ψ (.slc a .nop (.var j)) E ρ K=zB Ψ a E ρ λx n v=>Xs x n Ψ (.var j) E v K:=by show(pe Ψ a E).e ρ (λx n v=>sq (α:=Option Int) (nA x n) v (λρ (R:Option Int->xA->Prop)=>R kv ρ) λl w=>sq (α:=Option Int) (nA x n) w (λρ R=>(pe Ψ (.var j) E).e ρ λu _ y=>lG u.er λo=>R o y) λu y=>oK (nA x n).vw l u λz k=>K z k y)=_;simp only[Lk];rfl
theorem jAn{x:D}:Xs (.d x) n Ψ b E ρ K=zB Ψ b E ρ λu _ y=>dQ u λo=>PL (.d x) n kv o λz k=>K z k y:=by cases n<;>rfl
theorem M1(a b:List D):(T.tup [.lst (a.map T.d),.lst (b.map T.d)]).er=.tuple [.list a,.list b]:=by show PyData.tuple [.list (ersT (a.map T.d)),.list (ersT (b.map T.d))]=_;rw[UA,UA]
theorem vk{a b:List D}{m:Bool}{t:T}{R:T->Prop}:KA (.tup [.lst (a.map T.d),.lst (b.map T.d)]) kf t m R=KA (.d (.tuple [.list a,.list b])) kd t m R:=by
 have e:nA (.tup [.lst (a.map T.d),.lst (b.map T.d)]) kf=.d (.tuple [.list a,.list b]):=by show T.d (T.tup [.lst (a.map T.d),.lst (b.map T.d)]).er=_;rw[M1]
 unfold KA;rw[e];rfl
end
section
variable{Ψ:PEv}{E:XE}{ρ:xA}{a c h:PX}{W:LT->Prop}{R:Option T->Prop}{C:LT->Prop}{xs:List (T×Bool)}{ds:List D}{n m:Bool}
section
variable{md:List Md}{ts:LT}{b:Bool}{t u:Str}
theorem OA{v:PX}{M:List (T×Bool)->xA->Prop}:AL Ψ (.acons a v) E (.fro::md) ρ M=zB Ψ a E ρ λx n z=>n6 x n Ψ v E md z λxs y=>M ((x,n)::xs) y:=rfl
theorem nW{d:D}:LA (.fro::md) ((.d d,n)::xs) C=LA md xs λts=>C (.d d::ts):=by
 have e:sA (.fro::md) ((.d d,n)::xs) []=(sA md xs []).map (.d d::·):=by cases n<;>rfl
 unfold LA;rw[e,IC]
theorem Yr:bK .val [(.lst ts,kd)] W=W ts:=by unfold bK TB;exact YJ ts
theorem Mv{m:List Bool}{x y:D}{v:dy}:ZG Ψ E (b::m) [t,u] (.tp [0,1]) (.cmp v a c) h ρ (.d (.tuple [x,y])) R=vP Ψ (.cmp v a c) E (bD x::bD y::nC (b::m) (lockA ρ)) λk z=>if k=kf then zB Ψ h E z λy n _=>fC y n (R (jr y)) else R none:=GA
theorem jAQ{m:List Bool}{x y:T}:ZG Ψ E (b::m) [t,u] (.tp [0,1]) .nop h ρ (.tup [x,y]) R=zB Ψ h E (jr (.bor x)::jr (.bor y)::nC (b::m) (lockA ρ)) λy n _=>fC y n (R (jr y)):=GA
theorem jBO:ON ((.lst [],kf)::xs) C=ON xs λts=>C (.lst []::ts):=jAe (ds:=[])
theorem ou{d:D}:KC [.d d,.lst ts]=.tup [.d d,.lst ts]:=rfl
theorem Vp{i j:Int}{L:Bool->Prop}:PB .GtE (.d (.int i)) (.d (.int j)) L=L (decide (j<=i)):=rfl
end
end
noncomputable abbrev Rw:=Str×List (LS)
noncomputable def uG(r:Rw):T:=.tup [.d (.str r.1),.lst ((r.2.map jC).map T.d)]
def yM(p:Str×Int):D:=.tuple [.str p.1,.int p.2]
def V5(x:D)(sr:LS)(nd:List (Str×Int))(h:List Rw)(F:LS)(b:Bool)(o6 o7 o8:Option Sl):xA:=[bD (x),bD (.tuple (sr.map j0)),bD (.list (nd.map yM)),oW (.lst (h.map uG)),oW (.lst ((F.map j0).map T.d)),bD (.bool b),o6,o7,o8]
section
variable{Ψ:PEv}{Z:PEnds}{tb:Bool}{es:VC}{sr:LS}{nd:List (Str×Int)}{q:PT}
section
variable{o5 o6 o7 o8:Option Sl}{h:List Rw}
noncomputable def mU(sr:LS)(nd:List (Str×Int)):List Rw:=(nd.filter λp=>decide (p.1∈sr)).map λp=>(p.1,[])
theorem Dz(hl:nd.9<=100){o4:Option Sl}(k:pF Ψ q Z [bD (NI tb (es.map pr)),bD (.tuple (sr.map j0)),bD (.list (nd.map yM)),oW (.lst ((mU sr nd).map uG)),o4,o5,o6,o7,o8]) :
  pF Ψ (.seq (.own 3 (.comp [kd,kd,kd,kd,kd,kd,kf,kf] ["name","number"] (.tp [0,1]) .val %[.var 2|1] (.cmp .In (.var 0) (.var 3)) (.tup %[.var 0,.lst .anil|1]))) q) Z [bD (NI tb (es.map pr)),bD (.tuple (sr.map j0)),bD (.list (nd.map yM)),kv,o4,o5,o6,o7,o8]:=by
 simp![↓yA];rw[<- bA yM nd];refine fA (λp=>T.d (yM p)) (λ(p:Str×Int)=>uG (p.1,[])) (λp=>decide (p.1∈sr)) nd [] _ (λx z R y=>?_) (by show 0+nd.9<=_;omega) ?_;let#[x,n]:=x;delta yM;simp![↓Mv,lD,sC,xB,true_or];by_cases d:x∈sr;rw[dT d]at y ⊢;simp![↓jBO,↓ou];exact#[(),(),y];rw[dF d]at y ⊢;exact y;rw[Qd];have e:(nd.filter λp=>decide (p.1∈sr)).map (λp=>uG (p.1,[]))=(mU sr nd).map uG:=by unfold mU;rw[QR];rfl
 rw[e];exact k
theorem Cz(hl:h.9<=100)(k:pF Ψ q Z [bD (NI tb (es.map pr)),bD (.tuple (sr.map j0)),bD (.list (nd.map yM)),oW (.lst (h.map uG)),oW (.lst (((h.map λr=>r.1).map j0).map T.d)),o5,o6,o7,o8]) :
  pF Ψ (.seq (.own 4 (.comp [kd,kd,kd,kd,kd,kd,kf,kd,kf] ["name","chains"] (.tp [0,1]) .val %[.var 3|1] .nop (.var 0))) q) Z [bD (NI tb (es.map pr)),bD (.tuple (sr.map j0)),bD (.list (nd.map yM)),oW (.lst (h.map uG)),kv,o5,o6,o7,o8]:=by
 simp![↓Yr];refine CA uG (λr=>T.d (.str r.1)) h [] _ (λx z R y=>?_) (by show 0+h.9<=_;omega) ?_;delta uG;simp![↓jAQ];exact y;rw[Qd,bA (λr:Rw=>j0 r.1)];have e:(h.map λr=>j0 r.1)=(h.map λr=>r.1).map j0:=by rw[QR];rfl
 rw[e];exact k
theorem Bz(f:Ψ.sp "told_through"=OD){F:LS}{b:Bool}{x:Str}{n:Int}(a:es.9<=126)(k:sr.9<=11)(e:EF es sr)(j:h.9<=100)(i:F.9<=100)
  (w:x∈F->∀o8,Z.nx (V5 (NI tb (es.map pr)) sr nd h F b (bD (.str x)) (bD (.int n)) o8))
  (v:x∉F->¬ cM es sr x F n->∀o8,Z.nx (V5 (NI tb (es.map pr)) sr nd h F b (bD (.str x)) (bD (.int n)) o8))
  (u:x∉F->cM es sr x F n->∀cs o8,Z.nx (V5 (NI tb (es.map pr)) sr nd (h++[(x,cs)]) (F++[x]) kf (bD (.str x)) (bD (.int n)) o8)) :
  pF Ψ FC Z (V5 (NI tb (es.map pr)) sr nd h F b (bD (.str x)) (bD (.int n)) o8):=by
 delta V5 at w v u ⊢;delta FC;simp![lD,sC,xB,true_or];by_cases d:x∈F;rw[dT d];exact w d _;rw[dF d];simp![↓OA,↓nW,↓jA (md:=[.fro,.fro,.shal]) f rfl rfl];refine#[_,_,_,_,_,rfl,#[a,k,e],λcs cut g=>?_];have y:=MN (n:=n) g;simp![↓vk,↓cT,↓Vp,QA];by_cases c:n<=(cs.9:Int);rw[dT c];simp![↓mq,↓jAn,↓Vd,↓ou];rw[Y2];refine#[(),(),by rw[QA,QA];omega,?_];have:=u d (y.mpr c) (FJ cs kv (jr n)) (bD (.list (cs.map jC)));rw[QT,QT,QT]at this;exact this;rw[dF c];exact v d (λz=>c (y.mp z)) _
end
end
structure GI(es:VC)(sr:LS)(nd:List (Str×Int))(rs:List Rw)(F:LS):Prop where
 e:F=rs.map λr=>r.1
 ndp:F.Nodup
 held:∀x∈F,Held es sr nd x
 see:∀x n,(x,n)∈nd->x∈sr->x∈F
 non:∀r∈rs,r.1∈sr->r.2=[]
section
variable{es:VC}{sr:LS}{nd:List (Str×Int)}{u:List Rw}{F:LS}
theorem GI.len(g:GI es sr nd u F):F.9<=nd.length:=by
 have:=BN (ns:=nd.map λp=>p.1) g.ndp λs x=>by let#[n,h]:=oM (g.held s x);exact QO.mpr #[_,h,rfl]
 rw[QA]at this;exact this
theorem GI.rlen(g:GI es sr nd u F):u.9=F.length:=by rw[g.e,QA]
theorem Xz(h:(nd.map λp=>p.1).Nodup):GI es sr nd (mU sr nd) ((mU sr nd).map λr=>r.1):=by
 have e:((mU sr nd).map λr=>r.1)=(nd.filter λp=>decide (p.1∈sr)).map λp=>p.1:=by unfold mU;rw[QR];rfl
 refine#[rfl,?_,λx y=>?_,λx n y v=>?_,λr z _=>?_];rw[e];exact h.sublist (Q3.map _);rw[e]at y;let#[p,w,rfl]:=QO.mp y;let#[a,k]:=QX.mp w;exact .see (n:=p.2) a (oa k);rw[e];exact QO.mpr #[(x,n),QX.mpr #[y,dT v],rfl];unfold mU at z;let#[p,_,rfl]:=QO.mp z;rfl
theorem GI.add(g:GI es sr nd u F){x:Str}{n:Int}(w:(x,n)∈nd)(f:x∉F)(m:cM es sr x F n)(cs:List (LS)):GI es sr nd (u++[(x,cs)]) (F++[x]):=by
 refine#[by rw[QT,<- g.e];rfl,qT.mpr #[g.ndp,Qj.mpr #[λz=>(nomatch z),Qx],λa j b hb e=>?_],λy v=>?_,λy k v h=>Ql _ (g.see y k v h),λr i h=>?_];rw[QI.mp hb]at e;exact f (e▸j);rcases Qf.mp v with z|z
 ·exact g.held y z
 rw[QI.mp z];exact .tell F w g.held m;rcases Qf.mp i with z|z
 ·exact g.non r z h
 rw[QI.mp z]at h;exact i3 (g.see x n w h) f
end
def VE:PSp where
 run:=λu Q _=>∃(tb:Bool) (y:VC) (h:LS) (nd:List (Str×Int)),u=[.d (NI tb (y.map pr)),.d (.tuple (h.map j0)),.d (.list (nd.map yM))]/\(y.9<=126/\h.9<=11/\EF y h/\nd.9<=90/\(nd.map λp=>p.1).Nodup)/\∀z F,GI y h nd z F->(∀x,x∈F↔Held y h nd x)->Q (.lst (z.map uG)) []
theorem yQ{tb:Bool}{es:VC}{sr:LS}{nd:List (Str×Int)}{K:T->LT->Prop}{E:XE}(l:es.9<=126/\sr.9<=11/\EF es sr/\nd.9<=90/\(nd.map λp=>p.1).Nodup)(q:∀h F,GI es sr nd h F->(∀x,x∈F↔Held es sr nd x)->K (.lst (h.map uG)) []):RL VE [.d (NI tb (es.map pr)),.d (.tuple (sr.map j0)),.d (.list (nd.map yM))] K E:=#[tb,es,sr,nd,rfl,l,q]
section
variable{Ψ:PEv}{Z:PEnds}{tb:Bool}{es:VC}{sr:LS}{nd:List (Str×Int)}{u:List Rw}{F:LS}
theorem Uz(L:Ψ.sp "told_through"=OD)(G:es.9<=126)(E:sr.9<=11)(J:EF es sr)(O:nd.9<=90){b:Bool}{o6 o7 o8:Option Sl}(g:GI es sr nd u F)
  (k:∀v w a o6 o7 o8,GI es sr nd v w->F.9<=w.9->(a=kf->F.9<w.9)->(a=kd->∀x n,(x,n)∈nd->x∉w->¬ cM es sr x w n)->Z.nx (V5 (NI tb (es.map pr)) sr nd v w a o6 o7 o8)) :
  pF Ψ CC Z (V5 (NI tb (es.map pr)) sr nd u F b o6 o7 o8):=by
 delta V5;delta CC;simp![↓yA];rw[<- bA yM nd];refine RA (λ(p:Str×Int)=>T.d (yM p)) (λl r=>∃v w a o6 o7 o8,GI es sr nd v w/\(∀p∈l,p∈nd)/\F.9<=w.9/\(a=kf->F.9<w.9)/\(a=kd->∀x n,(x,n)∈nd->(x,n)∈l∨x∈w∨¬ cM es sr x w n)/\r=V5 (NI tb (es.map pr)) sr nd v w a o6 o7 o8) ?_ ?_ _ _ #[u,F,kd,_,_,_,g,λ_ z=>z,QY _,λz=>(nomatch z),λ_ x n h=>.inl h,rfl];rintro r ⟨v,w,a,B,A,K,f,_,q,o,j,rfl⟩;exact k v w a _ _ _ f q o λhb x n Y i=>((j hb x n Y).resolve_left λz=>(nomatch z)).resolve_left i;rintro⟨x,n⟩ l r N W ⟨v,w,a,B,A,K,f,m,q,o,j,rfl⟩;have Y:=m _ QE;have s:∀p∈l,p∈nd:=λp I=>m p (QF _ I);have Q:=f.len;have P:=f.rlen;refine bF.mk rfl ?_;refine Bz (x:=x) (n:=n) L G E J () () (λi o8=>W _ #[v,w,a,_,_,_,f,s,q,o,λhb y k X=>?_,rfl]) (λi nm o8=>W _ #[v,w,a,_,_,_,f,s,q,o,λhb y k X=>?_,rfl]) λi C M o8=>W _ #[_,_,kf,_,_,_,f.add Y i C M,s,?_,λ_=>?_,λz=>(nomatch z),rfl];rcases j hb y k X with z|z
 ·rcases QK.mp z with e|z
  ·cases e
   exact .inr (.inl i)
  exact .inl z
 exact .inr z;rcases j hb y k X with z|z
 ·rcases QK.mp z with e|z
  ·cases e
   exact .inr (.inr nm)
  exact .inl z
 exact .inr z;rw[QJ,Q5];omega;rw[QJ,Q5];omega
end
theorem y9{Ψ:PEv}(p:Ψ.sp "told_through"=OD):EC Ψ MG VE AG OF:=by
 rintro _ Q _ ⟨tb,es,sr,nd,rfl,⟨i,f,l,e,o⟩,q⟩;refine zA [bD (NI tb (es.map pr)),bD (.tuple (sr.map j0)),bD (.list (nd.map yM)),kv,kv,kv,kv,kv,kv] ?_;have g0:=Xz (es:=es) (sr:=sr) o;have K:=g0.len;have W:=g0.rlen;refine Dz () (Cz () ?_);simp![↓yA];refine FI (λm u=>∃h F b o6 o7 o8,m=2 * (nd.9 - F.9)+(if b=kf then 1 else 0)/\GI es sr nd h F/\(b=kd->∀x n,(x,n)∈nd->x∉F->¬ cM es sr x F n)/\u=V5 (NI tb (es.map pr)) sr nd h F b o6 o7 o8) _ #[_,_,kf,kv,kv,kv,rfl,g0,λz=>(nomatch z),rfl] ?_;rintro m u ⟨h,F,b,o6,o7,o8,k,g,r,rfl⟩;cases b with
 |true =>
  have v:=λ(Z:PEnds) j=>Uz (Ψ:=Ψ) (Z:=Z) (tb:=tb) (b:=kf) (o6:=o6) (o7:=o7) (o8:=o8) p i f l e g j;unfold V5 at v;delta V5;simp![↓yA];refine v _ λy Y a o6 o7 o8 w A X s=>#[_,?_,y,Y,a,o6,o7,o8,rfl,w,s,rfl]
  have:=w.len;cases a with|true=>have:=X rfl;rw[k,i0 rfl];omega|false=>rw[k,i0 rfl,ii QG];omega
 |false=>delta V5;simp![↓yA];exact q h F g λx=>eV g.held g.see (r rfl) x
noncomputable def dH(p:Str×Int×Int×Int):D:=.tuple [.str p.1,.int p.2.1,.int p.2.2.1,.int p.2.2.2]
inductive Evt where
 |see (t:Int) (p m w:Str)|tell (t:Int) (a b m w:Str) (by_:LS)
noncomputable def VD:Evt->D
 | .see t p m w=>.tuple [.str "see",.int t,.str p,.str m,.str w]|.tell t a b m w q=>.tuple [.str "tell",.int t,.str a,.str b,.str m,.str w,.tuple (q.map j0)]
structure Wd where
 ps:List (Str×Int×Int×Int)
 ms:LS
 ag:VC
 es:List Evt
def wD(w:Wd):D:=.tuple [.list (w.ps.map dH),.list (w.ms.map j0),.list (w.ag.map pr),.list (w.es.map VD)]
section
variable{w:Wd}{p:Str×Int×Int×Int}{n m:Bool}{R:T->Prop}
theorem aA{ds:List D}{i:Nat}{d:D}(h:ds[i]?=jr d):KA (.d (.tuple ds)) n (.d (.int (i:Int))) m R=R (.d d):=by rw[DW,show vD ds (i:Int)=jr d from FF h,GA]
theorem DT:KA (.d (wD w)) n (.d (.int 0)) m R=R (.d (.list (w.ps.map dH))):=aA (i:=0) rfl
theorem CW:KA (.d (wD w)) n (.d (.int 1)) m R=R (.d (.list (w.ms.map j0))):=aA (i:=1) rfl
theorem Jx:KA (.d (wD w)) n (.d (.int 2)) m R=R (.d (.list (w.ag.map pr))):=aA (i:=2) rfl
theorem jR:KA (.d (wD w)) n (.d (.int 3)) m R=R (.d (.list (w.es.map VD))):=aA (i:=3) rfl
theorem x3:KA (.d (dH p)) n (.d (.int 0)) m R=R (.d (.str p.1)):=aA (i:=0) rfl
theorem Dx:KA (.d (dH p)) n (.d (.int 1)) m R=R (.d (.int p.2.1)):=aA (i:=1) rfl
theorem Bx:KA (.d (dH p)) n (.d (.int 2)) m R=R (.d (.int p.2.2.1)):=aA (i:=2) rfl
theorem Sq:KA (.d (dH p)) n (.d (.int 3)) m R=R (.d (.int p.2.2.2)):=aA (i:=3) rfl
end
def HA(w:Wd):List (Str×Int):=w.ps.map λp=>(p.1,p.2.2.2)
def OM:PSp where
 run:=λh Q _=>∃w:Wd,h=[.d (wD w)]/\w.ps.9<=90/\Q (.lst (((HA w).map yM).map T.d)) []
theorem Um{Ψ:PEv}:EC Ψ aI OM GO gL:=by
 rintro _ Q _ ⟨w,rfl,l,q⟩;refine zA [bD (wD w)] ?_;delta aI;simp![↓DT];rw[<- bA dH];refine CA (λp=>T.d (dH p)) (λp=>T.d (yM (p.1,p.2.2.2))) w.ps [] _ (λx y R h=>?_) (by show 0+w.ps.9<=_;omega) ?_;simp![↓x3,↓Sq];exact#[(),h];rw[Qd,bA λp:Str×Int×Int×Int=>yM (p.1,p.2.2.2)];have e:(w.ps.map λp=>yM (p.1,p.2.2.2))=(HA w).map yM:=by unfold HA;rw[QR];rfl
 rw[e];exact q
noncomputable def xE(es:VC)(sr:LS):D:=.tuple [.tuple (sr.map j0),.tuple (es.map pr)]
noncomputable def NT(tb:Bool)(es:VC)(sr:LS):D:=.tuple [.tuple (sr.map j0),NI tb (es.map pr)]
section
variable{es:VC}{sr:LS}{n m:Bool}{R:T->Prop}
theorem gk{tb:Bool}:KA (.d (NT tb es sr)) n (.d (.int 0)) m R=R (.d (.tuple (sr.map j0))):=aA (i:=0) rfl
theorem ck{tb:Bool}:KA (.d (NT tb es sr)) n (.d (.int 1)) m R=R (.d (NI tb (es.map pr))):=aA (i:=1) rfl
theorem Iq:KA (.d (xE es sr)) n (.d (.int 0)) m R=R (.d (.tuple (sr.map j0))):=aA (i:=0) rfl
theorem Aq:KA (.d (xE es sr)) n (.d (.int 1)) m R=R (.d (.tuple (es.map pr))):=aA (i:=1) rfl
end
def xF:PSp where
 run:=λz Q _=>∃(w:Wd) (tb:Bool) (y:VC) (h:LS),z=[.d (wD w),.d (NT tb y h)]/\(y.9<=126/\h.9<=11/\EF y h/\w.ps.9<=90/\(w.ps.map λp=>p.1).Nodup)/\∀l:LS,(∀x,x∈l↔Held y h (HA w) x)->l.9<=90->Q (.lst ((l.map j0).map T.d)) []
theorem Jr{ts:LT}{W:LT->Prop}:bK .val [(.lst ts,kf)] W=W ((ersT ts).map T.d):=YJ _
theorem Ho(r:Rw):(uG r).er=.tuple [.str r.1,.list (ersT ((r.2.map jC).map T.d))]:=rfl
theorem Fe{Ψ:PEv}(l:Ψ.sp "ground_alone"=VE)(j:Ψ.sp "needs_of"=OM):EC Ψ XF xF IJ MH:=by
 rintro _ Q _ ⟨w,tb,m,z,rfl,⟨a,k,b,y,nd⟩,q⟩;have v:(HA w).9<=90:=by unfold HA;rw[QA];exact y
 have u:((HA w).map λp=>p.1).Nodup:=by unfold HA;rw[QR];exact nd
 refine zA [bD (wD w),bD (NT tb m z)] ?_;delta XF;simp![↓gk,↓ck,↓jA (md:=[]) l rfl rfl,↓jA (md:=[]) j rfl rfl];refine#[_,rfl,y,?_];simp![↓yA];refine yQ #[a,k,b,v,u] λh F g i=>?_;rw[Jr];have fl:=g.len;have rl:h.9=F.length:=by rw[g.e,QA]
 rw[BJ,QR,QR];refine#[rfl,?_];refine CA (λr=>T.d (uG r).er) (λr=>T.d (.str r.1)) h [] _ (λx n R f=>?_) (by show 0+h.9<=_;omega) ?_;rw[Ho];simp![↓yA];exact f;rw[Qd,bA (λr:Rw=>j0 r.1)];have e:(h.map λr=>j0 r.1)=F.map j0:=by rw[g.e,QR];rfl
 rw[e];exact q F i ()
noncomputable def uB(evs:List Evt)(n:Nat):Evt:=(evs[n]?).getD (.see 0 "" "" "")
def HD(e:Evt):Prop:=∃t a b m w q,e=.tell t a b m w q
def Ju:Evt->Str
 | .see _ _ m _=>m|.tell _ _ _ m _ _=>m
noncomputable def TJ:Evt->Str×Str
 | .see _ p m _=>(p,m)|.tell _ a b _ _ _=>(a,b)
def nD(n:Nat):D:=.int (n:Int)
theorem GW{evs:List Evt}{i:Nat}{n m:Bool}{R:T->Prop}(h:i<evs.9):KA (.d (.list (evs.map VD))) n (.d (nD i)) m R=R (.d (VD (uB evs i))):=by delta nD;rw[Uc,show vD (evs.map VD) (i:Int)=jr (VD (uB evs i)) from FF (by rw[Qc,Qk h];unfold uB;rw[Qk h];rfl),GA]
section
variable{e:Evt}{n m:Bool}{R:T->Prop}
theorem Dg(h:HD e):KA (.d (VD e)) n (.d (.int 2)) m R=R (.d (.str (TJ e).1)):=by let#[t,a,b,x,w,q,rfl]:=h;exact aA (i:=2) rfl
theorem Cg(h:HD e):KA (.d (VD e)) n (.d (.int 3)) m R=R (.d (.str (TJ e).2)):=by let#[t,a,b,x,w,q,rfl]:=h;exact aA (i:=3) rfl
theorem Nq(h:HD e):KA (.d (VD e)) n (.d (.int 4)) m R=R (.d (.str (Ju e))):=by let#[t,a,b,x,w,q,rfl]:=h;exact aA (i:=4) rfl
end
section
variable{Ψ:PEv}{ks:List Pt}{L:Bool->Prop}
theorem Bh{ds:List D}{Q:T->Bool->Prop}:eM .tuple [(.lst (ds.map T.d),kf)] Q=Q (.d (.tuple ds)) false:=by unfold eM TB;show E5 .tuple [.ls ((ersT (ds.map T.d)).map T.d)] Q=_;rw[UA,Di];exact ot #[λ#[_,e,q]=>by rw[rA]at e;cases e;exact q,λq=>#[_,rA _,q]]
def UH(evs:List Evt)(h:LN)(m:Str):VC:=(h.filter λn=>decide (Ju (uB evs n)=m)).map λn=>TJ (uB evs n)
def SM:PSp where
 run:=λy Q _=>∃(h:List Evt) (x:LN) (m:Str),y=[.d (.list (h.map VD)),.d (.list (x.map nD)),.d (.str m)]/\x.9<=100/\(∀n∈x,n<h.9/\HD (uB h n))/\Q (.d (.tuple ((UH h x m).map pr))) []
theorem yn:EC Ψ YI SM RO aL:=by
 rintro _ Q _ ⟨h,y,m,rfl,l,a,q⟩;refine zA [bD (.list (h.map VD)),bD (.list (y.map nD)),bD (.str m),kv] ?_;delta YI;simp![↓yA];rw[<- bA nD];refine fA (λn=>T.d (nD n)) (λn=>T.d (VD (uB h n))) (λn=>decide (Ju (uB h n)=m)) y [] _ (λx v R u=>?_) (by show 0+y.9<=_;omega) ?_;simp![↓GW (a x v).1,↓Nq (a x v).2];split at u;rename_i c;rw[i0 c];exact u;rename_i c;rw[ii c];exact u;rw[Qd,bA λn=>VD (uB h n)];simp![↓yA];rw[<- bA λn=>VD (uB h n)];refine CA (λn=>T.d (VD (uB h n))) (λn=>T.d (pr (TJ (uB h n)))) _ [] _ (λx v R u=>?_) (by show 0+(List.filter _ y).9<=_;have:=Qw (λn=>decide (Ju (uB h n)=m)) y;omega) ?_;have z:=(QX.mp v).1;simp![↓Dg (a x z).2,↓Cg (a x z).2];exact#[(),u];rw[Qd,bA λn=>pr (TJ (uB h n)),Bh];have e:((y.filter λn=>decide (Ju (uB h n)=m)).map λn=>pr (TJ (uB h n)))=(UH h y m).map pr:=by unfold UH;rw[QR];rfl
 rw[e];simp![↓yA];exact q
noncomputable def cL(w:Wd)(x:Str):LJ:=(w.ps.filter λp=>decide (p.1=x)).map λp=>p.2.1
def dR:PSp where
 run:=λh Q _=>∃(w:Wd) (x:Str) (r:Int),h=[.d (wD w),.d (.str x)]/\w.ps.9<=90/\(cL w x)[0]?=jr r/\Q (.d (.int r)) []
theorem Be:EC Ψ GK dR HQ cN:=by
 rintro _ Q _ ⟨w,x,r,rfl,l,a,q⟩;refine zA [bD (wD w),bD (.str x)] ?_;delta GK;simp![↓DT];rw[<- bA dH];refine fA (λp=>T.d (dH p)) (λp=>T.d (.int p.2.1)) (λp=>decide (p.1=x)) w.ps [] _ (λp z R h=>?_) (by show 0+w.ps.9<=_;omega) ?_;simp![↓x3,↓Dx];split at h;rename_i c;rw[i0 c];exact h;rename_i c;rw[ii c];exact h;rw[Qd,bA λp:Str×Int×Int×Int=>j1 p.2.1];have e:((w.ps.filter λp=>decide (p.1=x)).map λp=>j1 p.2.1)=(cL w x).map j1:=by unfold cL;rw[QR];rfl
 rw[e];have y:vD ((cL w x).map j1) 0=jr (.int r):=FF (j:=0) (by rw[Qc,a];rfl);simp![y];exact q
noncomputable def iG(w:Wd)(x:Str):LJ:=(w.ps.filter λp=>decide (p.1=x)).map λp=>p.2.2.1
def RM:PSp where
 run:=λh Q _=>∃(w:Wd) (x:Str) (r:Int),h=[.d (wD w),.d (.str x)]/\w.ps.9<=90/\(iG w x)[0]?=jr r/\Q (.d (.int r)) []
theorem A8:EC Ψ JI RM OO tL:=by
 rintro _ Q _ ⟨w,x,r,rfl,l,a,q⟩;refine zA [bD (wD w),bD (.str x)] ?_;delta JI;simp![↓DT];rw[<- bA dH];refine fA (λp=>T.d (dH p)) (λp=>T.d (.int p.2.2.1)) (λp=>decide (p.1=x)) w.ps [] _ (λp z R h=>?_) (by show 0+w.ps.9<=_;omega) ?_;simp![↓x3,↓Bx];split at h;rename_i c;rw[i0 c];exact h;rename_i c;rw[ii c];exact h;rw[Qd,bA λp:Str×Int×Int×Int=>j1 p.2.2.1];have e:((w.ps.filter λp=>decide (p.1=x)).map λp=>j1 p.2.2.1)=(iG w x).map j1:=by unfold iG;rw[QR];rfl
 rw[e];have y:vD ((iG w x).map j1) 0=jr (.int r):=FF (j:=0) (by rw[Qc,a];rfl);simp![y];exact q
noncomputable def CI(ks:List Pt):T:=.dct kf (ks.map pr) (ks.map λ_=>T.d (.bool kf))
noncomputable def VO(ks:List Pt)(p:Pt):List Pt:=if p∈ks then ks else ks++[p]
theorem mW(ks:List Pt)(p:Pt):(VO ks p).9<=ks.9+1:=by unfold VO;split;omega;simp
theorem OP{α h:Type}(c:h):∀(l:List α) (n:Nat),(l.map λ_=>c).set n c=l.map λ_=>c
 |[],_=>rfl|_::_,0=>rfl|x::l,n+1=>by show c::(l.map λ_=>c).set n c=_;rw[OP c l n];rfl
theorem Sg{p:Pt}{Q:T->Prop}(hl:ks.9<kn)(q:Q (CI (VO ks p))):Rc (CI ks) (.d (pr p)) (.d (.bool kf)) Q:=by
 refine#[NB p,by rw[QA];exact hl,?_];show Q (rK kf (ks.map pr) (ks.map λ_=>T.d (.bool kf)) (pr p) (.d (.bool kf)));unfold VO at q;unfold rK;by_cases c:p∈ks;rw[i0 c]at q;cases e:dA (ks.map pr) (pr p) with|none=>exact i3 (FR.mpr c) (SA.mp e)|some n=>show Q (.dct kf (ks.map pr) ((ks.map λ_=>T.d (.bool kf)).set n (.d (.bool kf))));rw[OP];exact q
 rw[ii c]at q;rw[SA.mpr λz=>c (FR.mp z)];unfold CI at q;rw[QT,QT]at q;exact q
theorem Xv{q:Pt}:PB .In (.d (pr q)) (CI ks) L=L (decide (q∈ks)):=by unfold CI;rw[Xb,tH];exact ot #[λh=>h.2,λh=>#[NB q,h]]
theorem Yp{q:Pt}:PB .NotIn (.d (pr q)) (CI ks) L=L (!decide (q∈ks)):=by unfold CI;rw[oO,tH];exact ot #[λh=>h.2,λh=>#[NB q,h]]
def kC(evs:List Evt)(ks:List Pt)(n:Nat):List Pt:=match uB evs n with
 | .see _ p m _=>VO ks (p,m)|_=>ks
def iB(evs:List Evt)(l:LN):List Pt:=l.foldl (kC evs) []
noncomputable def gc:Evt->Str
 | .see _ _ _ _=>"see"|.tell _ _ _ _ _ _=>"tell"
end
section
variable{e:Evt}{n m:Bool}{R:T->Prop}{t:Int}{p h w:Str}
theorem FW:KA (.d (VD e)) n (.d (.int 0)) m R=R (.d (.str (gc e))):=by cases e;exact aA (i:=0) rfl;exact aA (i:=0) rfl
theorem Oq:KA (.d (VD (.see t p h w))) n (.d (.int 2)) m R=R (.d (.str p)):=aA (i:=2) rfl
theorem Fg:KA (.d (VD (.see t p h w))) n (.d (.int 3)) m R=R (.d (.str h)):=aA (i:=3) rfl
end
section
variable{Ψ:PEv}{ks z:List Pt}{a b:Str}{L:Bool->Prop}{ns:LJ}
theorem fI{c a b:Prop}[Decidable c](h:¬ c)(q:b):if c then a else b:=by rw[ii h];exact q
def Jy(evs:List Evt)(l:LN)(ks:List Pt)(o3:Option Sl):xA:=[bD (.list (evs.map VD)),jr (.bor (.lst (l.map λn=>T.d (nD n)))),oW (CI ks),o3]
def RI:PSp where
 md:=[.fro,.shal]
 run:=λx Q _=>∃(h:List Evt) (l:LN),x=[.d (.list (h.map VD)),.lst ((l.map nD).map T.d)]/\l.9<=100/\(∀n∈l,n<h.9)/\Q (CI (iB h l)) []
theorem Ue:EC Ψ eF RI AJ HH:=by
 rintro _ Q _ ⟨h,l,rfl,hl,j,q⟩;refine zA [bD (.list (h.map VD)),jr (.bor (.lst ((l.map nD).map T.d))),kv,kv] ?_;delta eF;simp![↓yA];rw[<- bA nD];refine RA (λn=>T.d (nD n)) (λr y=>∃ks u,r.foldl (kC h) ks=iB h l/\ks.9+r.9<=100/\(∀n∈r,n<h.9)/\y=Jy h l ks u) ?_ ?_ l _ #[[],kv,rfl,by simpa using hl,j,rfl];rintro y ⟨ks,u,e,_,_,rfl⟩;have e:ks=iB h l:=e;subst e;delta Jy;simp![↓yA];exact q;rintro n r y N i ⟨ks,u,e,hk,k,rfl⟩;have g:ks.9+(r.9+1)<=100:=hk;have f:=k n QE;delta Jy;delta VG;simp![↓GW f,↓FW];have e:r.foldl (kC h) (kC h ks n)=iB h l:=e;unfold kC at e;cases ev:uB h n with|see t p m w=>rw[ev]at e;simp![gc,↓Oq,↓Fg];rw[GW f,ev];simp![↓Fg];exact#[(),Sg (p:=(p,m)) () (i _ #[VO ks (p,m),_,e,by have:=mW ks (p,m);omega,λx v=>k x (QF _ v),rfl])]|tell t a b m w o=>rw[ev]at e;refine fI (show decide ((Qa "tell")=(Qa "see"))≠kf by decide) ?_;exact i _ #[ks,_,e,(),λx v=>k x (QF _ v),rfl]
theorem EY:PB .In (.d (.tuple [.str a,.str b])) (CI ks) L=L (decide ((a,b)∈ks)):=Xv (q:=(a,b))
theorem U2:PB .NotIn (.d (.tuple [.str a,.str b])) (CI ks) L=L (!decide ((a,b)∈ks)):=Yp (q:=(a,b))
noncomputable def yG(w:Wd)(ks:List Pt)(m:Str):LS:=(w.ps.filter λp=>decide ((p.1,m)∈ks)).map λp=>p.1
def dq(h:T)(ks:List Pt):Prop:=∀a b (L:Bool->Prop),PB .In (.d (.tuple [.str a,.str b])) h L=L (decide ((a,b)∈ks))
theorem Fu(ks:List Pt):dq (CI ks) ks:=λ_ _ _=>EY
theorem Du(ks:List Pt):dq (.d (CI ks).er) ks:=λa b L=>by
 have e:ersT (ks.map λ_=>T.d (.bool kf))=ks.map λ_=>PyData.bool true:=by rw[BJ,QR];rfl
 show(∃k,(RC ((ks.map pr).zip (ersT _))=jr k∨(ks.map pr).zip (ersT _)=[])/\YD k (pr (a,b))/\L (dA (((ks.map pr).zip (ersT _)).map (·.1)) (pr (a,b))).isSome)=_;rw[e,WK (by rw[QA,QA];exact QY _),tH];refine ot #[λ#[_,_,_,h]=>h,λh=>#[kf,?_,NB _,h]];cases ks with|nil=>exact .inr rfl|cons x r=>exact .inl rfl
def MM:PSp where
 md:=[.fro,.bor]
 run:=λx Q _=>∃(w:Wd) (h:T) (ks:List Pt) (m:Str),x=[.d (wD w),h,.d (.str m)]/\(dq h ks/\w.ps.9<=90)/\Q (.d (.tuple ((yG w ks m).map j0))) []
theorem Ym:EC Ψ tI MM DO dL:=by
 rintro _ Q _ ⟨w,x,ks,m,rfl,⟨z,l⟩,q⟩;refine zA [bD (wD w),jr (.bor x),bD (.str m)] ?_;delta tI;simp![↓DT];rw[<- bA dH];refine fA (λp=>T.d (dH p)) (λp=>T.d (.str p.1)) (λp=>decide ((p.1,m)∈ks)) w.ps [] _ (λp y R h=>?_) (by show 0+w.ps.9<=_;omega) ?_;simp![↓x3,↓z _ _ _];refine#[(),?_];split at h;rename_i c;rw[i0 c];exact h;rename_i c;rw[ii c];exact h;rw[Qd,bA λp:Str×Int×Int×Int=>j0 p.1,Bh];have e:((w.ps.filter λp=>decide ((p.1,m)∈ks)).map λp=>j0 p.1)=(yG w ks m).map j0:=by unfold yG;rw[QR];rfl
 rw[e];simp![↓yA];exact q
theorem yq{E:XE}{ρ:xA}{a c h:PX}{t u:Str}{x y:D}{w:dy}{R:Option T->Prop}:ZG Ψ E [] [t,u] (.tp [0,1]) (.cmp w a c) h ρ (.d (.tuple [x,y])) R=vP Ψ (.cmp w a c) E (bD x::bD y::lockA ρ) λk v=>if k=kf then zB Ψ h E v λy n _=>fC y n (R (jr y)) else R none:=GA
theorem B0:∀{l:List D},(∀x∈l,x.canLay0=kf/\x.depth<=1)->qr l=kf/\wc l<=1
 |[],_=>by simp[qr,wc]|x::l,h=>by let#[w,e]:=h x QE;let#[u,k]:=B0 (l:=l) λy v=>h y (QF _ v);simp only[qr,wc,w,u,Bool.and_self,true_and];omega
theorem Dm{l:List D}(h:∀x∈l,x.canLay0=kf/\x.depth<=1):RF (.list l):=by let#[y,u]:=B0 h;refine#[?_,?_];simp only[QAY];exact y;simp only[QBI];omega
noncomputable def TL(w:Wd)(m:Str):LS:=(w.ag.filter λp=>decide (p.1=m)).map λp=>p.2
noncomputable def SL(w:Wd)(m:Str):LS:=(w.ag.filter λp=>decide (p.2=m)).map λp=>p.1
def OkS(a:Str):Prop:=qg a=kf
def fq(h:T)(f:Pt->Bool):Prop:=∀a b (L:Bool->Prop),OkS a->OkS b->L (f (a,b))->PB .In (.d (.tuple [.str a,.str b])) h L
theorem Cu(ks:List Pt):fq (CI ks) λq=>decide (q∈ks):=λa b L _ _ h=>by rw[EY];exact h
theorem Km(h:∀p∈z,OkS p.1/\OkS p.2):RF (.list (z.map pr)):=Dm λx u=>by let#[p,y,rfl]:=QO.mp u;have q:=ED (h p y).1 (h p y).2;exact#[q.1,by simp[pr,QBI,wc]]
theorem dY(h:∀p∈z,OkS p.1/\OkS p.2):fq (.d (.list (z.map pr))) λq=>decide (q∈z):=λa b L u hb q=>by
 refine#[.inr #[ED u hb,Km h],?_];have e:((z.map pr).any λy=>Qn y (.tuple [.str a,.str b]))=decide ((a,b)∈z):=by rw[QBN,Qz,wP,o2];constructor;rintro⟨p,x,e⟩;have e:Qn (pr p) (pr (a,b))=true:=e;rw[aY,o2]at e;exact e▸x;intro x;refine#[(a,b),x,?_];show Qn (pr (a,b)) (pr (a,b))=kf;rw[aY];exact dT rfl
 show L ((z.map pr).any λy=>Qn y (.tuple [.str a,.str b]));rw[e];exact q
def aR:PSp where
 md:=[.fro,.bor]
 run:=λy Q _=>∃(w:Wd) (h:T) (f:Pt->Bool) (x m:Str),y=[.d (wD w),h,.d (.str x),.d (.str m)]/\(fq h f/\OkS x/\∀p∈w.ag,OkS p.1/\OkS p.2)/\w.ag.9<=100/\Q (.d (.bool ((TL w m++SL w m).any λr=>f (x,r)))) []
theorem xn:EC Ψ YE aR IH gG:=by
 rintro _ Q _ ⟨w,v,f,x,m,rfl,⟨i,k,u⟩,l,q⟩;have Y:=Qw (λp:Str×Str=>decide (p.1=m)) w.ag;have X:=Qw (λp:Str×Str=>decide (p.2=m)) w.ag;have s:(TL w m).9<=100:=by unfold TL;rw[QA];omega
 have o:(SL w m).9<=100:=by unfold SL;rw[QA];omega
 refine zA [bD (wD w),jr (.bor v),bD (.str x),bD (.str m),kv] ?_;delta YE;simp![↓Jx];rw[<- bA pr w.ag];refine fA (λp=>T.d (pr p)) (λ(p:Str×Str)=>T.d (.str p.2)) (λp=>decide (p.1=m)) w.ag [] _ (λp e R y=>?_) (by show 0+w.ag.9<=_;omega) ?_;delta pr;simp![↓yq];split at y;rename_i c;rw[i0 c];exact y;rename_i c;rw[ii c];exact y;rw[Qd,bA λp:Str×Str=>j0 p.2];have n:((w.ag.filter λp=>decide (p.1=m)).map λp=>j0 p.2)=(TL w m).map j0:=by unfold TL;rw[QR];rfl
 rw[n];refine fA (λp=>T.d (pr p)) (λ(p:Str×Str)=>T.d (.str p.1)) (λp=>decide (p.2=m)) w.ag [] _ (λp e R y=>?_) (by show 0+w.ag.9<=_;omega) ?_;delta pr;simp![↓yq];split at y;rename_i c;rw[i0 c];exact y;rename_i c;rw[ii c];exact y;rw[Qd,bA λp:Str×Str=>j0 p.1];have j:((w.ag.filter λp=>decide (p.2=m)).map λp=>j0 p.1)=(SL w m).map j0:=by unfold SL;rw[QR];rfl
 rw[j,<- QT,<- QT];refine#[by rw[QA,QA,QA,QA];omega,?_];simp![↓yA];rw[<- bA j0];refine CA (λr=>T.d (.str r)) (λr=>T.d (.bool (f (x,r)))) (TL w m++SL w m) [] _ (λr e R y=>?_) (by show 0+(TL w m++SL w m).9<=_;rw[QJ];omega) ?_;simp![↓yA];refine#[(),i _ _ _ k ?_ y];rcases Qf.mp e with h|h;let#[p,g,rfl]:=QO.mp h;exact(u p (QX.mp g).1).2;let#[p,g,rfl]:=QO.mp h;exact(u p (QX.mp g).1).1;rw[Qd,bA λr=>PyData.bool (f (x,r)),xu];refine#[(TL w m++SL w m).map λr=>f (x,r),by rw[QR];rfl,?_];rw[QBN];simp![↓yA];exact q
theorem Et{n:Bool}{Q:T->Bool->Prop}(x:ns.9<64)(q:∀h:LJ,h.Perm ns->h.Pairwise (·<=·)->Q (.lst ((h.map j1).map T.d)) kf):eM .sorted [(.lst ((ns.map j1).map T.d),n)] Q:=by unfold eM TB;rw[UC];exact .inr (.inr #[_,ns,rfl,rA _,x,q])
theorem xf{l:LN}(h:ns.Perm (l.map λ(n:Nat)=>(n:Int)))(u:ns.Pairwise (·<=·)):∃y:LN,ns=y.map (λ(n:Nat)=>(n:Int))/\y.Perm l/\y.Pairwise (·<=·):=by
 have e:ns=(ns.map QCj).map λ(n:Nat)=>(n:Int):=by rw[QR];refine(QCi ns).symm.trans (wN λx v=>?_);let#[n,_,rfl]:=QO.mp (h.mem_iff.mp v);rfl
 refine#[ns.map QCj,e,?_,?_];have:=h.map QCj;rw[QR]at this;refine this.trans (QCh.of_eq ?_);exact(wN λn _=>rfl).trans (QCi l);rw[e]at u;exact(QCE.mp u).imp λh=>()
def ZH(evs:List Evt)(h:LN)(ks:List Pt):LN:=h.filter λn=>!decide (((TJ (uB evs n)).1,(TJ (uB evs n)).2)∈ks)
def kH:PSp where
 md:=[.fro,.shal,.bor]
 run:=λu Q _=>∃(h:List Evt) (x:LN) (ks:List Pt),u=[.d (.list (h.map VD)),.lst ((x.map nD).map T.d),CI ks]/\x.9<64/\(∀n∈x,n<h.9/\HD (uB h n))/\∀y:LN,y.Perm (ZH h x ks)->y.Pairwise (·<=·)->Q (.lst ((y.map nD).map T.d)) []
theorem De:EC Ψ YF kH EJ LH:=by
 rintro _ Q _ ⟨h,x,ks,rfl,l,a,q⟩;refine zA [bD (.list (h.map VD)),jr (.bor (.lst ((x.map nD).map T.d))),jr (.bor (CI ks))] ?_;delta YF;simp![↓yA];rw[<- bA nD];refine fA (λn=>T.d (nD n)) (λn=>T.d (nD n)) (λn=>!decide (((TJ (uB h n)).1,(TJ (uB h n)).2)∈ks)) x [] _ (λn u R v=>?_) (by show 0+x.9<=_;omega) ?_;simp![↓GW (a n u).1,↓Dg (a n u).2,↓Cg (a n u).2,↓U2];refine#[(),?_];split at v;rename_i c;rw[i0 c];exact v;rename_i c;rw[ii c];exact v;rw[Qd,bA nD];have e:(ZH h x ks).map nD=((ZH h x ks).map λ(n:Nat)=>(n:Int)).map j1:=by rw[QR];rfl
 have fl:=Qw (λn=>!decide (((TJ (uB h n)).1,(TJ (uB h n)).2)∈ks)) x;show eM .sorted [(.lst (((ZH h x ks).map nD).map T.d),kf)] _;rw[e];refine Et (by rw[QA];unfold ZH;omega) λf k w=>?_;let#[y,rfl,i,g]:=xf k w;have j:(y.map λ(n:Nat)=>(n:Int)).map j1=y.map nD:=by rw[QR];rfl
 rw[j];simp![↓yA];exact q y i g
def F6(w:Wd)(h:List Pt)(b m:Str):Bool:=!decide ((b,m)∈h)&&(TL w m++SL w m).any λr=>decide ((b,r)∈h)
def ZM(w:Wd)(h ks:List Pt)(n:Nat):List Pt:=match uB w.es n with
 | .tell _ a b m _ _=>if F6 w h b m=kf then VO ks (a,b) else ks|_=>ks
def xP(w:Wd)(l:LN):List Pt:=l.foldl (ZM w (iB w.es l)) []
def Dj(w:Wd)(x:Str):Prop:=∃p∈w.ps,p.1=x
def Bg(w:Wd):Evt->Prop
 | .see _ p m h=>Dj w p/\m∈w.ms/\OkS h|.tell _ a b m h q=>Dj w a/\Dj w b/\m∈w.ms/\a≠b/\OkS h/\∀x∈q,Dj w x
structure WOk(w:Wd):Prop where
 ag:∀p∈w.ag,OkS p.1/\OkS p.2
 al:w.ag.9<=100
 pl:w.ps.9<=11
 pn:(w.ps.map λp=>p.1).Nodup
 po:∀p∈w.ps,OkS p.1
 ml:w.ms.9<=10
 mo:∀m∈w.ms,OkS m
 mn:w.ms.Nodup
 el:w.es.9<=60
 eo:∀e∈w.es,Bg w e
theorem WOk.ev{w:Wd}(h:WOk w){n:Nat}(x:n<w.es.9):Bg w (uB w.es n):=by unfold uB;rw[Qk x];exact h.eo _ (wO x)
theorem WOk.nm{w:Wd}(h:WOk w){x:Str}(y:Dj w x):OkS x:=by let#[p,u,rfl]:=y;exact h.po p u
end
section
variable{Ψ:PEv}{E:XE}{ρ:xA}{M:List (T×Bool)->xA->Prop}{a y:PX}{md:List Md}{d:D}{n m:Bool}{xs:List (T×Bool)}{C:LT->Prop}{R:T->Prop}{t:Int}{x b h wd:Str}{q:LS}
theorem tw{ks:List Pt}:n6 (CI ks) kd Ψ y E md ρ M=AL Ψ y E md (lockA ρ) λxs _=>M xs ρ:=rfl
theorem U6:KA (.d (VD (.tell t x b h wd q))) n (.d (.int 2)) m R=R (.d (.str x)):=aA (i:=2) rfl
theorem X6:KA (.d (VD (.tell t x b h wd q))) n (.d (.int 3)) m R=R (.d (.str b)):=aA (i:=3) rfl
theorem V6:KA (.d (VD (.tell t x b h wd q))) n (.d (.int 4)) m R=R (.d (.str h)):=aA (i:=4) rfl
end
section
variable{Ψ:PEv}{x:Str}{es:List Pt}{sr:LS}{u:Kn}
def Tx(w:Wd)(l:LN)(ks:List Pt)(o4 o5:Option Sl):xA:=[bD (wD w),jr (.bor (.lst (l.map λn=>T.d (nD n)))),oW (CI (iB w.es l)),oW (CI ks),o4,o5]
def zG:PSp where
 md:=[.fro,.shal]
 run:=λh Q _=>∃(w:Wd) (l:LN),h=[.d (wD w),.lst ((l.map nD).map T.d)]/\WOk w/\l.9<=100/\(∀n∈l,n<w.es.9)/\Q (CI (xP w l)) []
theorem M8(K:Ψ.sp "seen_among"=RI)(W:Ψ.sp "has_against"=aR):EC Ψ pE zG SH bG:=by
 rintro _ Q _ ⟨w,l,rfl,k,hl,X,q⟩;refine zA [bD (wD w),jr (.bor (.lst ((l.map nD).map T.d))),kv,kv,kv,kv] ?_;delta pE;simp![↓jR,↓jA (md:=[.fro,.shal]) K rfl rfl,↓OA,↓nW];refine#[_,_,rfl,hl,X,?_];simp![↓yA];rw[<- bA nD];refine RA (λn=>T.d (nD n)) (λr i=>∃h o j,r.foldl (ZM w (iB w.es l)) h=xP w l/\h.9+r.9<=100/\(∀n∈r,n<w.es.9)/\i=Tx w l h o j) ?_ ?_ l _ #[[],kv,kv,rfl,by simpa using hl,X,rfl];rintro i ⟨h,o,j,e,_,_,rfl⟩;have e:h=xP w l:=e;subst e;delta Tx;simp![↓yA];exact q;rintro n r i N f ⟨h,o,j,e,hk,z,rfl⟩;have Y:h.9+(r.9+1)<=100:=hk;have s:=z n QE;have v:=k.ev s;have e:r.foldl (ZM w (iB w.es l)) (ZM w (iB w.es l) h n)=xP w l:=e;unfold ZM at e;delta Tx;delta SF;simp![↓jR,↓GW s,↓FW];cases ev:uB w.es n with|see t p m Z=>rw[ev]at e;refine fI (show decide ((Qa "see")=(Qa "tell"))≠kf by decide) ?_;exact f _ #[h,_,_,e,(),λx y=>z x (QF _ y),rfl]|tell t a b m Z A=>rw[ev]at e v;let#[C,hb,B,_]:=v;simp![gc,↓U6,↓X6,↓V6,↓U2,↓jA (md:=[.fro,.bor]) W rfl rfl,↓OA,↓nW,↓tw];refine#[(),?_];unfold F6 at e;by_cases c:(b,m)∈iB w.es l;simp![dT c];simp only[dT c,W8,QAU,Qu,if_false]at e;exact f _ #[h,_,_,e,(),λx y=>z x (QF _ y),rfl];simp![dF c];refine#[_,_,_,_,_,rfl,#[Cu _,k.nm hb,k.ag],k.al,?_];simp![↓yA];by_cases g:((TL w m++SL w m).any λr=>decide ((b,r)∈iB w.es l))=kf;simp![g];simp only[dF c,g,WG,WT,if_true]at e;exact#[(),Sg (p:=(a,b)) () (f _ #[VO h (a,b),_,_,e,by have:=mW h (a,b);omega,λx y=>z x (QF _ y),rfl])];rw[ii g];simp only[dF c,WG,WT]at e;rw[ii g]at e;exact f _ #[h,_,_,e,(),λx y=>z x (QF _ y),rfl]
theorem jf{y:List Pt}(h:∀p∈y,OkS p.1/\OkS p.2){a b:Str}{L:Bool->Prop}(z:OkS a)(hb:OkS b)(q:L (!decide ((a,b)∈y))):PB .NotIn (.d (.tuple [.str a,.str b])) (.d (.list (y.map pr))) L:=dY h a b (λc=>L (!c)) z hb q
def sU(w:Wd)(x:Str):Int:=((cL w x)[0]?).getD 0
def zO(w:Wd)(x:Str):Int:=((iG w x)[0]?).getD 0
theorem td{w:Wd}(h:Dj w x):(cL w x)[0]?=jr (sU w x):=by
 let#[p,z,rfl]:=h;have y:p.2.1∈cL w p.1:=QO.mpr #[p,QX.mpr #[z,dT rfl],rfl];unfold sU;cases e:cL w p.1 with|nil=>rw[e]at y;cases y|cons x r=>rfl
theorem Ha{w:Wd}(h:Dj w x):(iG w x)[0]?=jr (zO w x):=by
 let#[p,z,rfl]:=h;have y:p.2.2.1∈iG w p.1:=QO.mpr #[p,QX.mpr #[z,dT rfl],rfl];unfold zO;cases e:iG w p.1 with|nil=>rw[e]at y;cases y|cons x r=>rfl
def Ix(w:Wd)(wr h:List Pt):Evt->Bool
 | .see _ _ _ _=>kf|.tell _ a b m _ _=>decide ((a,m)∈h)&&!decide ((a,b)∈wr)&&decide (zO w b<=sU w a)&&!((TL w m++SL w m).any λr=>decide ((b,r)∈h))
def c6(h:List Pt):Prop:=∀p∈h,OkS p.1/\OkS p.2
def aZ:PSp where
 md:=[.fro,.fro,.bor,.fro]
 run:=λz Q _=>∃(w:Wd) (e:Evt) (y h:List Pt),z=[.d (wD w),.d (VD e),CI y,.d (.list (h.map pr))]/\WOk w/\Bg w e/\c6 h/\Q (.d (.bool (Ix w y h e))) []
theorem Bt(Y:Ψ.sp "rank_of"=dR)(X:Ψ.sp "floor_of"=RM)(s:Ψ.sp "has_against"=aR):EC Ψ VF aZ NO rL:=by
 rintro _ Q _ ⟨w,e,f,y,rfl,h,o,i,q⟩;refine zA [bD (wD w),bD (VD e),jr (.bor (CI f)),bD (.list (y.map pr)),kv,kv,kv] ?_;cases e with|see t p m l=>delta VF;simp![↓FW,gc];exact q|tell t a b m l Z=>let#[j,hb,n,_]:=o;delta VF;simp![↓FW,gc];refine fI (show decide ((Qa "tell")=(Qa "see"))≠kf by decide) ?_;simp![↓U6,↓X6,↓V6,↓kq];refine#[(),jf i (h.nm j) (h.mo _ n) ?_];have q:Q (.d (.bool (decide ((a,m)∈y)&&!decide ((a,b)∈f)&&decide (zO w b<=sU w a)&&!((TL w m++SL w m).any λr=>decide ((b,r)∈y))))) []:=q;by_cases k:(a,m)∈y;simp![dT k,↓EY];rw[dT k]at q;refine#[(),?_];by_cases v:(a,b)∈f;simp![dT v];rw[dT v]at q;exact q;simp![dF v,↓jA (md:=[]) Y rfl rfl,↓jA (md:=[]) X rfl rfl];rw[dF v]at q;have g:w.ps.9<=90:=QW h.pl (by decide);refine#[_,_,_,rfl,g,(td j),?_];simp![↓yA];refine#[_,_,_,rfl,g,(Ha hb),?_];simp![↓Vp];by_cases z:zO w b<=sU w a;simp![dT z,↓jA (md:=[.fro,.bor]) s rfl rfl,↓OA,↓nW];rw[dT z]at q;refine#[_,_,_,_,_,rfl,#[dY i,h.nm hb,h.ag],h.al,?_];simp![↓yA];exact q;simp![dF z];rw[dF z]at q;exact q;simp![dF k];rw[dF k]at q;exact q
noncomputable abbrev Kn:=List ((List Pt×LS)×LS)
def u5(u:Kn):List D:=u.map λx=>xE x.1.1 x.1.2
def An(u:Kn):LT:=u.map λx=>T.d (.list (x.2.map j0))
def t6(u:Kn):T:=.dct kf (u5 u) (An u)
def jP(w:Wd)(u:Kn):Prop:=∀x∈u,∀y,y∈x.2↔Held x.1.1 x.1.2 (HA w) y
theorem Ng:∀l:LS,tDs (l.map NK.s)=l.map j0
 |[]=>rfl|x::l=>by show j0 x::tDs (l.map NK.s)=_;rw[Ng l];rfl
theorem Og:∀l:List Pt,tDs (l.map λp=>NK.t [.s p.1,.s p.2])=l.map pr
 |[]=>rfl|x::l=>by show pr x::tDs (l.map λp=>NK.t [.s p.1,.s p.2])=_;rw[Og l];rfl
theorem Nt:∀l:LS,nkds (l.map NK.s)=0
 |[]=>rfl|x::l=>by show max 0 (nkds (l.map NK.s))=0;rw[Nt l];rfl
theorem Ot:∀l:List Pt,nkds (l.map λp=>NK.t [.s p.1,.s p.2])<=1
 |[]=>Qq _|x::l=>by show max 1 (nkds (l.map λp=>NK.t [.s p.1,.s p.2]))<=1;have:=Ot l;omega
theorem pS(es:List Pt)(sr:LS):YD kf (xE es sr):=by refine#[[.t (sr.map NK.s),.t (es.map λp=>NK.t [.s p.1,.s p.2])],?_,?_];show _=PyData.tuple [.tuple (tDs (sr.map NK.s)),.tuple (tDs (es.map λp=>NK.t [.s p.1,.s p.2]))];rw[Ng,Og];rfl;show max (nkds (sr.map NK.s)+1) (max (nkds (es.map λp=>NK.t [.s p.1,.s p.2])+1) 0)+1<=6;rw[Nt];have:=Ot es;omega
theorem Dc{v:List Pt}{z:LS}(h:xE es sr=xE v z):es=v/\sr=z:=by injection h with h;injection h with h1 h2;injection h2 with h2 _;injection h1 with h1;injection h2 with h2;refine#[(Wf λx y e=>?_).mp h2,(Wf λx y e=>?_).mp h1];injection e with e;injection e with e1 e2;injection e2 with e2 _;injection e1 with e1;injection e2 with e2;exact QCm e1 e2;injection e
theorem Sn{v:LS}{Q:T->Prop}(hl:u.9<kn)(h:dA (u5 u) (xE es sr)=kv)(q:Q (t6 (u++[((es,sr),v)]))):Rc (t6 u) (.d (xE es sr)) (.lst ((v.map j0).map T.d)) Q:=by refine#[pS es sr,by unfold u5;rw[QA];exact hl,?_];show Q (rK kf (u5 u) (An u) (xE es sr) (.d (.list (ersT ((v.map j0).map T.d)))));unfold rK;rw[h,UA];unfold t6 u5 An at q;rw[QT,QT]at q;exact q
theorem Nh{k:Nat}(h:dA (u5 u) (xE es sr)=jr k):∃v,((es,sr),v)∈u/\(An u)[k]?=jr (T.d (.list (v.map j0))):=by
 have e:=aC h;unfold u5 at e;unfold An;rw[Qc]at e ⊢;cases z:u[k]? with|none=>rw[z]at e;cases e|some x=>rw[z]at e;let#[w,y]:=Dc (Qm e);let#[#[a,b],v]:=x;cases w;cases y;exact#[v,qN z,rfl]
end
section
variable{Ψ:PEv}{E:XE}{ρ:xA}{K:TK}{M:List (T×Bool)->xA->Prop}{a b c i g:PX}{md:List Md}{m:Bool}{f:Kn}{es:List Pt}{sr:LS}{L:Bool->Prop}{R:T->Prop}
section
variable{u:List (Str×LS)}{w:Str}
theorem gg:PB .NotIn (.d (.tuple [.tuple (sr.map j0),.tuple (es.map pr)])) (t6 f) L=L (!(dA (u5 f) (xE es sr)).isSome):=by unfold t6;rw[oO];exact ot #[λh=>h.2,λh=>#[pS es sr,h]]
theorem Ox{v:LS}{k:Nat}(h:dA (u5 f) (xE es sr)=jr k)(hv:(An f)[k]?=jr (T.d (.list (v.map j0))))(q:R (.d (.list (v.map j0)))):KA (t6 f) kd (.d (.tuple [.tuple (sr.map j0),.tuple (es.map pr)])) m R:=.inr #[kf,_,_,k,_,rfl,pS es sr,h,hv,q]
theorem jBz:t7 (t6 f) kd Ψ b E ρ K=zB Ψ b E (lockA ρ) λy m _=>K y m ρ:=rfl
noncomputable def XS(u:List (Str×LS)):T:=.dct kd (u.map λx=>.str x.1) (u.map λx=>T.d (.list (x.2.map j0)))
theorem Rh{v:LS}{Q:T->Prop}(hl:u.9<kn)(h:w∉u.map λx=>x.1)(q:Q (XS (u++[(w,v)]))):Rc (XS u) (.d (.str w)) (.d (.list (v.map j0))) Q:=by refine#[#[w,rfl],by rw[QA];exact hl,?_];show Q (rK kd (u.map λx=>.str x.1) (u.map λx=>T.d (.list (x.2.map j0))) (.str w) (.d (.list (v.map j0))));unfold rK;rw[SA.mpr λz=>h (by let#[x,y,e]:=QO.mp z;injection e with e;exact QO.mpr #[x,y,e])];unfold XS at q;rw[QT,QT]at q;exact q
theorem Sh(h:w∈u.map λx=>x.1)(q:∀v,(w,v)∈u->R (.d (.list (v.map j0)))):KA (XS u) kd (.d (.str w)) m R:=by
 cases e:dA (u.map λx=>j0 x.1) (.str w) with
 |none=>let#[x,l,j]:=QO.mp h;exact i3 (QO.mpr #[x,l,o9 j0 j]) (SA.mp e)|some k =>
  have j:=aC e;rw[Qc]at j;cases z:u[k]? with|none=>rw[z]at j;cases j|some x=>rw[z]at j;have j:j0 x.1=.str w:=Qm j;injection j with j;let#[y,v]:=x;cases j;exact .inr #[kd,_,_,k,T.d (.list (v.map j0)),rfl,#[_,rfl],e,by rw[Qc,z];rfl,q v (qN z)]
theorem jA6:t7 (XS u) kd Ψ b E ρ K=zB Ψ b E (lockA ρ) λy m _=>K y m ρ:=rfl
theorem jAP{v:Bool}{mk:List Bool}{t:Str}{x:T}{z:dy}{R:Option T->Prop}:ZG Ψ E (v::mk) [t] (.nm 0) (.cmp z a c) g ρ x R=vP Ψ (.cmp z a c) E (jr (.bor x)::nC (v::mk) (lockA ρ)) λk h=>if k=kf then zB Ψ g E h λy n _=>fC y n (R (jr y)) else R none:=rfl
end
end
theorem eS{c a b:Prop}[Decidable c](h:c)(q:a):if c then a else b:=by rw[i0 h];exact q
def tW(w:Wd)(l h:LN)(m x:Str):Prop:=Held (UH w.es h m) (yG w (iB w.es l) m) (HA w) x
open Classical in
def Cq(w:Wd)(l h:LN)(x m:Str):Bool:=decide (tW w l h m x)
open Classical in
section
variable{Ψ:PEv}{Z:PEnds}{w:Wd}{l u:LN}{f:Kn}{g:List (Str×LS)}{m:Str}{o8 i o7:Option Sl}
theorem CS(w:Wd)(l u:LN)(x m:Str):Cq w l u x m=kf↔tW w l u m x:=by unfold Cq;exact o2
noncomputable def Ka(w:Wd)(l u:LN)(x:Str):List Pt:=(w.ms.filter (Cq w l u x)).map λm=>(x,m)
def OE(w:Wd)(l u:LN):List Pt:=w.ps.flatMap λp=>Ka w l u p.1
def x6(w:Wd)(u:LN):Prop:=u.9<=100/\∀n∈u,n<w.es.9/\HD (uB w.es n)
def jA1(Q:T->LT->Prop):PEnds:={ nx:=λh=>tX (NA [3] h) (Q (.d .none)),rt:=λt h=>tX (NA [3] h) (Q t) }
def K5(w:Wd)(l u:LN)(f:Kn)(g:List (Str×LS))(o6 o7 o8 i:Option Sl):xA:=[bD (wD w),jr (.bor (.lst ((l.map nD).map T.d))),bD (.list (u.map nD)),oW (t6 f),oW (CI (iB w.es l)),oW (XS g),o6,o7,o8,i]
def Fc(w:Wd)(l u:LN)(m:Str):T:=.d (xE (UH w.es u m) (yG w (iB w.es l) m))
theorem Th{k:Nat}{v:LS}(hl:g.9<kn)(y:m∉g.map λx=>x.1)(h:dA (u5 f) (xE (UH w.es u m) (yG w (iB w.es l) m))=jr k)(hv:(An f)[k]?=jr (T.d (.list (v.map j0))))(q:Z.nx (K5 w l u f (g++[(m,v)]) (bD (.str m)) (jr (.bor (Fc w l u m))) o8 i)):pF Ψ yD Z (K5 w l u f g (bD (.str m)) (jr (.bor (Fc w l u m))) o8 i):=by delta K5 Fc xE;delta yD;simp![↓jBz];refine Ox h hv ?_;simp![↓yA];exact Rh hl y q
theorem m7(w:Wd)(ks:List Pt)(m:Str):(yG w ks m).9<=w.ps.length:=by unfold yG;rw[QA];exact Qw _ _
theorem Ra(evs:List Evt)(u:LN)(m:Str):(UH evs u m).9<=u.length:=by unfold UH;rw[QA];exact Qw _ _
theorem M6(h:WOk w)(hv:x6 w u)(m:Str):EF (UH w.es u m) (yG w (iB w.es l) m):=by constructor;intro s z;let#[p,v,rfl]:=QO.mp z;exact h.po p (QX.mp v).1;intro e k;let#[n,y,rfl]:=QO.mp k;have y:=(QX.mp y).1;let#[a,t,x,b,o,j,q,e]:=hv.2 n y;have:=h.ev a;rw[e]at this ⊢;exact#[h.nm this.1,h.nm this.2.1]
theorem Yz(F:Ψ.sp "seers_of"=MM)(E:Ψ.sp "edges_of"=SM)(r:Ψ.sp "holders_in"=xF)(b:WOk w)(hv:x6 w u)(hk:jP w f)(C:f.9<=20000)(hl:g.9<1000)(p:m∉g.map λx=>x.1)(q:∀h v,jP w h->h.9<=f.9+1->(∀y,y∈v↔tW w l u m y)->Z.nx (K5 w l u h (g++[(m,v)]) (bD (.str m)) (jr (.bor (Fc w l u m))) o8 i)):pF Ψ DD Z (K5 w l u f g (bD (.str m)) o7 o8 i):=by
 have L:=b.pl;have J:=m7 w (iB w.es l) m;have I:=Ra w.es u m;have G:=hv.1;delta K5;delta DD;simp![↓jR,↓jA (md:=[.fro,.bor]) F rfl rfl,↓jA (md:=[]) E rfl rfl,↓jA (md:=[]) r rfl rfl,↓OA,↓nW,↓tw];refine#[_,_,_,_,rfl,#[Fu _,()],?_];simp![↓yA];refine#[_,_,_,rfl,hv.1,hv.2,?_];simp![↓gg];refine#[(),?_];cases e:dA (u5 f) (xE (UH w.es u m) (yG w (iB w.es l) m)) with
 |some k=>let#[v,X,s]:=Nh e;refine fI (λz=>by cases z) ?_;exact Th () p e s (q f v hk () (hk _ X))|none =>
  refine eS rfl ?_;simp![↓jA (md:=[]) r rfl rfl];refine#[_,kf,_,_,rfl,#[(),(),M6 b hv m,(),b.pn],λv j B=>?_];simp![↓yA];refine Sn () e ?_;have A:dA (u5 (f++[((UH w.es u m,yG w (iB w.es l) m),v)])) (xE (UH w.es u m) (yG w (iB w.es l) m))≠none:=λz=>SA.mp z (QO.mpr #[_,QZ _ (QI.mpr rfl),rfl]);have o:jP w (f++[((UH w.es u m,yG w (iB w.es l) m),v)]):=λx a=>by rcases Qf.mp a with a|a;exact hk x a;rw[QI.mp a];exact j
  cases n:dA (u5 (f++[((UH w.es u m,yG w (iB w.es l) m),v)])) (xE (UH w.es u m) (yG w (iB w.es l) m)) with|none=>exact i3 n A|some k=>let#[Y,K,W]:=Nh n;exact Th () p n W (q _ Y o (by rw[QJ];exact QY _) (o _ K))
theorem j6{b:PT}{p:PSp}{N x:LS}{ds:LT}{Q:T->LT->Prop}(ρ:xA)(h:pF Ψ b (jA1 Q) ρ)(hl:ds.9=x.length:=by rfl)(hc:BB 0 p.md x.9=[3]:=by rfl)(y:rB N p.md ds=ρ:=by rfl):ds.9=x.9/\pF Ψ b (zD p x.9 Q) (rB N p.md ds):=by
 have e:zD p x.9 Q=jA1 Q:=by unfold zD;rw[hc];rfl
 rw[e,y];exact#[hl,h]
def PD:PSp where
 md:=[.fro,.shal,.fro,.chg]
 run:=λx Q _=>∃(w:Wd) (l u:LN) (f:Kn),x=[.d (wD w),.lst ((l.map nD).map T.d),.d (.list (u.map nD)),t6 f]/\(WOk w/\l.9<=100/\∀n∈l,n<w.es.9)/\x6 w u/\(jP w f/\f.9<=10000)/\∀h,jP w h->h.9<=f.9+10->Q (.lst (((OE w l u).map pr).map T.d)) [t6 h]
theorem Y1(h:WOk w)(l u:LN)(x:Str):(Ka w l u x).9<=10:=by unfold Ka;rw[QA];exact QW (Qw _ _) h.ml
theorem Jz{h:List Pt}{o6:Option Sl}{p:Str×Int×Int×Int}(k:WOk w)(n:g.map (λx=>x.1)=w.ms)(j:∀x∈g,∀y,y∈x.2↔tW w l u x.1 y)(hl:h.9<=1000)(q:Z.nx (K5 w l u f g o6 o7 (oW (.lst (((h++Ka w l u p.1).map pr).map T.d))) (bD (dH p)))):pF Ψ CD Z (K5 w l u f g o6 o7 (oW (.lst ((h.map pr).map T.d))) (bD (dH p))):=by
 have o:=k.ml;have a:=Y1 k l u p.1;delta K5;delta CD;simp![↓CW];rw[<- bA j0];refine fA (λm=>T.d (.str m)) (λm=>T.d (pr (p.1,m))) (Cq w l u p.1) w.ms [] _ (λm b R z=>?_) (by show 0+w.ms.9<=_;omega) ?_;simp![↓jAP,↓x3,↓jA6];refine Sh (n▸b) λv hv=>?_;have e:decide (p.1∈v)=Cq w l u p.1 m:=by rw[Qz,o2];exact(j _ hv p.1).trans (CS w l u p.1 m).symm
 simp![lD,sC,xB,true_or,e];split at z;rename_i c;rw[i0 c];exact#[(),z];rename_i c;rw[ii c];exact z;rw[Qd,bA λm=>pr (p.1,m)];have e:((w.ms.filter (Cq w l u p.1)).map λm=>pr (p.1,m))=(Ka w l u p.1).map pr:=by unfold Ka;rw[QR];rfl
 rw[e,<- QT,<- QT];exact#[by rw[QA,QA,QA,QA];omega,q]
theorem Ge(J:Ψ.sp "seen_among"=RI)(I:Ψ.sp "seers_of"=MM)(G:Ψ.sp "edges_of"=SM)(F:Ψ.sp "holders_in"=xF):EC Ψ UF PD jK NH:=by
 rintro _ Q _ ⟨w,l,u,f,rfl,⟨n,hl,C⟩,hv,⟨hk,E⟩,q⟩;have P:=n.ml;have O:=n.pl;refine j6 [bD (wD w),jr (.bor (.lst ((l.map nD).map T.d))),bD (.list (u.map nD)),oW (t6 f),kv,kv,kv,kv,kv,kv] ?_;delta UF;simp![↓jR,↓CW,↓jA (md:=[.fro,.shal]) J rfl rfl,↓OA,↓nW];refine#[_,_,rfl,hl,C,?_];simp![↓CW];rw[<- bA j0];refine RA (λm=>T.d (.str m)) (λr b=>∃h g a o7,g.map (λx=>x.1)++r=w.ms/\(jP w h/\h.9+r.9<=f.9+w.ms.9)/\(∀x∈g,∀y,y∈x.2↔tW w l u x.1 y)/\b=K5 w l u h g a o7 kv kv) ?_ ?_ w.ms _ #[f,[],kv,kv,rfl,#[hk,QY _],(λx j=>by cases j),rfl];rintro b ⟨h,g,a,o7,e,⟨X,o⟩,W,rfl⟩;have e:g.map (λx=>x.1)=w.ms:=by rw[<- e,qI]
 have o:h.9<=f.9+w.ms.length:=o;delta K5;simp![↓DT];rw[<- bA dH];refine#[(),?_];refine RA (λp=>T.d (dH p)) (λr b=>∃k a o7 i,k++r.flatMap (λp=>Ka w l u p.1)=OE w l u/\k.9+10 * r.9<=200/\b=K5 w l u h g a o7 (oW (.lst ((k.map pr).map T.d))) i) ?_ ?_ w.ps _ #[[],_,_,kv,rfl,by show 0+10 * w.ps.9<=200;omega,rfl];rintro b ⟨k,a,o7,i,e3,_,rfl⟩;have e3:k=OE w l u:=by rw[<- e3];exact(qI k).symm
 subst e3;delta K5;simp![↓yA];exact q h X ();rintro p r b N Y ⟨k,a,o7,i,e3,K,rfl⟩;have K:k.9+10 * (r.9+1)<=200:=K;have A:=Y1 n l u p.1;refine Jz n e W () (Y _ #[k++Ka w l u p.1,a,o7,_,?_,by rw[QJ];omega,rfl]);rw[Q1];exact e3;rintro m r b N Y ⟨h,g,a,o7,e,⟨X,o⟩,W,rfl⟩;have o:h.9+(r.9+1)<=f.9+w.ms.length:=o;have B:g.9+(r.9+1)=w.ms.length:=by rw[<- e,QJ,QA];rfl
 have nd:=n.mn;rw[<- e]at nd;refine Yz I G F n hv X () () (λz=>(qT.mp nd).2.2 m z m QE rfl) λs v M R L=>Y _ #[s,g++[(m,v)],_,_,?_,#[M,()],?_,rfl];rw[QT,Q1];exact e;intro x j;rcases Qf.mp j with j|j;exact W x j;rw[QI.mp j];exact L
end
end L2.L3.K46
namespace L2.L3
open PySem PySem.Spec PyProof.Rows PySem.W PySem.SeqAt
noncomputable def jAx(ks:List (Int×Int))(i j:Nat):Bool:=decide ((ks.getD i (0,0)).1<(ks.getD j (0,0)).1∨(ks.getD i (0,0)).1=(ks.getD j (0,0)).1/\(ks.getD i (0,0)).2<(ks.getD j (0,0)).2)
noncomputable def zx{α:Type}(lt:Nat->Nat->Bool):KasT α->α
 | .ret a=>a|.ask i j k=>zx lt (k (lt i j))
def xU(ks:List (Int×Int))(n:Nat):Array Nat:=if n<2 then qG (Qo n) else zx (jAx ks) (kas_sort n)
theorem vC.ev{α:Type}{n:Nat}{P:α->Prop}(lt:Nat->Nat->Bool):∀{t:KasT α},vC n P t->P (zx lt t)
 | .ret _,h=>h|.ask i j k,#[_,_,h]=>vC.ev (t:=k (lt i j)) lt (h _)
theorem vC.wpE{α:Type}{n:Nat}{P:α->Prop}{lt:Nat->Nat->Bool}{x:Nat->Nat->(Bool->kt->Prop)->kt->Prop}{Q:α->kt->Prop}{s:kt}(y:∀i j,i<n->j<n->∀C:Bool->kt->Prop,C (lt i j) s->x i j C s):∀{t:KasT α},vC n P t->Q (zx lt t) s->t.kasWp x Q s
 | .ret _,_,q=>q|.ask i j _,#[h1,h2,h],q=>y i j h1 h2 _ (vC.wpE y (h _) q)
def GD(h:vu)(v:kb)(p:Int×Int):Prop:=∃a o n t u,v=.ref a/\h.get? a=jr o/\o.cls=.type "tuple"/\o.data=.seq (qG [Value.int p.1 t,Value.int p.2 u]) n
theorem GD.keep{h h':vu}{v:kb}{x:Int×Int}{c:ko}{u:Obj}(e:h.get? c=jr u)(hc:u.cls≠.type "tuple")(k:∀b o,b≠c->h.get? b=jr o->h'.get? b=jr o)(t:GD h v x):GD h' v x:=by let#[a,o,n,t,r,f,y,w,d]:=t;exact#[a,o,n,t,r,f,k _ _ (λz=>by rw[z,e]at y;cases y;exact hc w) y,w,d]
section
variable{prog:k5}{w:xb}{A:x0}{E:dC}{s:kt}
section
variable{vs:LW}{r f:ko}{a b c:Int}{t u v:Tok}{n:Nat}{kz:List (Int×Int)}
theorem Gn{v u:kb}{x y:Int×Int}{Q:Bool->kt->Prop}(hv:GD s.1 v x)(z:GD s.1 u y)(q:Q (decide (x.1<y.1∨x.1=y.1/\x.2<y.2)) s):ku (k0 prog w) A (keyLt' (tuples' kf) v u) Q E s:=by let#[a,o,n,t,r,rfl,g,_,j]:=hv;let#[b,p,X,l,m,rfl,k,_,i]:=z;refine kat_lt g j k i (kat_cons (QA0 ?_));by_cases e:x.1=y.1;rw[e,beq_self_eq_true];refine kat_yes (kat_cons (QA0 ?_));by_cases h:x.2=y.2;rw[h,beq_self_eq_true];refine kat_yes (kat_nil ?_);rw[show decide (x.1<y.1∨x.1=y.1/\x.2<y.2)=kd from dF ()]at q;exact q;rw[beq_false_of_ne h];refine kat_no (kat_one _ _ (PyProof.Rows.lt_int ?_));rw[show decide (x.1<y.1∨x.1=y.1/\x.2<y.2)=decide (x.2<y.2) from decide_eq_decide.mpr ()]at q;exact q;rw[beq_false_of_ne e];refine kat_no (oneLt_int ?_);rw[show decide (x.1<y.1∨x.1=y.1/\x.2<y.2)=decide (x.1<y.1) from decide_eq_decide.mpr ()]at q;exact q
theorem S9{ns:List (Int×Int)}{Q:SortKind->kt->Prop}(l:xo (GD s.1) vs ns)(K:2<=vs.9)(q:Q (tuples' kf) s):ku (k0 prog w) A (keyKind' vs.toArray) Q E s:=by
 have key:∀{vs:LW}{ns:List (Int×Int)},xo (GD s.1) vs ns->∃fs,KatTups s.1 vs fs/\fs.9=vs.9/\∀f∈fs,∃x t,f=.int x t:=by
  intro vs ns h;induction h with
  |nil=>exact#[[],.nil,rfl,λ_ z=>(nomatch z)]
  |@cons v x Z Y h _ e=>let#[fs,j,i,g]:=e;let#[a,o,n,t,r,rfl,p,hc,X]:=h;refine#[.int x.1 t::fs,.cons (f:=.int x.1 t) p hc X (by simp) j,by rw[QM,QM,i],λf m=>?_];rcases QK.mp m with rfl|z;exact#[_,_,rfl];exact g f z
 let#[fs,k,W,y]:=key l;exact kat_kind (T:=.type "int") k () (λv hv=>by let#[x,t,rfl]:=y v hv;exact .of_pure rfl) (by decide) q
theorem uI{α x:Type}{R:α->x->Prop}{d:α}{e:x}:∀{l:List α}{m:List x},xo R l m->∀i,i<l.9->R (l.getD i d) (m.getD i e)
 |_,_,.nil,i,h=>i3 h (Nat.not_lt_zero _)|_,_,.cons r _,0,_=>r|_,_,.cons _ t,i+1,h=>uI t i (ww h)
theorem YL{α x:Type}{R:α->x->Prop}:∀{l z:List α}{m y:List x},xo R l m->xo R z y->xo R (l++z) (m++y)
 |_,_,_,_,.nil,h=>h|_,_,_,_,.cons r t,h=>.cons r (YL t h)
theorem sP{Q:LW->kt->Prop}(Y:A.handled=kv)(q:tv s.1 r a b c t u v)(x:QBn a b c=kf)
  (X:WV a b c=n) (z:n<=2 ^ 24)
  (h:∀h' g y,(∀b o,s.1.get? b=jr o->h'.get? b=jr o)->s.1.1.size<h'.1.size->ItemsOf (λi v=>∃t,v=.int (a+i * c) t) y n->Q y.toList { s with heap:=h',toks:=g }) :
  ku (k0 prog w) A (collect (.ref r)) Q E s:=by
 unfold collect;refine QD (wpAny_runValue (w8 F.entry_proto_collect ?_));rw[wC F.plain_proto_collect _];show ku _ A.in1 (newList [] >>= λl=>again (.builtin "list.__iadd__" #[[l,.ref r],[]])) _ _ s;refine QD (qM ?_);refine QL #[WY QCF _,w8 F.entry_list_iadd ?_];rw[wC QCF _];have Z:(s.1.push { cls:=.type "list",data:=.seq ([]:LW).toArray }).get? s.1.1.size=jr { cls:=.type "list",data:=.seq #[] }:=QS _ rfl;show ku _ A.in1 (w9 (.ref s.1.1.size) (.ref r) (.ref s.1.1.size)) _ _ _;refine wpAny_extend_range (R:=λr j=>match r with | .ok (.ret v)=>ku (k0 prog w) A (match v with | .ref a=>(do let o <- load a;match o.data with | .seq m _=>ti m.toList|_=>unsupported "internal:collect")|_=>unsupported "internal:collect") Q E j | .ok _=>False | .error e=>E e j) (s:={ s with heap:=s.1.push { cls:=.type "list",data:=.seq ([]:LW).toArray } }) Y (QH _ q) x X z _ _ _ Z λh' g y W p k it=>?_;show ku _ A (load s.1.1.size >>= _) _ _ _;refine QD (wpAny_load k ?_);exact QL (h h' g y (λb o e=>p b o (Qi (QV e)) (QH _ e)) (QV k) it)
theorem Ln{a:ko}{P:PySem.Fin->kt->Prop}(ho:s.1.get? a=jr (u0 "list" vs.toArray n))(h64:vs.9<64)(hl:kz.9=vs.9)
  (hf:∀(h:vu) (g:Nat),(∀b o,b≠a->s.1.get? b=jr o->h.get? b=jr o)->∀(i:Nat) (x:kb) (p:Int×Int),vs[i]?=jr x->kz[i]?=jr p->∀C:kb->kt->Prop,
   (∀Z m k,(∀b o,h.get? b=jr o->Z.get? b=jr o)->GD Z k p->C k { s with heap:=Z,toks:=m })->ku (k0 prog w) A (Er (.ref f) [x]) C (λ_ _=>False) { s with heap:=h,toks:=g })
  (k:∀(p:Array Nat) (h':vu) (g c:Nat),Pm vs.9 p->p=xU kz vs.9->(∀b o,b≠a->s.1.get? b=jr o->h'.get? b=jr o)->h'.get? a=jr (u0 "list" (p.toList.map λi=>vs.getD i j2).toArray c)->P (.done (.ret .none)) { s with heap:=h',toks:=g }) :
  ku (k0 prog w) A (ksk_tree a (.ref f) kd) P E s:=by
 have ha:a<s.1.1.size:=QV ho;have s1:=qB s.1 a (Q4 λ_=>(#[]:Array kb));obtain⟨G,ho1⟩:∃G,(s.1.update a (Q4 λ_=>(#[]:Array kb))).get? a=jr (u0 "list" #[] G):=#[_,QAF ho λ_=>#[]]
 generalize hH:((s.1.update a (Q4 λ_=>(#[]:Array kb))).push (u0 "tuple" vs.toArray 0))=hT;have S:hT.1.size=s.1.1.size+1:=by rw[<- hH,size_push',QCV]
 have kS0:(hT.push (u0 "list" #[] 0)).get? hT.1.size=jr (u0 "list" #[] 0):=QS _ rfl;have a0:(hT.push (u0 "list" #[] 0)).get? a=jr (u0 "list" #[] G):=QH _ (by rw[<- hH];exact QH _ ho1);have kp0:∀b o,b≠a->s.1.get? b=jr o->(hT.push (u0 "list" #[] 0)).get? b=jr o:=λb o hb e=>QH _ (by rw[<- hH];exact QH _ ((s1.2 b hb).trans e));have naK:a≠hT.1.size:=by rw[S];exact Qi (WB ha)
 unfold ksk_tree;refine QD (QCM ho rfl (QD (WZ ho rfl ?_ (by rw[QN];omega) (Qq _))));refine QD (QBm ho1 rfl (QD (QBe ?_ (by show vs.9<=_;omega))));refine QD (QAr (qY ?_) (Qq _));rw[hH];generalize hK:hT.1.size=kS at *;have fin:∀(y:LW) (e:Nat) (h:vu) (g:Nat) (st:SortSt) (p:Array Nat),y.9=vs.9->h.get? kS=jr (u0 "list" (qG y) e)->h.get? a=jr (u0 "list" #[] G)->(∀b o,b≠a->s.1.get? b=jr o->h.get? b=jr o)->Pm vs.9 p->p=xU kz vs.9 ->
   (arrOf st).map (·.2)=qG (p.toList.map λi=>vs.getD i j2)->ir st=kv->ku (k0 prog w) A (ksk_tail a kd G (.ref kS) st) P E { s with heap:=h,toks:=g }:=by
  intro y e h g st p Y hk l I pm H hout N;have t1:=qB h kS (Q4 λ_=>(#[]:Array kb));have R:=(t1.2 a naK).trans l;have t2:=qB (h.update kS (Q4 λ_=>(#[]:Array kb))) a (Q4 λ_=>qG (p.toList.map λi=>vs.getD i j2));have hps:(p.toList.map λi=>vs.getD i j2).9=vs.length:=by rw[QA,(qU.mp pm).length_eq];simp
  unfold ksk_tail;dsimp only;rw[hout];refine QD (WZ hk rfl ?_ (by rw[QN,qA];omega) (Qq _));refine QD (QCd (QD (QBm R rfl (QD (WZ R rfl ?_ (Qq _) (by simp only[Qu,if_false];rw[QN,qA];omega))))));rw[N];simp only[bne_self_eq_false,Qu,if_false];refine QL (k p _ g _ pm H (λb o hb e=>?_) (QAF R λ_=>qG (p.toList.map λi=>vs.getD i j2)));have O:b≠kS:=λz=>by have:=QV e;rw[z,S]at this;exact i3 this (Nat.not_lt.mpr (qq _))
  exact(t2.2 b hb).trans ((t1.2 b O).trans (I b o hb e))
 have L:∀(y:LW) (e:Nat) (h:vu) (g:Nat),xo (GD h) y kz->h.get? kS=jr (u0 "list" (qG y) e)->h.get? a=jr (u0 "list" #[] G)->(∀b o,b≠a->s.1.get? b=jr o->h.get? b=jr o) ->
   ku (k0 prog w) A (ksk_end a kd vs.toArray G (.ref kS) (qG y)) P E { s with heap:=h,toks:=g }:=by
  intro y e h g B hk l I;have Y:y.9=vs.length:=(qE B).trans hl;unfold ksk_end;dsimp only;simp only[Qu,if_false];by_cases h2:vs.9<2;have F:vs.toArray.size<2:=by rw[QN];exact h2
  rw[i0 F,i0 F];refine QD (QL ?_);rw[QCg];refine QD (QL ?_);refine fin y e h g _ (qG (Qo vs.9)) Y hk l I (QCf _) (i0 h2).symm ?_ rfl;show((qG y).zip vs.toArray).map (·.2)=_;rw[vQ];apply WJ.mp;simp[WL,Y];have F:¬ vs.toArray.size<2:=by rw[QN];exact h2
  rw[ii F,ii F];refine QD (S9 (s:={ s with heap:=h,toks:=g }) B () ?_);have tree:(kas_sort vs.9).kasWp (kas_ask prog w A (tuples' kf) y) (λp W=>W={ s with heap:=h,toks:=g }/\Pm vs.9 p/\p=xU kz vs.9) { s with heap:=h,toks:=g } :=
   vC.wpE (lt:=jAx kz) (λi j hi hj C hC=>Gn (s:={ s with heap:=h,toks:=g }) (uI B i ()) (uI B j ()) hC) (KO ()) #[rfl,(KO ()).ev _,(ii h2).symm]
  refine QD (qm (kat_run (Q:=λK W=>∃p:Array Nat,arrOf K=p.map (kas_item ((qG y).zip vs.toArray))/\ir K=kv/\W={ s with heap:=h,toks:=g }/\Pm vs.9 p/\p=xU kz vs.9) Y () h64 (λp K W _ a2 a3 a4=>#[p,a2,a3,a4]) tree) ?_ λ_ _ x=>x);rintro⟨⟨⟩,K⟩ W ⟨p,har,N,rfl,pm,H⟩;exact fin y e h g K p Y hk l I pm H (kat_snds Y har) N
 unfold ksk_rest;refine QD (QBU ?_);rw[List.forIn_toArray];refine QD (ksk_fold (λj W=>∃(y:LW) (e:Nat) (h:vu) (g:Nat),W={ s with heap:=h,toks:=g }/\xo (GD h) y (kz.take j)/\h.get? kS=jr (u0 "list" (qG y) e)/\h.get? a=jr (u0 "list" #[] G)/\(∀b o,b≠a->s.1.get? b=jr o->h.get? b=jr o)/\j<=vs.9) vs 0 _ #[[],0,_,s.toks,rfl,.nil,kS0,a0,kp0,Qq _] (λj x W hx hI=>?_) λW hI=>?_);let#[y,e,h,g,rfl,B,hk,l,I,jl]:=hI;rw[Wr]at B jl ⊢;have jv:j<vs.length:=(Qh.mp hx).1;have hkl:y.9=j:=by rw[qE B,qH];omega
 have hzj:kz[j]?=jr (kz[j]'()):=Qk _;refine QD (QAA (qm (hf h g I j x _ hx hzj (λJ W=>∃Z m,W={ s with heap:=Z,toks:=m }/\(∀b o,h.get? b=jr o->Z.get? b=jr o)/\GD Z J (kz[j]'())) λZ m J X ka=>#[Z,m,rfl,X,ka]) (λJ W hc=>?_) λ_ _ z=>z.elim));let#[Z,m,rfl,X,ka]:=hc;have ea:(qG y).push J=qG (y++[J]):=by simp
 have s5:=qB Z kS (Q4 (·.push J));have M:=X _ _ hk;dsimp only;refine QD (WZ M rfl ?_ (by rw[QN,qA];omega) (QW (wx (Array.size_push ..)) (by rw[QN,qA];omega)));refine QL #[rfl,y++[J],_,_,m,rfl,?_,by rw[<- ea];exact QAF M (·.push J),(s5.2 a naK).trans (X _ _ l),λb o hb q=>?_,jv];have H:∀{v:kb}{x:Int×Int},GD Z v x->GD (Z.update kS (Q4 (·.push J))) v x:=λt=>t.keep M (by show Value.type "list"≠Value.type "tuple";decide) λb o hb q=>(s5.2 b hb).trans q;rw[List.take_succ,hzj];exact YL (L2.Paired.mapP B λ_ _ #[a1,o1,n1,t1,r1,G,g1,c1,d1]=>H #[a1,o1,n1,t1,r1,G,X _ _ g1,c1,d1]) (.cons (H ka) .nil);have O:b≠kS:=λz=>by have:=QV q;rw[z,S]at this;exact i3 this (Nat.not_lt.mpr (qq _))
 exact(s5.2 b O).trans (X _ _ (I b o hb q));let#[y,e,h,g,rfl,B,hk,l,I,_]:=hI;rw[Wr,<- hl,QCW]at B;exact QD (QCM hk rfl (L y e h g B hk l I))
theorem Ec{Q:dC}(S:A.handled=kv)(N:tv s.1 r a b c t u v)(y:QBn a b c=kf)
  (R:WV a b c=n) (h64:n<64) (hl:kz.9=n)
  (H:∀(Y:vu) (z:Nat),(∀b o,s.1.get? b=jr o->Y.get? b=jr o)->∀(i:Nat) (Z:Tok) (p:Int×Int),kz[i]?=jr p->∀C:kb->kt->Prop,
   (∀I W k,(∀b o,Y.get? b=jr o->I.get? b=jr o)->GD I k p->C k { s with heap:=I,toks:=W })->ku (k0 prog w) A.in1.in1 (Er (.ref f) [Value.int (a+i * c) Z]) C (λ_ _=>False) { s with heap:=Y,toks:=z })
  (k:∀(p:Array Nat) (vs:LW) (D:ko) (h':vu) (z e:Nat),Pm n p->p=xU kz n->(∀b o,s.1.get? b=jr o->h'.get? b=jr o)->s.1.1.size<=D->vs.9=n->(∀(i:Nat) x,vs[i]?=jr x->∃t,x=Value.int (a+i * c) t) ->
   h'.get? D=jr (u0 "list" (p.toList.map λi=>vs.getD i j2).toArray e)->Q (.ref D) { s with heap:=h',toks:=z }) :
  ku (k0 prog w) A (Er (.builtin "sorted") [.ref r] [(Qa "key",.ref f)]) Q E s:=by
 refine call_function_entry_kw kind_sorted plain_sorted entry_sorted (ksk_s1 _ _) ?_;unfold Builtin.«sorted»;refine QD (m:=checkCount "sorted" 1 1 _) (QL ?_);refine QD (sP S N y R () λg K h l G it=>?_);have M:h.toList.9=n:=by rw[Q2];exact it.1
 refine QD (QAr ?_ (by rw[qA];omega));have X:(g.push (u0 "list" h.toList.toArray 0)).get? g.1.size=jr (u0 "list" h.toList.toArray 0):=QS _ rfl;have j:∀b o,s.1.get? b=jr o->(g.push (u0 "list" h.toList.toArray 0)).get? b=jr o:=λb o q=>QH _ (l b o q);refine QD (qY (wpAny_call_entry_kw im #[_,X,rfl] a9 ?body (ksk_l1 _ _)))
 case body =>
  show ku (k0 prog w) A.in1.in1 (Builtin.«list.sort» #[[.ref g.1.size],[(Qa "key",.ref f)]]) _ _ _;rw[ksk_t1];have nD:∀b o,s.1.get? b=jr o->b≠g.1.size:=λb o q=>Qi (QV (l b o q));refine Ln (s:={ s with heap:=g.push (u0 "list" h.toList.toArray 0),toks:=K }) (kz:=kz) X () () (λY z B i x p F O C hC=>?_) λp h' z c L J B P=>#[_,rfl,QL #[_,rfl,?_]]
  let#[Z,rfl]:=it.2 i x (by rw[<- F,Ws]);exact H Y z (λb o q=>B b o (nD b o q) (j b o q)) i Z p O C hC;rw[M]at L J;exact k p h.toList _ h' z c L J (λb o q=>B b o (nD b o q) (j b o q)) (QBF G) M (λi x F=>it.2 i x (by rw[<- F,Ws])) P
end
end
section
variable{U Z p2 W V Y X K:Pos}
noncomputable abbrev O9(U Z p2 W V Y X:Pos):Expr:=.Tuple [.Subscript (.Subscript (.Name "events" U) (.Name "number" Z) p2) (.Constant (.int 1) 0 W) V,.Name "number" Y] 0 X
noncomputable abbrev Jf(K:Pos):Arguments:={ posonlyargs:=[],args:=[{ arg:="number",annotation:=kv,pos:=K }],vararg:=kv,kwonlyargs:=[],kw_defaults:=[],kwarg:=kv,defaults:=[] }
noncomputable abbrev zY:Scope:={ kind:=.function,names:=[(Qa "number",.local),(Qa "events",.free)],isGenerator:=kd,isCoroutine:=kd,more:=[] }
variable{prog:k5}{w:xb}{A:x0}{E:dC}{s:kt}
section
variable{h h':vu}{y n:ko}{i:Nat}{g:Int}{l:Tok}
def CP(h:vu)(y:ko)(i:Nat)(g:Int):Prop:=∃(x z:Array kb) (t:ko) (u:Tok),(h.IsList y x∨a8 h y x)/\x[i]?=jr (.ref t)/\i<2 ^ 62/\x.size<2 ^ 62/\a8 h t z/\z[1]?=jr (.int g u)/\z.size<2 ^ 62
theorem CP.keepB{P:ko}{m:Array kb}(p:h.get? P=jr (tabObj m))(k:∀b o,b≠P->h.get? b=jr o->h'.get? b=jr o)(x:CP h y i g):CP h' y i g:=by
 let#[f,j,t,u,a,b,c,q,#[o,d],e]:=x;have v:∀{b:ko}{o:Obj}{T:String},h.get? b=jr o->o.cls=.type T->b≠P:=λe c z=>by rw[z,p]at e;cases e;cases c
 refine#[f,j,t,u,?_,b,c,q,#[o,k _ _ (v d.1 d.2.1) d.1,d.2],e];rcases a with⟨o,a⟩| ⟨o,a⟩
 exact .inl #[o,k _ _ (v a.1 a.2.1) a.1,a.2];exact .inr #[o,k _ _ (v a.1 a.2.1) a.1,a.2]
theorem CP.keep(z:∀b o,h.get? b=jr o->h'.get? b=jr o)(x:CP h y i g):CP h' y i g:=by
 let#[v,k,t,u,a,b,c,f,#[o,d],e]:=x;refine#[v,k,t,u,?_,b,c,f,#[o,z _ _ d.1,d.2],e];rcases a with⟨o,a⟩| ⟨o,a⟩
 exact .inl #[o,z _ _ a.1,a.2];exact .inr #[o,z _ _ a.1,a.2]
theorem M9{env:Env}{L:ko}{m:Str->Option kb}{Q:dC}(hk:env.scope=zY)(G:env.cells.lookup (Qa "events")=jr n)(hc:s.1.IsCell n (jr (.ref y)))
  (S:env.locals=L) (P:s.1.Ns L m) (R:m "number"=jr (.int i l)) (F:CP s.1 y i g)
  (q:∀J u,Q (.ref s.1.1.size) { s with heap:=s.1.push { cls:=.type "tuple",data:=.seq (qG [Value.int g u,Value.int i l]) },toks:=J }) :
  ku (k0 prog w) A (g6 (O9 U Z p2 W V Y X) env) Q E s:=by
 have N:env.kindOf "number"=jr .local:=by show env.scope.names.lookup _=_;rw[hk];rfl
 have O:env.kindOf "events"=jr .free:=by show env.scope.names.lookup _=_;rw[hk];rfl
 have k:env.scope.kind=.function:=by rw[hk]
 let#[C,B,t,u,a,b,c,c2,d,e,c3]:=F;subst S;have v:∀{p:Pos}{Q:dC}(z:kt),z.1=s.1->Q (.int i l) z->ku (k0 prog w) A (g6 (.Name "number" p) env) Q E z:=λz I q=>QBS (QBV k N (by rw[I];exact P) R q) (by decide);refine QBi ?_;show ku _ _ (ew ((kd,g6 (.Subscript (.Subscript (.Name "events" U) (.Name "number" Z) p2) (.Constant (.int 1) 0 W) V) env)::fv X (xk [.Name "number" Y] env))) _ _ s;refine wA (QB7 (QB7 (QBS (QBh k O G hc (v _ rfl ?_) (by decide)) (by decide))));have o:(0:Int)<=(i:Int):=QB4 i;have f:(i:Int)<2 ^ 63:=by omega (config:={})
 have M:∀{Q:dC},Q (.ref t) s->ku (k0 prog w) A (ab (.Name "events" U) (.Name "number" Z) (.ref y) (.int i l)) Q E s:=λ{Q} q=>by rcases a with a|a;exact item_listR a o f (by simpa using b) q;have I:i<C.size:=(QAN.mp b).1;exact qj (x:=.ref t) a.typeIs QAO.lookup (QBy (j:=i) (Q:=λr z=>r=.ref t/\Q r z) a (by omega (config:={})) f (by rw[QAp o (by omega (config:={}))];simp) b #[rfl,q])
 refine M (QBv ?_);have H:1<B.size:=(QAN.mp e).1;refine qj (x:=.int g u) (s:={ s with toks:=s.toks+1 }) (show a8 s.1 t B from d).typeIs QAO.lookup (QBy (j:=1) (show a8 s.1 t B from d) (by decide) (by decide) (by rw[QAp (by decide) (by omega (config:={}))];rfl) e #[rfl,?_]);show ku _ _ (ew ((kd,g6 (.Name "number" Y) env)::fv X (xk [] env))) _ _ _;exact wA (v _ rfl (wa #[by rw[qA];show 2<=_;decide,q _ _]))
theorem N9{f L:ko}{z:Str}{N I:kb}{C:dC}(j:A.depth<c0)(P:s.1.get? f=jr (kla_obj "<lambda>" z (Jf K) (O9 U Z p2 W V Y X) zY [(Qa "events",n)] N L I))
  (F:s.1.CodeRec (.ref L) z) (r:s.1.NoLimit) (hc:s.1.IsCell n (jr (.ref y))) (B:CP s.1 y i g)
  (k:∀G p v,(∀b o,s.1.get? b=jr o->G.get? b=jr o)->GD G v (g,(i:Int))->C v { s with heap:=G,toks:=p }) :
  ku (k0 prog w) A (Er (.ref f) [.int i l]) C E s:=by
 refine wpAny_call (kla_callFunE j P rfl rfl rfl rfl F ?_);show ku _ _ (ti [(Qa "number",Value.int i l)]) _ _ _;refine QL (QBW (show ∀x∈zY.names,x.2≠NameKind.cell by decide) (by intro x O;rcases QI.mp O with rfl;rfl) (λJ q m=>#[r.fresh _ m,kla_codeExpr ?_]) rfl);have a:∀b o,s.1.get? b=jr o->J.get? b=jr o:=λb o e=>m.extBut b o (Qi (QV e)) (QH _ e);refine M9 (s:={ s with heap:=J,toks:=s.toks+1 }) rfl rfl (hc.keeps a) rfl q rfl (B.keep a) λM u=>?_;exact k _ M _ (λb o e=>QH _ (a b o e)) #[_,_,_,_,_,rfl,QS _ rfl,rfl,rfl]
end
end
theorem kZ{pos:Pos}{a b:Int}{c y:kb}(l:LW)(h:nc l)(g:f5 pos (l++[hB a,hB b,c])=jr y):f5 pos l=jr y∨y=c:=by
 fun_induction nc l with
 |case1=>right;have g:f5 pos [hB a,hB b,c]=jr y:=g;unfold hB f5 at g;split at g;exact(Qm g).symm;cases g|case2 i t f u x v w=>simp only[QAx,f5]at g ⊢;split at g;rename_i z;rw[i0 z];exact .inl g;rename_i z;rw[ii z];exact w h g|case3 l e k=>exact h.elim
section
variable{X:Cx}{h:IB}{σ:St}{H:Hp}{s:kt}
theorem _root_.L2.Inv.tabbed{P x:ko}{q:Str}{y:Array kb}{K W:Int}{h':vu}{t':Nat}(I:Inv X h σ H s)(m:H P=jr (.tbl q))(N:s.1.get? P=jr (tabObj y))(A:nc y.toList)(p:∀pos l,f5 pos y.toList=jr l->∃c,l=.ref c/\H c=jr (.own P)/\s.1.CodeRec l q)
  (a:QAE P s.1 h') (i:s.1.1.size<=x) (B:h'.CodeRec (.ref x) q) (f:h'.get? P=jr (tabObj (y++(qG [hB K,hB W,.ref x])))):H x=kv/\Inv X h σ (FA H x (.own P)) { s with heap:=h',toks:=t' }:=by
 have C:H x=none:=I.hok.fresh i;have w:∀b o,H b=jr o->b≠x:=λb o e z=>by rw[z,C]at e;cases e
 have Z:∀b,H b=kv->b≠P:=λb e z=>by rw[z,m]at e;cases e
 refine#[C,I.un #[λb o e n _ _=>a b o (Z b n) e,λb o e n _ _=>#[o.slots,a b o (Z b n) e],λb o e n _=>?_,λb o e _=>?_,λb F e=>?_,λb o u e=>?_,λb q e=>?_] λb u e=>?_];rw[uA (Qi (Qr (QV e) i))];exact n;by_cases hb:b=P
 ·exact#[_,hb▸f]
 exact#[o,a b o hb e];rw[uA (w b _ e)];exact e;rw[uA (w b _ e)];exact e;rw[uA (w b _ e)];exact e;by_cases hb:b=x
 ·subst hb
  rw[ZA]at e;cases e;let#[c,o,Y,t,M,L,_]:=B;cases M;exact#[o,L]
 rw[uA hb]at e;by_cases j:b=P;subst j;rw[m]at e;cases e;refine#[_,f,?_,λpos l g=>?_];simpa using TriplesOk_snoc K W _ y.toList A;rcases kZ y.toList A (by simpa using g) with g|rfl
 ·let#[c,rfl,o,O,ob,Y,G,E,J,r]:=p pos l g
  cases E;refine#[c,rfl,by rw[uA (w c _ o)];exact o,c,ob,Y,G,rfl,a _ _ (λz=>?_) J,r];rw[z,m]at o;cases o
 exact#[x,rfl,ZA,B];refine(I.hok b u e).stay (λd v k g=>a d v (λz=>?_) g) (λd g=>by rw[uA (w d _ g)];exact g) λd F g=>by rw[uA (w d _ g)];exact g
 rcases k with k|k;exact j (k.symm.trans z);rw[z,m]at k;cases k
end
def jAw(K:QC)(H:Hp)(xs:LV)(kz:List (Int×Int)):Prop:=kz.9=xs.9/\∀(j:Nat) p,kz[j]?=jr p->p.2=j/\∃t h,xs[j]?=jr (.ref t)/\LD K H t h/\h[1]?=jr (.int p.1)
def jAs(K:QC)(P:ko)(i:Nat):TE:=λz H Q=>∃ev h y,z[i]?=jr (jr (.ref ev))/\(YC K H ev h∨LD K H ev h)/\jAw K H h y/\h.9<64 /\
 ∀(p:Array Nat) x l,Pm h.9 p->p=xU y h.9->(x=H∨∃c,H c=kv/\x=FA H c (.own P))->x l=kv->Q (.ref l) (FA x l (.lst (p.toList.map λ(i:Nat)=>V.int i)))
section
variable{X:Cx}{J G p2 F E B W U Z S M Y g d a O L:Pos}
section
variable{x:IB}{σ:St}{H:Hp}{s:kt}{y:ko}{kz:List (Int×Int)}{i:Nat}{q:Str}
theorem Iu{xs:LV}(I:Inv X x σ H s)(k:YC X.K H y xs∨LD X.K H y xs)(C:jAw X.K H xs kz):∀(j:Nat) p,kz[j]?=jr p->CP s.1 y j p.1:=λj p N=>by let#[_,t,ys,f,Q,P]:=C.2 j p N;have hz:=qA;let#[h,n,w,R]:=I.tuple Q;let#[u2,o,A]:=n.get P;let#[m,rfl]:=A;have l2:=n.9;have jl:j<xs.length:=(Qh.mp f).1;rcases k with k|k;let#[v,r,b,z]:=I.list k;let#[u,e,q]:=r.get f;cases q;have l:=r.9;exact#[v.toArray,h.toArray,t,m,.inl b.isList,by simpa using e,(),by rw[QN];omega,w,by simpa using o,by rw[QN];omega];let#[v,r,b,z]:=I.tuple k;let#[u,e,q]:=r.get f;cases q;have l:=r.9;exact#[v.toArray,h.toArray,t,m,.inr b,by simpa using e,(),by rw[QN];omega,w,by simpa using o,by rw[QN];omega]
theorem xg(I:Inv X x σ H s)(w:X.N[i]?=jr (Qa "events"))(h:X.env.scope.names.lookup (Qa "events")=jr .cell)(hv:σ[i]?=jr (jr (.ref y))):∃v,X.env.cells.lookup (Qa "events")=jr v/\s.1.IsCell v (jr (.ref y)):=by
 let#[m,_,hl]:=I.loc;let#[u,r,l]:=hl i "events" _ w hv (.inr (.inl h));cases r;rcases l with⟨k,_⟩| ⟨_,c,e,z⟩
 have k:X.env.scope.names.lookup (Qa "events")=jr .local:=k;rw[h]at k;cases k;exact#[c,e,z]
theorem bL{n:Nat}{vs:LW}(hv:∀i,i<n->∃t,vs.getD i j2=.int (i:Int) t):∀l:LN,(∀i∈l,i<n)->oA (l.map λ(i:Nat)=>V.int i) (l.map λi=>vs.getD i j2)
 |[],_=>.nil|i::l,h=>.cons (hv i (h i QE)) (bL hv l λj z=>h j (QF _ z))
theorem iV{R f ce c':ko}{b ctv:kb}{t u v:Tok}{Q:VK}{n:Nat}(I:Inv X x σ H s)(hh:X.A.handled=kv)(z:X.A.in1.in1.depth<c0)
  (ho:s.1.get? f=jr (kla_obj "<lambda>" q (Jf U) (O9 J G p2 F E B W) zY [(Qa "events",ce)] b c' ctv)) (m:s.1.CodeRec (.ref c') q) (hc:s.1.IsCell ce (jr (.ref y))) (hev:∀(j:Nat) p,kz[j]?=jr p->p.2=j/\CP s.1 y j p.1)
  (hl:kz.9=n) (h64:n<64) (hr:tv s.1 R 0 n 1 t u v) (k:∀(p:Array Nat) l,Pm n p->p=xU kz n->H l=kv->Q (.ref l) (FA H l (.lst (p.toList.map λ(i:Nat)=>V.int i)))) :
  ku (k0 X.prog X.w) X.A (Er (.builtin "sorted") [.ref R] [(Qa "key",.ref f)]) (EP X x σ Q) X.xe s:=by
 refine Ec (n:=n) hh hr (small_one (by decide) (by decide) () ()) (by rw[pu];split<;>omega) h64 hl (λh3 P h j tx p hj C hC=>?_) λp K D h' P e b up h r vl hvs ho'=>?_;let#[e2,ev']:=hev j p hj;have e3:(0:Int)+(j:Int) * 1=(j:Int):=()
 rw[e3];refine N9 (s:={ s with heap:=h3,toks:=P }) z (h _ _ ho) (m.keeps h) (I.nolimit.keeps h) (hc.keeps h) (ev'.keep h) λh4 N v kp4 ka=>hC h4 N v kp4 ?_;rw[<- e2]at ka;exact ka;have pl:∀i∈p.toList,i<n:=λi hi=>by simpa using(qU.mp b).mem_iff.mp hi
 have ps:p.toList.9=n:=by rw[(qU.mp b).length_eq];simp
 refine#[.ref D,FA H D (.lst (p.toList.map λ(i:Nat)=>V.int i)),I.laid (t':=P) h r #[by rw[QA,ps,qA];omega,_,e,bL (λi hi=>?_) p.toList pl,ho'],rfl,k p D b up (I.hok.fresh r)];have o:i<K.length:=()
 let#[t,e]:=hvs i (K[i]) (Qk o);refine#[t,?_];have:K.getD i j2=K[i]:=by simp[o]
 rw[this,e,show(0:Int)+(i:Int) * 1=(i:Int) by omega]
theorem Sd{c P:ko}(hN:X.N[i]?=jr (Qa "events"))(hs:X.env.scope.names.lookup (Qa "events")=jr .cell)(n:X.env.code=.ref c)(hC:CodeHd X.base c P)(hT:FQ X.mg X.base P q)(hq:q=X.env.qual++"<lambda>")(hb:X.base.BuiltinsAt X.mg P)(hgP:k4≠P)
  (g1:Gl X "sorted") (m1:X.mg "sorted"=kv) (g2:Gl X "range") (m2:X.mg "range"=kv) (g3:Gl X "len") (m3:X.mg "len"=kv) (hh:X.A.handled=kv) (f:X.A.in1.in1.depth<c0) :
  PE X (.Call (.Name "sorted" S) [.Call (.Name "range" M) [.Call (.Name "len" Y) [.Name "events" g] [] d] [] a] [#[jr "key",.Lambda (Jf U) (O9 J G p2 F E B W) zY Z,O]] L) (jAs X.K P i):=by
 rintro x s σ H Q I ⟨y,xs,kz,hv,hsq,m,h64,k⟩;refine qe (nE I g1 m1 boot_sorted ?_);refine callWith_kw ?_;show ku _ _ (ew ((kd,g6 (.Call (.Name "range" M) [.Call (.Name "len" Y) [.Name "events" g] [] d] [] a) X.env)::fv L (xk [] X.env))) _ _ s;have paL:PA X [.Call (.Name "len" Y) [.Name "events" g] [] d] _:=HR (JU MJ g3 m3 boot_len (HR (m8 hN (.inr (.inl hs))) sX)) sX;refine wA (Call_ (nE I g2 m2 boot_range (callWith_type1 (DB (paL a x s σ H (λvs H1=>vs=[.int xs.9]/\H1=H) I ?_) λus h #[vs,H1,I1,r1,q1]=>?_) rfl rfl)));exact#[_,hv,y,xs,rfl,hsq,rfl,rfl];let#[rfl,rfl]:=q1;cases r1 with
 |cons r rr =>
 cases rr;let#[t,rfl]:=r;refine call_range_1 (wa (kws_cons (kla_eval rfl ?_)));have w:Inv X x σ H1 { h with heap:=h.1.push { cls:=.type "range",data:=.fields (qG [.int 0 h.toks,.int xs.9 t,.int 1 (h.toks+1)]) },toks:=h.toks+1+1 }:=I1.kept λb o e=>QH _ e;have hr2:tv (h.1.push { cls:=.type "range",data:=.fields (qG [.int 0 h.toks,.int xs.9 t,.int 1 (h.toks+1)]) }) h.1.1.size 0 xs.9 1 h.toks t (h.toks+1):=QS _ rfl;have hP:=w.tb P q hT;let#[ps,hp,ht,hps]:=w.hok P _ hP;let#[ce,hce,hcl]:=xg w hN hs hv;have R:mx zY X.env=ti [(Qa "events",ce)]:=by unfold mx cellOf;simp[hce]
 let#[bm,ob,b1,b2,b3,b4,b5,b6]:=hb;have hb2:=And.intro b1 (And.intro b2 (And.intro b3 (And.intro b4 (And.intro (w.bk _ _ b5) b6))));have evs:=Iu w hsq m;subst hq;cases e:f5 Z ps.toList with|none=>refine kla_makeFunction (mg:=X.mg) R I.ok.glob (w.mod.glob.keeps w.bk) n (hC.keeps w.bk) hp ht e hgP #[bm,ob,hb2] λc' ctv h' tk hx hge hlt v htb=>evalAll_nil ?_;let#[hn,I3]:=w.tabbed (t':=tk) hP hp ht hps hx hge v htb;have C:∀{oN:Obj}(b:ko) (o:Obj),h'.get? b=jr o->(h'.push oN).get? b=jr o:=λb o e=>QH _ e;let#[oc,c1,c2]:=hcl;show ku _ _ (Er (.builtin "sorted") [.ref h.1.1.size] [(Qa "key",.ref h'.1.size)]) _ _ _;refine iV (I3.kept C) hh f (QS _ rfl) (v.push _) #[oc,C _ _ (hx _ _ (λz=>?_) c1),c2] (λj p hj=>#[(m.2 j p hj).1,((evs j p hj).keepB hp hx).keep C]) m.1 h64 (C _ _ (hx _ _ (λz=>?_) hr2)) λp l pm u hl=>k p _ l pm u (.inr #[c',hn,rfl]) hl;rw[z,hp]at c1;cases c1;cases c2;have z2:=hp.symm.trans (z▸hr2);cases z2|some cv=>let#[c',rfl,_,v]:=hps _ _ e;refine kla_makeFunctionHit (mg:=X.mg) R I.ok.glob (w.mod.glob.keeps w.bk) n (hC.keeps w.bk) hp ht e #[bm,ob,hb2] λctv h' tk kp hge=>evalAll_nil ?_;have C:∀{oN:Obj}(b:ko) (o:Obj),(h.1.push { cls:=.type "range",data:=.fields (qG [.int 0 h.toks,.int xs.9 t,.int 1 (h.toks+1)]) }).get? b=jr o->(h'.push oN).get? b=jr o:=λb o e=>QH _ (kp b o e);show ku _ _ (Er (.builtin "sorted") [.ref h.1.1.size] [(Qa "key",.ref h'.1.size)]) _ _ _;exact iV (w.kept C) hh f (QS _ rfl) (v.keeps C) (hcl.keeps C) (λj p hj=>#[(m.2 j p hj).1,(evs j p hj).keep C]) m.1 h64 (C _ _ hr2) λp l pm u hl=>k p _ l pm u (.inl rfl) hl
end
end
noncomputable def xO:D->Option Int
 | .tuple h=>(match h[1]? with|some (j1 t)=>jr t|_=>kv)
 |_=>kv
def CK(evs:List D):List (Int×Int):=(Qo evs.9).map λ(i:Nat)=>(((evs[i]?).bind xO).getD 0,(i:Int))
theorem U5{evs:List D}{j:Nat}{p:Int×Int}(h:(CK evs)[j]?=jr p):j<evs.9/\p=(((evs[j]?).bind xO).getD 0,(j:Int)):=by unfold CK at h;rw[Qc]at h;by_cases c:j<evs.9;rw[WP c]at h;exact#[c,(Qm h).symm];rw[qD (by simpa using c)]at h;cases h
def iw(evs:List D)(ns:LN):Prop:=ns.Perm (Qo evs.9)/\ns=(xU (CK evs) evs.9).toList
def gt:PSp where
 run:=λy Q _=>∃h:List D,y=[.d (.list h)]/\h.9<64/\(∀e∈h,∃t,xO e=jr t)/\∀x,iw h x->Q (.lst (x.map λ(i:Nat)=>.d (.int i))) []
theorem D7{K:QC}{H x:Hp}{a:ko}{xs:LV}(e:Same H x)(h:LD K H a xs):LD K x a xs:=by rcases h with(h|⟨o,h⟩)|h;exact .inl (.inl (e _ _ h));exact .inl (.inr #[o,e _ _ h]);exact .inr h
section
variable{P:k5}{w:xb}{K:QC}{mg:Str->Option kb}{base:vu}{Ψ:PEv}{D C p2 B W U n m g a0 a1 R O N L J I y:Pos}
noncomputable abbrev Kz:Scope:={ kind:=.function,names:=[(Qa "events",.cell),(Qa "sorted",.globalImplicit),(Qa "range",.globalImplicit),(Qa "len",.globalImplicit)],isGenerator:=kd,isCoroutine:=kd,more:=[] }
noncomputable abbrev jAz(D C p2 B W U n m g a0 a1 R O N L J I y:Pos):List Stmt:=[.Return (jr (.Call (.Name "sorted" a0) [.Call (.Name "range" a1) [.Call (.Name "len" R) [.Name "events" O] [] N] [] L] [#[jr "key",.Lambda (Jf m) (O9 D C p2 B W U n) zY g,J]] I)) y]
theorem K1{H F:Hp}{vs:LV}{Q:VK}{E:XK}{T:ko}(h:lift K gt vs H Q E):vs.9=1/\jAs K T 0 (sD [Qa "events"] vs) H λv H'=>Q v H':=by
 let#[F,ts,M,Y,h1,h2,h3,h4,x,rfl,h64,he,q]:=h;cases h2 with
 |chg hm=>cases hm|@rd _ v vs' _ _ Z _ hr _ r =>
 cases r;refine#[rfl,?_];cases hr with
 |d rp hz =>
 cases rp with
 |@lst a xs _ hq rs =>
 have A:xs.9=x.length:=rs.9;have kl:(CK x).9=xs.length:=by unfold CK;rw[QA,Q8,A]
 refine#[a,xs,CK x,rfl,.inl (h1.seq hq),#[kl,λj p hj=>?_],by rw[A];exact h64,λp H1 l pm up hH hl=>?_];let#[jl,rfl]:=U5 hj;have G:x[j]?=jr (x[j]'jl):=Qk jl;let#[t,k]:=he _ (wO jl);let#[v,v1,v2]:=rs.get G;refine#[rfl,?_];rw[G];show ∃t ys,_/\_/\ys[1]?=jr (V.int ((xO x[j]).getD 0));rw[k];generalize x[j]=e at *;cases v2 with
 |@tup b ys ds sq rs2 =>
  have k:(match ds[1]? with|some (j1 t)=>jr t|_=>kv)=jr t:=k;cases hd:ds[1]? with
  |none=>rw[hd]at k;cases k|some d =>
   rw[hd]at k;let#[u,u1,u2]:=rs2.get hd;cases u2 with|int i=>cases k;exact#[b,ys,v1,D7 h1 sq,u1]|_=>cases k
 |_=>cases k
 have pn:p.size=x.length:=by have:=pm.size_eq;simpa[A]using this
 have f:H l=none:=by
  rcases hH with rfl|⟨c,hc,rfl⟩
  exact hl;by_cases z:l=c
  ·rw[z];exact hc
  rw[uA z]at hl;exact hl
 have hs:Same H H1:=by
  rcases hH with rfl|⟨c,hc,rfl⟩
  exact λ_ _ e=>e;exact λb o e=>by rw[uA (YA e hc)];exact e
 have s:Same H (FA H1 l (.lst (p.toList.map λ(i:Nat)=>V.int i))):=λb o e=>by rw[uA (YA e f)];exact hs b o e
 have fl:F l=none:=by
  cases z:F l with|none=>rfl|some o=>rw[h1 l o z]at f;cases f
 have X:∀S:LN,Trs K F (FA H1 l (.lst (p.toList.map λ(i:Nat)=>V.int i))) kf (S.map λ(i:Nat)=>V.int i) (S.map λ(i:Nat)=>.d (.int i)) λ_=>False:=λS=>by
  induction S with|nil=>exact .nil λ_ z=>z|cons i r ih=>exact .cons (.d (.int _) λ_ (z:False)=>z) ih (λ_ z=>z.elim) λb=>#[Qg,λz=>z.elim id id]
 refine q p.toList #[?_,?_] (.ref l) F (FA H1 l (.lst (p.toList.map λ(i:Nat)=>V.int i))) (λb=>b=l) (λ_=>False) #[λ_ _ e=>e,λb o e=>s b o (h1 b o e),λb u e _=>s b u e,λb e=>?_,λb e z=>i3 e z] (.lst ZA fl (X _) (λz=>z) λb=>#[.inl,λz=>z.elim id Qg]) (.nil λ_ z=>z) (λ_ _ z=>z) λb z=>.inr (z.elim (λz=>z▸f) Qg);rw[A]at pm;exact qU.mp pm;rw[up,A];cases z:H b with|none=>rfl|some o=>rw[s b o z]at e;cases e
theorem Df{f c T:ko}{oc kV v l ct:kb}{M Y:Option ko}{b:Array (Option kb)}{z:Rt}{k:Nat}(X:K.In base)(G:base.Ns k4 mg)(p:mg "going_order"=jr (.ref f))
  (lk:K.lookup f=jr #[oc,M,.func (fnOf "going_order" "going_order" z (jAz D C p2 B W U n m g a0 a1 R O N L J I y) Kz .none kV v l Y (.ref c) ct),b])
  (j:codeIn K (.ref c) "going_order"=kf) (e:keepIn K (.ref f)=kf) (r:CodeHd base c T) (hb:base.BuiltinsAt mg T) (i:k4≠T) (m1:mg "sorted"=kv) (m2:mg "range"=kv) (m3:mg "len"=kv)
  (u:∀us:LW,us.9=1->lp (fnOf "going_order" "going_order" z (jAz D C p2 B W U n m g a0 a1 R O N L J I y) Kz .none kV v l Y (.ref c) ct) #[us,[]]=ti ([Qa "events"].zip us)) (hR:Ψ.sp "going_order"=gt):jH P w K mg base Ψ (k+1) "going_order":=by
 have S:FnScope [Qa "events"] [Qa "events"] Kz:=#[rfl,rfl,rfl,by decide,rfl,by intro x hx;rcases QI.mp hx with rfl;exact .inr rfl,by decide]
 refine#[f,_,[Qa "events"],?_,p,e,.all u];rw[hR];refine Ah lk j S (λZ H Q E h=>(K1 (T:=T) (F:=H) h).1) λA a s H Z Q E o h=>#[_,HZ (k8 (Sd (q:=(Qa "going_order")++(Qa ".<locals>.<lambda>")) rfl rfl rfl r ?_ ?_ hb i rfl m1 rfl m2 rfl m3 o.hd ?_)),(K1 (F:=H) h).2]
 exact#[f,_,_,c,p,X _ _ lk,rfl,rfl,r,rfl];show Qa "going_order"++Qa ".<locals>.<lambda>"=(Qa "going_order"++Qa ".<locals>.")++Qa "<lambda>";decide;exact WU (QW (QA2 _ (3 * k)) (QA2 _ 5)) o.dp
end
end L2.L3
namespace L2.L3.K46
open PySem PySem.Spec PyProof.Rows L2 L2.L3
def mP(a b:Nat):Bool:=decide (a<=b)
def srt(l:LN):LN:=l.mergeSort mP
theorem Yu(a b c:Nat)(x:mP a b=kf)(y:mP b c=kf):mP a c=true:=dT (QW (oa x) (oa y))
theorem Zu(a b:Nat):(mP a b||mP b a)=true:=by rcases Nat.le_total a b with z|z;rw[show mP a b=kf from dT z];rfl;rw[show mP b a=kf from dT z,QCG]
theorem Gk(l:LN):(srt l).Pairwise λa b=>a<=b:=(List.pairwise_mergeSort Yu Zu l).imp λz=>oa z
theorem Hk{z l:LN}(h:z.Perm l)(u:z.Pairwise (·<=·)):z=srt l:=QCh.eq_of_pairwise (λa b _ _ x y=>Nat.le_antisymm x y) u (Gk l) (h.trans (QBo l mP).symm)
theorem vU(l:LN):(srt l).Perm l:=QBo l mP
noncomputable abbrev Stp:=Nat×Bool×LN×List Pt
structure Gs where
 past:LN
 taken:LN
 held:List Pt
 steps:List Stp
def iq(w:Wd)(g:Gs)(n:Nat):Bool:=Ix w (xP w g.past) g.held (uB w.es n)
def EW(w:Wd)(g:Gs)(n:Nat):LN:=if(iq w g n&&decide (gc (uB w.es n)="tell"))=kf then g.taken++[n] else g.taken
def Fn(w:Wd)(g:Gs)(n:Nat):LN:=srt (ZH w.es (EW w g n) (xP w (g.past++[n])))
def Iw(w:Wd)(g:Gs)(n:Nat):List Pt:=OE w (g.past++[n]) (Fn w g n)
def jD(w:Wd)(g:Gs)(n:Nat):Gs:=#[g.past++[n],EW w g n,Iw w g n,g.steps++[(n,iq w g n,Fn w g n,Iw w g n)]]
def tB(w:Wd)(ns:LN):Gs:=ns.foldl (jD w) #[[],[],[],[]]
noncomputable def kP(s:Stp):D:=.tuple [nD s.1,.bool s.2.1,.list (s.2.2.1.map nD),.list (s.2.2.2.map pr)]
def cc(l:LN):T:=.lst ((l.map nD).map T.d)
def Lf(w:Wd)(past taken:LN)(wr held:List Pt)(x:Kn)(st:List Stp)(o8 h o10:Option Sl):xA:=[bD (wD w),bD (.list (w.es.map VD)),oW (cc past),oW (cc taken),oW (CI wr),bD (.list (held.map pr)),oW (t6 x),oW (.lst ((st.map kP).map T.d)),o8,h,o10]
theorem m9(l:LN)(n:Nat):cc (l++[n])=.lst ((l.map nD).map T.d++[T.d (nD n)]):=by unfold cc;rw[QT,QT];rfl
theorem Fk(l:List Stp)(n:Stp):((l++[n]).map kP).map T.d=(l.map kP).map T.d++[T.d (kP n)]:=by rw[QT,QT];rfl
theorem F7{evs:List Evt}{h:LN}{ks:List Pt}{K:T->LT->Prop}{E:XE}(l:h.9<64)(a:∀n∈h,n<evs.9/\HD (uB evs n))(q:K (.lst (((srt (ZH evs h ks)).map nD).map T.d)) []):RL kH [.d (.list (evs.map VD)),.lst ((h.map nD).map T.d),CI ks] K E:=#[evs,h,ks,rfl,l,a,λz y x=>by rw[Hk y x];exact q]
section
variable{Ψ:PEv}{E:XE}{K:TK}{y x:D}{u:List D}{k:T}{g f e c b w v:Option Sl}
theorem Hf(h:Ψ.sp "held_among"=PD)(q:RL PD [.d y,.lst (u.map T.d),.d x,k] (λr j=>∃n,j=[n]/\K r kf [bD y,g,oW (.lst (u.map T.d)),f,e,c,oW n,b,w,v,bD x]) E):zB Ψ (.call "held_among" %[.var 0,.var 2,.var 10,.var 6|1]) E [bD y,g,oW (.lst (u.map T.d)),f,e,c,oW k,b,w,v,bD x] K:=by show ∃j,NA (cA (Ψ.sp "held_among").md %[.var 0,.var 2,.var 10,.var 6|1]) [bD y,g,oW (.lst (u.map T.d)),f,e,c,oW k,b,w,v,bD x]=jr j/\(cA (Ψ.sp "held_among").md %[.var 0,.var 2,.var 10,.var 6|1]).Nodup/\(pe Ψ %[.var 0,.var 2,.var 10,.var 6|1] E).a (Ψ.sp "held_among").md (clear (cA (Ψ.sp "held_among").md %[.var 0,.var 2,.var 10,.var 6|1]) [bD y,g,oW (.lst (u.map T.d)),f,e,c,oW k,b,w,v,bD x]) λp l=>∃o,sA (Ψ.sp "held_among").md p j=jr o/\(Ψ.sp "held_among").run o (λr m=>∃i,uC (cA (Ψ.sp "held_among").md %[.var 0,.var 2,.var 10,.var 6|1]) m l=jr i/\K r kf i) E;rw[h];refine#[[k],rfl,Qj.mpr #[wv,Qx],?_];refine#[rfl,?_];refine#[[.d y,.lst (u.map T.d),.d x,k],?_,?_];show(match UE (T.lst (u.map T.d)) with|some t=>(jr [T.d x,k]).map (t::·)|none=>kv).map (T.d y::·)=_;rw[V7];rfl;refine PD.mono (λr j z=>?_) (λ_ z=>z) q;let#[n,rfl,z]:=z;exact#[_,rfl,z]
end
section
variable{Ψ:PEv}{Z:PEnds}{w:Wd}{y:Kn}{n:Nat}{o10:Option Sl}{g:Gs}{ns:LN}
theorem Ru(m:Ψ.sp "wrong_among"=zG)(k:Ψ.sp "live_among"=kH)(l:Ψ.sp "held_among"=PD){past taken:LN}{wr held:List Pt}{st:List Stp}{b:Bool}(z:WOk w)(r:past.9<=60)(v:∀n∈past,n<w.es.9)(o:taken.9<=60)(u:∀n∈taken,n<w.es.9/\HD (uB w.es n))(hk:jP w y)(e:y.9<=10000)(p:st.9<=60)
  (q:∀h,jP w h->h.9<=y.9+10->Z.nx (Lf w past taken (xP w past) (OE w past (srt (ZH w.es taken (xP w past)))) h (st++[(n,b,srt (ZH w.es taken (xP w past)),OE w past (srt (ZH w.es taken (xP w past))))]) (bD (nD n)) (bD (.bool b)) (bD (.list ((srt (ZH w.es taken (xP w past))).map nD))))) :
  pF Ψ zL Z (Lf w past taken wr held y st (bD (nD n)) (bD (.bool b)) o10):=by
 have x:=vU (ZH w.es taken (xP w past));have fl:=Qw (λn=>!decide (((TJ (uB w.es n)).1,(TJ (uB w.es n)).2)∈xP w past)) taken;have a:x6 w (srt (ZH w.es taken (xP w past))):=#[by rw[x.length_eq];unfold ZH;omega,λn j=>u n (QX.mp (x.mem_iff.mp j)).1]
 delta Lf cc;delta zL;simp![↓jA (md:=[.fro,.shal]) m rfl rfl,↓jA (md:=[.fro,.shal,.bor]) k rfl rfl,↓OA,↓nW,↓tw];refine#[_,_,rfl,z,(),v,?_];simp![↓jA (md:=[.fro,.shal,.bor]) k rfl rfl,↓OA,↓nW,↓tw];refine F7 () u ?_;simp![↓yA];refine Hf l (#[_,_,_,_,rfl,#[z,(),v],a,#[hk,e],λh i f=>#[_,rfl,?_]]);simp![↓yA];rw[QA,QA];refine#[(),(),?_];have q:=q h i f;unfold Lf cc at q;rw[Fk]at q;exact q
structure GsOk(w:Wd)(g:Gs):Prop where
 p:∀n∈g.past,n<w.es.9
 tl:g.taken.9<=g.past.9
 t:∀n∈g.taken,n<w.es.9/\HD (uB w.es n)
 h:c6 g.held
 s:g.steps.9=g.past.9
theorem BS(z:WOk w)(l u:LN):c6 (OE w l u):=by intro p h;let#[x,v,h]:=wQ.mp h;let#[m,k,rfl]:=QO.mp h;exact#[z.po x v,z.mo m (QX.mp k).1]
theorem Nc{e:Evt}(h:gc e="tell"):HD e:=by
 cases e with|see t p m x=>exact i3 (show Qa "see"=Qa "tell" from h) (by decide)|tell t a b m x q=>exact#[t,a,b,m,x,q,rfl]
theorem Mg(h:GsOk w g)(x:n<w.es.9):(EW w g n).9<=g.past.9+1/\∀k∈EW w g n,k<w.es.9/\HD (uB w.es k):=by have:=h.tl;unfold EW;split;rename_i c;rw[Qb,o2]at c;refine#[by rw[QJ];exact WI this,λk hk=>?_];rcases Qf.mp hk with hk|hk;exact h.t k hk;rw[QI.mp hk];exact#[x,Nc c.2];exact#[(),h.t]
theorem DS(v:WOk w)(h:GsOk w g)(x:n<w.es.9):GsOk w (jD w g n):=by
 let#[u,z]:=Mg h x;refine#[λk hk=>?_,?_,z,BS v _ _,?_];rcases Qf.mp hk with hk|hk
 ·exact h.p k hk
 rw[QI.mp hk];exact x;show(EW w g n).9<=(g.past++[n]).9;rw[QJ];exact u;show(g.steps++_).9=(g.past++[n]).9;rw[QJ,QJ,h.s];rfl
theorem Vz(C:Ψ.sp "is_taken"=aZ)(B:Ψ.sp "wrong_among"=zG)(A:Ψ.sp "live_among"=kH)(K:Ψ.sp "held_among"=PD){j:Option Sl}(i:WOk w)(a:GsOk w g)(E:g.past.9<60)(v:n<w.es.9)(hk:jP w y)(X:y.9<=10000)
  (q:∀x j o10,jP w x->x.9<=y.9+10->Z.nx (Lf w (g.past++[n]) (EW w g n) (xP w (g.past++[n])) (Iw w g n) x (jD w g n).steps (bD (nD n)) j o10)) :
  pF Ψ ZO Z (Lf w g.past g.taken (xP w g.past) g.held y g.steps (bD (nD n)) j o10):=by
 have F:=a.tl;have I:=a.s;let#[G,m]:=Mg a v;have o:∀k∈g.past++[n],k<w.es.length:=(DS i a v).p;have r:=λ{o10}=>Ru (Z:=Z) (wr:=xP w g.past) (held:=g.held) (st:=g.steps) (n:=n) (b:=iq w g n) (o10:=o10) B A K i (past:=g.past++[n]) (by rw[QJ];exact E) o (taken:=EW w g n) () m hk X () λx W Y=>q x _ _ W Y;delta Lf cc;delta ZO;simp![↓GW v,↓jA (md:=[.fro,.fro,.bor,.fro]) C rfl rfl,↓OA,↓nW,↓tw];refine#[_,_,_,_,rfl,i,(i.ev v),a.h,?_];simp![↓GW v,↓FW];rw[QA,QA,<- m9];refine#[(),?_];have e:Ix w (xP w g.past) g.held (uB w.es n)=iq w g n:=rfl;rw[e];cases u:iq w g n with
 |false=>have f:EW w g n=g.taken:=ii (by rw[u];exact λz=>by cases z);rw[f,u]at r;exact r|true =>
  cases l:decide (gc (uB w.es n)="tell") with|false=>have f:EW w g n=g.taken:=ii (by rw[u,l];exact λz=>by cases z);rw[f,u]at r;exact r|true=>have f:EW w g n=g.taken++[n]:=i0 (by rw[u,l];rfl);rw[f,u]at r;simp![↓yA];rw[QA,QA,<- m9];exact#[(),r]
theorem Pf(e:Evt):∃t,xO (VD e)=jr t:=by
 cases e with|see t p m h=>exact#[t,rfl]|tell t a b m h q=>exact#[t,rfl]
def UI(w:Wd)(ns:LN):Prop:=iw (w.es.map VD) ns
theorem x9(h:UI w ns):∀n∈ns,n<w.es.length:=λn x=>by
 have:=qW.mp (h.1.mem_iff.mp x)
 rwa [QA]at this
theorem u9(h:UI w ns):ns.9=w.es.length:=by rw[h.1.length_eq,Q8,QA]
theorem ul{K:T->LT->Prop}{E:XE}(x:WOk w)(q:∀ns,UI w ns->K (cc ns) []):RL gt [.d (.list (w.es.map VD))] K E:=#[_,rfl,by rw[QA];exact WU x.el (by decide),λe z=>by
 let#[v,_,rfl]:=QO.mp z;exact Pf v,λns h=>by
 have:=q ns h;unfold cc at this;rw[QR]at this;exact this]
def dM:PSp where
 run:=λh Q _=>∃w:Wd,h=[.d (wD w)]/\WOk w/\∀ns,UI w ns->Q (.lst (((tB w ns).steps.map kP).map T.d)) []
theorem jAi{E:XE}{r:PT}{i:Nat}{ρ:xA}:BE Ψ E r Z i (.lst []) kf ρ=mB Ψ E r Z (ρ.set i (bD (.list []))):=gx (ds:=[])
theorem He(l:Ψ.sp "going_order"=gt)(C:Ψ.sp "is_taken"=aZ)(B:Ψ.sp "wrong_among"=zG)(A:Ψ.sp "live_among"=kH)(K:Ψ.sp "held_among"=PD):EC Ψ jZ dM Ib LZ:=by rintro _ Q _ ⟨w,rfl,k,q⟩;have I:=k.el;refine zA [bD (wD w),kv,kv,kv,kv,kv,kv,kv,kv,kv,kv] ?_;delta jZ;simp![↓jR,↓jA (md:=[]) l rfl rfl];refine#[(),(),(),?_];simp![↓jAi,↓jA (md:=[]) l rfl rfl];refine#[(),ul k λns u=>?_];delta cc;simp![↓yA];rw[<- bA nD];have E:=u9 u;refine RA (λn=>T.d (nD n)) (λr a=>∃g y i f o10,r.foldl (jD w) g=tB w ns/\(GsOk w g/\g.past.9+r.9<=60/\∀n∈r,n<w.es.9)/\(jP w y/\y.9<=10 * g.past.9)/\a=Lf w g.past g.taken (xP w g.past) g.held y g.steps i f o10) ?_ ?_ ns _ #[#[[],[],[],[]],[],kv,kv,kv,rfl,#[#[λ_ z=>(by cases z),QY _,λ_ z=>(by cases z),λ_ z=>(by cases z),rfl],by show 0+ns.9<=60;omega,x9 u],#[λ_ z=>(by cases z),QY _],rfl];rintro a ⟨g,y,i,f,o10,e,_,_,rfl⟩;have e:g=tB w ns:=e;subst e;delta Lf;simp![↓yA];exact q ns u;rintro n r a N W ⟨g,y,i,f,o10,e,⟨p,o,m⟩,⟨s,F⟩,rfl⟩;have o:g.past.9+(r.9+1)<=60:=o;have j:=m n QE;refine Vz C B A K k p () j s () λh b v X G=>W _ #[jD w g n,h,_,b,v,e,#[DS k p j,?_,λx Y=>m x (QF _ Y)],#[X,?_],rfl];show(g.past++[n]).9+r.9<=60;rw[QJ];show g.past.9+1+r.9<=60;omega;show h.9<=10 * (g.past++[n]).9;rw[QJ];show h.9<=10 * (g.past.9+1);omega
def jh(w:Wd):Gs->LN->List Stp
 |_,[]=>[]|g,n::r=>(n,iq w g n,Fn w g n,Iw w g n)::jh w (jD w g n) r
theorem kU(w:Wd):∀(ns:LN) (g:Gs),(ns.foldl (jD w) g).steps=g.steps++jh w g ns
 |[],g=>(qI _).symm|n::r,g=>by show(r.foldl (jD w) (jD w g n)).steps=_;rw[kU w r];show(g.steps++[_])++_=g.steps++(_::_);rw[Q1];rfl
def g0:Gs:=#[[],[],[],[]]
theorem FS(w:Wd)(ns:LN):(tB w ns).steps=jh w g0 ns:=kU w ns g0
theorem jBy(w:Wd):GsOk w g0:=#[λ_ z=>(by cases z),QY _,λ_ z=>(by cases z),λ_ z=>(by cases z),rfl]
end
section
variable{w:Wd}{es:List Evt}{f:Nat->Nat}(h:∀n,uB es n=uB w.es (f n))
include h
end
section
variable{n:Nat}{l:List D}
theorem V9{ks:List Pt}{p q:Pt}:q∈VO ks p↔q∈ks∨q=p:=by unfold VO;split;rename_i c;exact#[.inl,λh=>h.elim id λe=>e▸c];rw[Qf,QI]
def O2(evs:List Evt)(x m:Str)(n:Nat):Prop:=∃t h,uB evs n=.see t x m h
theorem mQ{evs:List Evt}{x m:Str}:∀(l:LN) (ks:List Pt),(x,m)∈l.foldl (kC evs) ks↔(x,m)∈ks∨∃n∈l,O2 evs x m n
 |[],ks=>#[.inl,λh=>h.elim id λ#[_,h,_]=>by cases h]|n::l,ks=>by
  show(x,m)∈l.foldl (kC evs) (kC evs ks n)↔_;rw[mQ l];have e:(x,m)∈kC evs ks n↔(x,m)∈ks∨O2 evs x m n:=by
   unfold kC O2;cases uB evs n with|see t p y z=>show _∈VO ks (p,y)↔_;rw[V9];exact or_congr WF #[λe=>by cases e;exact#[_,_,rfl],λ#[_,_,e]=>by cases e;rfl]|tell t a b y z q=>exact#[.inl,λh=>h.elim id λ#[_,_,e]=>by cases e]
  rw[e,or_assoc];refine or_congr WF #[λh=>?_,λ#[k,hk,h]=>?_];rcases h with h|⟨k,hk,h⟩
  ·exact#[n,QE,h]
  exact#[k,QF _ hk,h];rcases QK.mp hk with rfl|hk
  ·exact .inl h
  exact .inr #[k,hk,h]
theorem lU{evs:List Evt}{l:LN}{x m:Str}:(x,m)∈iB evs l↔∃n∈l,O2 evs x m n:=(mQ l []).trans #[λh=>h.elim (λh=>by cases h) id,.inr]
def K0(n:Nat)(x:D):Prop:=x.canLay0=kf/\x.depth<=n
theorem NN{n:Nat}:∀{l:List D},(∀x∈l,K0 n x)->qr l=kf/\wc l<=n
 |[],_=>#[rfl,Qq _]|x::l,h=>by let#[k,w]:=h x QE;let#[u,z]:=NN (l:=l) λy v=>h y (QF _ v);exact#[by show(x.canLay0&&qr l)=kf;rw[k,u];rfl,Nat.max_le.mpr #[w,z]]
theorem cz(h:∀x∈l,K0 n x):K0 (n+1) (.list l):=#[(NN h).1,WI (NN h).2]
theorem xz(h:∀x∈l,K0 n x):K0 (n+1) (.tuple l):=#[(NN h).1,WI (NN h).2]
theorem Bn{s:Str}(h:OkS s):K0 n (.str s):=#[h,Qq _]
theorem Lh{x:D}(h:K0 n x)(y:n<=64):RF x:=#[h.1,QW h.2 y]
theorem Cn{x:D}(h:K0 n x)(u:∀y∈l,K0 n y):∀y∈x::l,K0 n y:=λy z=>by rcases QK.mp z with rfl|z;exact h;exact u y z
theorem uz:∀y∈([]:List D),K0 n y:=λy h=>by cases h
theorem bz{α:Type}{f:α->D}{l:List α}(h:∀a∈l,K0 n (f a)):∀y∈l.map f,K0 n y:=λy x=>by let#[a,z,rfl]:=QO.mp x;exact h a z
end
theorem XX{w:Wd}{ns x:LN}(h:UI w ns)(h':UI w x):ns=x:=h.2.trans h'.2.symm
structure StK(w:Wd)(s:Stp):Prop where
 n:s.1<w.es.9
 l:x6 w s.2.2.1
 h:c6 s.2.2.2
theorem Eg{w:Wd}(z:WOk w):∀(ns:LN) (g:Gs),GsOk w g->g.past.9+ns.9<=60->(∀n∈ns,n<w.es.9)->∀s∈jh w g ns,StK w s
 |[],_,_,_,_,s,h=>by cases h|n::r,g,hg,hl,hn,s,h=>by have v:=hn n QE;have u:=DS z hg v;have hl:g.past.9+(r.9+1)<=60:=hl;have b:(jD w g n).past.9=g.past.9+1:=QJ;rcases QK.mp h with rfl|h;have k:=vU (ZH w.es (EW w g n) (xP w (g.past++[n])));have fl:(ZH w.es (EW w g n) (xP w (g.past++[n]))).9<=(EW w g n).length:=Qw _ _;have a:(EW w g n).9<=(jD w g n).past.length:=u.tl;refine#[v,#[?_,λx y=>u.t x (QX.mp (k.mem_iff.mp y)).1],BS z _ _];show(Fn w g n).9<=100;unfold Fn;rw[k.length_eq];omega;exact Eg z r _ u () (λx y=>hn x (QF _ y)) s h
theorem l7{w:Wd}:∀(ns:LN) (g:Gs),(jh w g ns).map (λs=>s.1)=ns
 |[],_=>rfl|n::r,g=>o9 (n::·) (l7 r _)
theorem IN{w:Wd}{ns:LN}(h:WOk w)(x:UI w ns):(tB w ns).steps.map (λs=>s.1)=ns/\(tB w ns).steps.9<=60/\∀s∈(tB w ns).steps,StK w s:=by have z:=h.el;have y:=u9 x;have e:=l7 (w:=w) ns g0;have l:=o9 qO e;rw[QA]at l;rw[FS];exact#[e,(),Eg h ns g0 (jBy _) (by show 0+_<=_;omega) (x9 x)]
noncomputable def U9(st:List Stp):LN:=match st.getLast? with
 |some s=>s.2.2.1|none=>[]
theorem lM(l:List Stp)(s:Stp):U9 (l++[s])=s.2.2.1:=by unfold U9;rw[QBb]
theorem bR(st:List Stp):st=[]∨∃l s,st=l++[s]:=by
 rcases QBP st with h|⟨l,s,h⟩
 exact .inl h;exact .inr #[l,s,by rw[h,QBQ]]
theorem X9{w:Wd}{st:List Stp}(h:∀s∈st,StK w s):x6 w (U9 st):=by
 rcases bR st with rfl|⟨l,s,rfl⟩
 exact#[Qq _,λ_ z=>by cases z];rw[lM];exact(h s (QZ _ QE)).l
theorem bT{α:Type}(l:List α)(x:α):vD (l++[x]) (-1)=jr x:=by unfold vD UT;rw[ii (by decide),QJ,i0 (by show -(((l.9+1:Nat)):Int)<=-1;omega)];show(l++[x])[((-1:Int)+((l.9+1:Nat):Int)).toNat]?=_;rw[show((-1:Int)+((l.9+1:Nat):Int)).toNat=l.9 by omega,Qy (QY _),QBO];rfl
def VL(w:Wd)(st:List Stp):D:=.tuple [wD w,.list (st.map kP)]
def Xq(w:Wd)(st:List Stp):T:=.tup [.d (wD w),.lst ((st.map kP).map T.d)]
theorem zi(w:Wd)(st:List Stp):(Xq w st).er=VL w st:=by show PyData.tuple [wD w,.list (ersT ((st.map kP).map T.d))]=_;rw[UA];rfl
def PM:PSp where
 run:=λx Q _=>∃w:Wd,x=[.d (wD w)]/\WOk w/\∀h,UI w h->Q (Xq w (tB w h).steps) []
theorem su{a:D}{l:LT}:KC [.d a,.lst l]=.tup [.d a,.lst l]:=rfl
theorem Bm{Ψ:PEv}(z:Ψ.sp "gone"=dM):EC Ψ eE PM EH fG:=by rintro _ Q _ ⟨w,rfl,x,q⟩;refine zA [bD (wD w)] ?_;delta eE;simp![↓jA (md:=[]) z rfl rfl];refine#[_,rfl,x,λh y=>?_];simp![↓su];exact#[(),q h y]
section
variable{w:Wd}{st:List Stp}{n m:Bool}{R:T->Prop}{xs:List (T×Bool)}{C:LT->Prop}{s:Stp}
theorem uL:KA (.d (VL w st)) n (.d (.int 0)) m R=R (.d (wD w)):=aA (i:=0) rfl
theorem C6:KA (.d (VL w st)) n (.d (.int 1)) m R=R (.d (.list (st.map kP))):=aA (i:=1) rfl
theorem jw:LA [] ((Xq w st,kf)::xs) C=LA [] xs λts=>C (.d (VL w st)::ts):=by have e:sA [] ((Xq w st,kf)::xs) []=(sA [] xs []).map (.d (Xq w st).er::·):=rfl;unfold LA;rw[e,zi,IC]
theorem Xx:KA (.d (kP s)) n (.d (.int 0)) m R=R (.d (nD s.1)):=aA (i:=0) rfl
theorem Rq:KA (.d (kP s)) n (.d (.int 2)) m R=R (.d (.list (s.2.2.1.map nD))):=aA (i:=2) rfl
theorem Pq:KA (.d (kP s)) n (.d (.int 3)) m R=R (.d (.list (s.2.2.2.map pr))):=aA (i:=3) rfl
end
def gI{α:Type}(l:List α)(i:Int)(d:α):α:=(vD l i).getD d
theorem sF{α:Type}{l:List α}{i:Int}{d:α}(z:0<=i)(y:i<l.9):vD l i=jr (gI l i d)/\gI l i d∈l:=by let#[v,x,h]:=iM z y;unfold gI;rw[x];exact#[rfl,qN h]
theorem gE{α:Type}{f:α->D}{l:List α}{i:Int}(d:α){K:D->Prop}(x:0<=i)(h:i<l.9)(q:K (f (gI l i d))):bF (vD (l.map f) i) K:=by rw[GF,(sF (d:=d) x h).1];exact#[_,rfl,q]
theorem DA(a:Int){m:Int}(h:0<m):0<=a % m/\a % m<m:=#[Int.emod_nonneg _ (),Int.emod_lt_of_pos _ h]
noncomputable def No{α:Type}(f:α->D)(p:α×Nat):T:=.d (.tuple [.int (p.2:Int),f p.1])
theorem JY{α:Type}(f:α->D)(l:List α):((l.map f).zipIdx.map λp=>T.d (.tuple [.int (p.2:Int),p.1]))=l.zipIdx.map (No f):=by rw[List.zipIdx_map,QR];rfl
theorem Rb{Ψ:PEv}{E:XE}{c:PX}{s y r:PT}{Z:PEnds}{o:Option Sl}{σ:xA}:mB Ψ E (.seq (.ife c s y) r) Z (o::σ)=vP Ψ c E (o::σ) λk x=>if k=kf then mB Ψ E s { Z with nx:=λh=>mB Ψ E r Z h } x else mB Ψ E y { Z with nx:=λh=>mB Ψ E r Z h } x:=rfl
section
variable{Ψ:PEv}{E:XE}{ρ:xA}{K:TK}{a h y g b c d:PX}{x:D}{n:Bool}{f:Str}{w:hZ}{i:Int}{j:Nat}
def K7(x:T)(n:Bool)(Ψ:PEv)(h y:PX)(E:XE)(p:xA)(K:TK):Prop:=sq (α:=Option Int) (nA x n) p (if isNop h=kf then λρ (R:Option Int->xA->Prop)=>R kv ρ else λρ R=>(pe Ψ h E).e ρ λl _ m=>lG l.er λo=>R o m) λl m =>
   sq (α:=Option Int) (nA x n) m (if isNop y=kf then λρ (R:Option Int->xA->Prop)=>R kv ρ else λρ R=>(pe Ψ y E).e ρ λu _ v=>lG u.er λo=>R o v) λu v=>oK (nA x n).vw l u λz k=>K z k v
theorem iT:zB Ψ (.slc a h y) E ρ K=zB Ψ a E ρ λx n z=>K7 x n Ψ h y E z K:=rfl
theorem Su:K7 (.d x) n Ψ .nop (.bin w a b) E ρ K=zB Ψ (.bin w a b) E ρ λu _ v=>dQ u λo=>PL (.d x) n kv o λz k=>K z k v:=by cases n<;>rfl
theorem Fz:K7 (.d x) n Ψ .nop (.var j) E ρ K=zB Ψ (.var j) E ρ λu _ v=>dQ u λo=>PL (.d x) n kv o λz k=>K z k v:=by cases n<;>rfl
theorem Gz:K7 (.d x) n Ψ .nop (.ng i) E ρ K=PL (.d x) n kv (jr (-i)) λz k=>K z k ρ:=by cases n<;>rfl
theorem Hz:K7 (.d x) n Ψ (.bin w a b) (.var j) E ρ K=zB Ψ (.bin w a b) E ρ λu _ l=>dQ u λo=>zB Ψ (.var j) E l λv _ e=>dQ v λp=>PL (.d x) n o p λz k=>K z k e:=by cases n<;>rfl
end
section
variable{k:Int}{K:T->LT->Prop}{E:XE}{Ψ:PEv}
def pB(h:LJ)(k:Int):Int:=if k<h.9 then gI h k 0 else 0
def EI:PSp where
 md:=[.shal]
 run:=λx Q _=>∃(h:LJ) (k:Int),x=[.lst ((h.map j1).map T.d),.d (.int k)]/\0<=k/\Q (.d (.int (pB h k))) []
theorem da{a b:LJ}(h:(a.map j1).map T.d=(b.map j1).map T.d):a=b:=(Wf λx y e=>by injection e).mp ((Wf λx y e=>by injection e).mp h)
theorem zJ{h:LJ}:RL EI [.lst ((h.map j1).map T.d),.d (.int k)] K E=(0<=k/\K (.d (.int (pB h k))) []):=ot #[λ#[x,_,e,a,q]=>by injection e with e1 e2;injection e1 with e1;cases da e1;cases e2;exact#[a,q],λq=>#[h,k,rfl,q]]
theorem Me:EC Ψ DG EI GL dJ:=by rintro _ Q _ ⟨h,k,rfl,x,q⟩;refine zA [jr (.bor (.lst ((h.map j1).map T.d))),bD (.int k)] ?_;delta DG;simp![QA];unfold pB at q;by_cases c:k<h.9;rw[i0 c]at q;rw[i0 (dT c)];exact gE 0 x c q;rw[ii c]at q;rw[ii (λz=>c (oa z))];exact q
noncomputable def nI(c k:Int):Int:=c % 2147483647 * (69621+1511 * k * k) % 2147483629
def lA(c k:Int):Int:=(nI c k+k) * (nI c k+5 * k+1) % 2147483587
theorem Xn(c k:Int):0<=lA c k/\lA c k<2147483587:=DA _ (by decide)
def xG:PSp where
 run:=λh Q _=>∃c k:Int,h=[.d (.int c),.d (.int k)]/\(0<=k/\k<=1000)/\Q (.d (.int (lA c k))) []
theorem bH{c:Int}:RL xG [.d (.int c),.d (.int k)] K E=((0<=k/\k<=1000)/\K (.d (.int (lA c k))) []):=ot #[λ#[_,_,e,a,q]=>by cases e;exact#[a,q],λq=>#[c,k,rfl,q]]
theorem Cm:EC Ψ IK xG TQ rN:=by rintro _ Q _ ⟨c,k,rfl,⟨x,h⟩,q⟩;refine zA [bD (.int c),bD (.int k),kv] ?_;delta IK;simp![↓yA];have a:=DA c (show(0:Int)<2147483647 by decide);have b:0<=nI c k/\nI c k<2147483629:=DA _ (by decide);unfold nI at b;exact#[YT.ok (.inl #[by decide,by decide]),YT.ok (.inr #[(),()]),YT.ok (.inl #[(),()]),YT.ok (.inl #[by decide,by decide]),YT.ok (.inl #[(),()]),q]
def sS(l:LN):Str:=#[l.toArray]
theorem EM(a b:LN):sS a++sS b=sS (a++b):=by show(#[a.toArray++b.toArray]:Str)=#[(a++b).toArray];rw[List.append_toArray]
theorem cE(l:LN):(sS l).9=l.length:=QN
theorem hX(l:LN):(sS l).cps.toList=l:=rfl
theorem Ek{a b:LN}(h:sS a=sS b):a=b:=o9 (λs:Str=>s.cps.toList) h
def UW(l:LN):Prop:=∀c∈l,c<128
theorem Zh{l:LN}(h:UW l):OkS (sS l):=by show(l.toArray).all _=kf;rw[<- Array.all_toList,Q0];intro c hc;exact dT (wy (h c hc) (by decide))
noncomputable abbrev KH:Str:="abcdefghijklmnopqrstuvwxyz"
def EB(n:Int):Nat:=97+(n % 26).toNat
theorem PN:KH.cps.toList=(Qo 26).map (·+97):=by decide +kernel
theorem yY(n:Int):EB n<128:=by have:=DA n (show(0:Int)<26 by decide);unfold EB;omega
theorem tf(n:Int):vD KH.cps.toList (n % 26)=jr (EB n):=by
 have m:=DA n (show(0:Int)<26 by decide);have hl:KH.cps.toList.9=26:=by rw[PN];rfl
 let#[v,x,h]:=iM (xs:=KH.cps.toList) m.1 (by rw[hl];exact m.2);rw[x];rw[PN,Qc,WP ()]at h;have h:(n % 26).toNat+97=v:=Qm h;unfold EB;rw[<- h,Nat.add_comm]
theorem C9{m:Int}{P:Nat->Prop}(q:P (EB m)):KH.length<=kn/\bF (vD KH.cps.toList (m % 26)) P:=by rw[tf,GA];exact#[by rw[show KH.length=26 from rfl];omega,q]
theorem vW{a b:LN}{P:Str->Prop}(h:a.9+b.9<=1000)(q:P (sS (a++b))):(sS a).9+(sS b).9<=kn/\P (sS a++sS b):=by rw[cE,cE,EM];exact#[(),q]
def VH:Int->Nat->LN
 |_,0=>[]|n,k+1=>EB n::VH (n / 26) k
theorem oC:∀(n:Int) (k:Nat),(VH n k).9=k
 |_,0=>rfl|n,k+1=>o9 (·+1) (oC _ k)
theorem pH:∀(n:Int) (k:Nat),UW (VH n k)
 |_,0,c,h=>by cases h|n,k+1,c,h=>by rcases QK.mp h with rfl|h;exact yY n;exact pH _ k c h
noncomputable def gK:PSp where
 run:=λh Q _=>∃n k:Int,h=[.d (.int n),.d (.int k)]/\(0<=k/\k<=100)/\Q (.d (.str (sS (VH n k.toNat)))) []
theorem ZR{n:Int}:RL gK [.d (.int n),.d (.int k)] K E=((0<=k/\k<=100)/\K (.d (.str (sS (VH n k.toNat)))) []):=ot #[λ#[_,_,e,a,q]=>by cases e;exact#[a,q],λq=>#[n,k,rfl,q]]
theorem Gm:EC Ψ CG gK FL cJ:=by
 rintro _ Q _ ⟨n,k,rfl,⟨u,z⟩,q⟩;refine zA [bD (.int n),bD (.int k),kv,kv,kv] ?_;delta CG;simp![↓yA];refine#[(),(),?_];refine RA (λ(i:Nat)=>T.d (.int (i:Int))) (λr h=>∃m l x,l++VH m r.9=VH n k.toNat/\h=[bD (.int m),bD (.int k),bD (.str KH),bD (.str (sS l)),x]) ?_ ?_ _ _ #[n,[],kv,by rw[Q8];rfl,rfl];rintro h ⟨m,l,x,e,rfl⟩;have e:l=VH n k.toNat:=by rw[<- e];exact(qI _).symm
 subst e;simp![↓yA];exact q;rintro i r h N y ⟨m,l,x,e,rfl⟩;have hl:=o9 qO e;rw[QJ,oC,oC]at hl;delta RH;simp![↓yA];refine C9 (vW (a:=l) (b:=[EB m]) (P:=λs=>N [bD (.int (m / 26)),bD (.int k),bD (.str KH),bD (.str s),bD (.int (i:Int))]) (by show _+1<=_;omega) (y _ #[m / 26,l++[EB m],_,?_,rfl]));rw[Q1];exact e
def DE(r:Rw):D:=.tuple [.str r.1,.list (r.2.map jC)]
noncomputable def L5(y:Str×LS):D:=.tuple [.str y.1,.list (y.2.map j0)]
theorem ud(h:List Rw):ersT (h.map uG)=h.map DE:=by rw[BJ,QR];congr 1;funext r;show PyData.tuple [.str r.1,.list (ersT ((r.2.map jC).map T.d))]=_;rw[UA];rfl
end
section
variable{Ψ:PEv}{E:XE}{ρ:xA}{r:PT}{Z:PEnds}{i:Nat}{n:Bool}{md:List Md}{xs:List (T×Bool)}{C:LT->Prop}{ds:List D}
theorem bq{x:List Rw}:BE Ψ E r Z i (.lst (x.map uG)) kf ρ=mB Ψ E r Z (ρ.set i (bD (.list (x.map DE)))):=by
 have e:(T.lst (x.map uG)).er=.list (x.map DE):=by show PyData.list (ersT (x.map uG))=_;rw[ud]
 unfold BE;rw[e];exact ot #[λh=>h.2,λh=>#[rfl,h]]
theorem jAZ:LA (.shal::md) ((.d (.list ds),n)::xs) C=LA md xs λts=>C (.lst (ds.map T.d)::ts):=jA8 (by rw[pA];simp only[UE,T.vw,rA,Q9])
theorem au{d:D}{ts:LT}:KC [.d d,.lst ts]=.tup [.d d,.lst ts]:=rfl
end
def zP(es:VC)(sr F:LS)(x:Str)(y:Str×LS):Prop:=y.1=x/\∃h,Good (tF es F) sr x h y.2
noncomputable def EL(nd:List (Str×Int))(F:LS):LS:=(nd.filter λp=>!decide (p.1∈F)).map λp=>p.1
def iZ:PSp where
 run:=λv Q _=>∃(tb:Bool) (y:VC) (h:LS) (nd:List (Str×Int)),v=[.d (NI tb (y.map pr)),.d (.tuple (h.map j0)),.d (.list (nd.map yM))]/\(y.9<=126/\h.9<=11/\EF y h/\nd.9<=90/\(nd.map λp=>p.1).Nodup)/\∀u F z,GI y h nd u F->(∀x,x∈F↔Held y h nd x)->xo (zP y h F) (EL nd F) z->Q (.tup [.d (.list (u.map DE)),.lst ((z.map L5).map T.d)]) []
noncomputable def Jc(x:D)(sr:LS)(nd:List (Str×Int))(h:List Rw)(o4 o5:Option Sl):xA:=[bD (x),bD (.tuple (sr.map j0)),bD (.list (nd.map yM)),bD (.list (h.map DE)),o4,o5]
section
variable{Ψ:PEv}{Z:PEnds}{tb:Bool}{es:VC}{sr:LS}{nd:List (Str×Int)}{h:List Rw}{F:LS}{q:PT}{o4 o5:Option Sl}
theorem jAC(hl:h.9<=100)(k:pF Ψ q Z (Jc (NI tb (es.map pr)) sr nd h (bD (.list ((h.map λr=>r.1).map j0))) o5)) :
  pF Ψ (.seq (.set 4 (.comp [] ["name","chains"] (.tp [0,1]) .val %[.var 3|1] .nop (.var 0))) q) Z (Jc (NI tb (es.map pr)) sr nd h o4 o5):=by
 delta Jc at k ⊢;simp![↓yA];rw[<- bA DE h];refine CA (λr=>T.d (DE r)) (λr=>T.d (.str r.1)) h [] _ (λx z R y=>?_) (by show 0+h.9<=_;omega) ?_;delta DE;simp![↓yA];exact y;rw[Qd,bA (λr:Rw=>j0 r.1),show(h.map λr=>j0 r.1)=(h.map λr=>r.1).map j0 by rw[QR];rfl];simp![↓yA];exact k
theorem jAB(hl:nd.9<=100)(k:pF Ψ q Z (Jc (NI tb (es.map pr)) sr nd h (bD (.list (F.map j0))) (bD (.list ((EL nd F).map j0))))) :
  pF Ψ (.seq (.set 5 (.comp [] ["name","number"] (.tp [0,1]) .val %[.var 2|1] (.cmp .NotIn (.var 0) (.var 6)) (.var 0))) q) Z (Jc (NI tb (es.map pr)) sr nd h (bD (.list (F.map j0))) o5):=by
 delta Jc at k ⊢;simp![↓yA];rw[<- bA yM nd];refine fA (λp=>T.d (yM p)) (λ(p:Str×Int)=>T.d (.str p.1)) (λp=>!decide (p.1∈F)) nd [] _ (λx z R y=>?_) (by show 0+nd.9<=_;omega) ?_;let#[x,n]:=x;delta yM;simp![↓yq,lD,sC,xB,true_or];by_cases d:x∈F;rw[dT d]at y ⊢;exact y;rw[dF d]at y ⊢;exact y;rw[Qd,bA (λp:Str×Int=>j0 p.1),show((nd.filter λp=>!decide (p.1∈F)).map λp=>j0 p.1)=(EL nd F).map j0 by unfold EL;rw[QR];rfl];simp![↓yA];exact k
theorem jAA(f:Ψ.sp "told_through"=OD){Q:T->LT->Prop}{z:LS}(w:es.9<=126)(v:sr.9<=11)(b:EF es sr)(hl:z.9<=100)(k:∀u,xo (zP es sr F) z u->Q (.tup [.d (.list (h.map DE)),.lst ((u.map L5).map T.d)]) []) :
  pF Ψ %[.ret (.tup %[.var 3,.comp [] ["name"] (.nm 0) .val %[.var 5|1] .nop (.tup %[.var 0,.idx (.call "told_through" %[.var 1,.var 2,.var 5,.var 0|1]) (.int 1)|1])|1])|2] (eZ Q) (Jc (NI tb (es.map pr)) sr nd h (bD (.list (F.map j0))) (bD (.list (z.map j0)))):=by
 delta Jc;simp![↓yA];rw[<- bA j0 z];refine aH (zP es sr F) (λs=>T.d (.str s)) (λy=>T.d (L5 y)) z [] _ (λx j R e=>?_) (by show 0+z.9<=_;omega) λu a=>?_;simp![↓OA,↓nW,↓jAZ,↓jA (md:=[.fro,.fro,.shal]) f rfl rfl];refine#[_,_,_,_,_,rfl,#[w,v,b],λi cut g=>?_];simp![↓vk,↓Jg];exact#[(),e (x,cut) #[rfl,i,g]];rw[Qd,bA L5 u];simp![↓au];exact#[(),k u a]
theorem jAD(z:Ψ.sp "ground_alone"=VE)(l:es.9<=126/\sr.9<=11/\EF es sr/\nd.9<=90/\(nd.map λp=>p.1).Nodup)(k:∀h F,GI es sr nd h F->(∀x,x∈F↔Held es sr nd x)->pF Ψ q Z (Jc (NI tb (es.map pr)) sr nd h o4 o5)) :
  pF Ψ (.seq (.set 3 (.call "ground_alone" %[.var 0,.var 1,.var 2|1])) q) Z [bD (NI tb (es.map pr)),bD (.tuple (sr.map j0)),bD (.list (nd.map yM)),kv,o4,o5]:=by
 delta Jc at k;simp![↓jA (md:=[]) z rfl rfl];refine yQ l λh F g y=>?_;simp![↓bq];exact k h F g y
end
section
variable{Ψ:PEv}{xs:List (T×Bool)}{C:LT->Prop}{st:List Stp}
theorem Ct(b:Ψ.sp "ground_alone"=VE)(a:Ψ.sp "told_through"=OD):EC Ψ LG iZ NL mJ:=by rintro _ Q _ ⟨tb,f,x,nd,rfl,l,q⟩;refine zA [bD (NI tb (f.map pr)),bD (.tuple (x.map j0)),bD (.list (nd.map yM)),kv,kv,kv] ?_;delta LG;refine jAD b l λy F g k=>?_;let#[u,z,w,i,_]:=l;have m:=g.len;have j:=g.rlen;refine jAC () ?_;rw[<- g.e];refine jAB () (jAA a u z w ?_ λh v=>q y F h g k v);unfold EL;rw[QA];exact QW (Qw _ _) ()
def gR:PSp where
 run:=λh Q _=>∃(w:Wd) (st:List Stp),h=[.d (VL w st)]/\st.9<=60/\Q (.lst (((st.map λs=>s.1).map nD).map T.d)) []
theorem Ce:EC Ψ HK gR LQ dN:=by rintro _ Q _ ⟨w,st,rfl,hl,q⟩;refine zA [bD (VL w st)] ?_;delta HK;simp![↓C6];rw[<- bA kP];refine CA (λs=>T.d (kP s)) (λs=>T.d (nD s.1)) st [] _ (λs x R h=>?_) (by show 0+_<=_;omega) ?_;simp![↓Xx];exact h;rw[Qd,bA λs:Stp=>nD s.1];rw[show(st.map λs=>nD s.1)=(st.map λs=>s.1).map nD by rw[QR];rfl];exact q
def gw(st:List Stp)(t:T):Prop:=(st=[]/\t=.lst [])∨t=.d (.list ((U9 st).map nD))
def vX:PSp where
 run:=λh Q _=>∃(w:Wd) (st:List Stp),h=[.d (VL w st)]/\∀t,gw st t->Q t []
theorem Fm:EC Ψ LK vX MQ fN:=by
 rintro _ Q _ ⟨w,st,rfl,x⟩;refine zA [bD (VL w st)] ?_;delta LK;simp![↓Yj,↓C6,QA];rcases bR st with rfl|⟨l,s,rfl⟩
 refine fI (show decide (((qO ([]:List Stp):Nat):Int) > 0)≠kf by decide) ?_;exact#[(),x _ (.inl #[rfl,rfl])];have h:=x _ (.inr rfl);rw[lM]at h;refine eS (dT (by rw[QJ];show(0:Int)<((l.9+1:Nat):Int);omega)) ?_;rw[QT,show vD (l.map kP++[s].map kP) (-1)=jr (kP s) from bT _ _,GA];simp![↓Rq];exact h
structure MoO(w:Wd)(st:List Stp):Prop where
 wo:WOk w
 l:st.9<=60
 s:∀s∈st,StK w s
def zX:PSp where
 run:=λh Q _=>∃(w:Wd) (st:List Stp),h=[.d (VL w st)]/\MoO w st/\Q (CI (iB w.es (st.map λs=>s.1))) []
theorem Zm(u:Ψ.sp "past_in"=gR)(z:Ψ.sp "seen_among"=RI):EC Ψ FK zX GQ bN:=by rintro _ Q _ ⟨w,st,rfl,x,q⟩;have hl:=x.l;refine zA [bD (VL w st)] ?_;delta FK;simp![↓uL,↓jR,↓jA (md:=[]) u rfl rfl,↓jA (md:=[.fro,.shal]) z rfl rfl,↓OA,↓nW];refine#[_,_,rfl,hl,?_];simp![↓OA,↓nW];refine#[_,_,rfl,(by rw[QA];omega),(λn y=>?_),#[rfl,q]];let#[s,h,rfl]:=QO.mp y;exact(x.s s h).n
def CT(w:Wd)(st:List Stp)(m:Str):List Pt:=UH w.es (U9 st) m
def uE(w:Wd)(st:List Stp)(m:Str):LS:=yG w (iB w.es (st.map λs=>s.1)) m
theorem yw{md:List Md}{ks:List Pt}:LA (.bor::md) ((CI ks,kf)::xs) C=LA md xs λts=>C (.d (CI ks).er::ts):=by have e:sA (.bor::md) ((CI ks,kf)::xs) []=(sA md xs []).map (.d (CI ks).er::·):=rfl;unfold LA;rw[e,IC]
theorem zw{t:T}(h:gw st t):LA [] ((t,kf)::xs) C=LA [] xs λts=>C (.d (.list ((U9 st).map nD))::ts):=by
 have e:sA [] ((t,kf)::xs) []=(sA [] xs []).map (.d (.list ((U9 st).map nD))::·):=by rcases h with⟨rfl,rfl⟩| rfl<;>rfl
 unfold LA;rw[e,IC]
def fK:PSp where
 run:=λh Q _=>∃(w:Wd) (st:List Stp) (m:Str),h=[.d (VL w st),.d (.str m)]/\MoO w st/\Q (.d (xE (CT w st m) (uE w st m))) []
theorem am(k:Ψ.sp "seers_of"=MM)(v:Ψ.sp "seen_in"=zX)(z:Ψ.sp "edges_of"=SM)(y:Ψ.sp "live_in"=vX):EC Ψ eO fK pW xQ:=by rintro _ Q _ ⟨w,st,m,rfl,h,q⟩;have a:=h.wo.pl;have x:=X9 h.s;refine zA [bD (VL w st),bD (.str m)] ?_;delta eO;simp![↓uL,↓jR,↓jA (md:=[.fro,.bor]) k rfl rfl,↓jA (md:=[]) v rfl rfl,↓jA (md:=[]) z rfl rfl,↓jA (md:=[]) y rfl rfl,↓OA,↓nW];refine#[_,_,rfl,h,?_];simp![↓OA,↓nW,↓yw];refine#[w,_,_,m,rfl,#[Du _,()],?_];simp![↓uL,↓jR,↓jA (md:=[]) z rfl rfl,↓jA (md:=[]) y rfl rfl];refine#[_,_,rfl,λt u=>?_];simp![↓zw u];refine#[_,_,_,rfl,x.1,x.2,?_];simp![↓yA];exact#[(),q]
def dX:PSp where
 run:=λz Q _=>∃(w:Wd) (st:List Stp) (m:Str),z=[.d (VL w st),.d (.str m)]/\MoO w st/\∀y F (h:List (Str×LS)),GI (CT w st m) (uE w st m) (HA w) y F->(∀x,x∈F↔Held (CT w st m) (uE w st m) (HA w) x)->xo (zP (CT w st m) (uE w st m) F) (EL (HA w) F) h->Q (.tup [.d (.list (y.map DE)),.lst ((h.map L5).map T.d)]) []
theorem pO{w:Wd}(h:MoO w st)(m:Str):(CT w st m).9<=126/\(uE w st m).9<=11/\EF (CT w st m) (uE w st m)/\(HA w).9<=90/\((HA w).map λp=>p.1).Nodup:=by have x:=X9 h.s;have v:=h.wo.pl;have u:=m7 w (iB w.es (st.map λs=>s.1)) m;have z:=Ra w.es (U9 st) m;have y:=x.1;refine#[by unfold CT;omega,by unfold uE;omega,M6 h.wo x m,by unfold HA;rw[QA];omega,?_];unfold HA;rw[QR];exact h.wo.pn
theorem Em(v:Ψ.sp "web_of"=fK)(u:Ψ.sp "ground_by"=iZ)(z:Ψ.sp "needs_of"=OM):EC Ψ HG dX ML lJ:=by rintro _ Q _ ⟨w,st,m,rfl,h,q⟩;have k:=h.wo.pl;refine zA [bD (VL w st),bD (.str m),kv] ?_;delta HG;simp![↓jA (md:=[]) v rfl rfl];refine#[_,_,_,rfl,h,?_];simp![↓uL,↓Iq,↓Aq,↓jA (md:=[]) u rfl rfl,↓jA (md:=[]) z rfl rfl];refine#[_,rfl,(),?_];simp![↓yA];refine#[kf,_,_,_,rfl,(pO h m),λy F x a b c=>?_];simp![↓yA];exact q y F x a b c
def cX:PSp where
 run:=λu Q _=>∃(w:Wd) (m:Str),u=[.d (wD w),.d (.str m)]/\WOk w/\∀z st y F (h:List (Str×LS)),UI w z->st=(tB w z).steps->GI (CT w st m) (uE w st m) (HA w) y F->(∀x,x∈F↔Held (CT w st m) (uE w st m) (HA w) x)->xo (zP (CT w st m) (uE w st m) F) (EL (HA w) F) h->Q (.tup [.d (.list (y.map DE)),.lst ((h.map L5).map T.d)]) []
theorem Am(k:Ψ.sp "ground_in"=dX)(v:Ψ.sp "last_moment"=PM):EC Ψ GG cX LL gJ:=by rintro _ Q _ ⟨w,m,rfl,h,q⟩;refine zA [bD (wD w),bD (.str m)] ?_;delta GG;simp![↓jA (md:=[]) k rfl rfl,↓jA (md:=[]) v rfl rfl];refine#[_,rfl,h,λu x=>?_];let#[_,f,e]:=IN h x;simp![↓jw];refine#[_,_,_,rfl,#[h,f,e],λz F y a b c=>?_];simp![↓yA];exact q u _ z F y x rfl a b c
theorem pI{α:Type}{body:T->(Option T->Prop)->Prop}(g f:α->T)(P:α->Prop):∀(l:List α) (h:LT) (Q:LT->Prop),(∀x∈l,∀R:Option T->Prop,R kv->(P x->R (jr (f x)))->body (g x) R)->h.9+l.9<=kn->(∀u:List α,(∀y∈u,P y)->u.9<=l.9->Q (h++u.map f))->AC body (l.map g) h Q
 |[],h,Q,_,hl,q=>by have:=q [] (λ_ z=>(nomatch z)) (QY _);rw[wT,qI]at this;exact#[by rw[wK]at hl;omega,this]
 |x::r,h,Q,hb,hl,q=>by
  rw[QM]at hl;refine hb x QE _ ?_ λa=>#[(),?_]
  exact pI g f P r _ Q (λz v=>hb z (QF _ v)) () λu w hl=>q u w (Nat.le_succ_of_le hl);refine pI g f P r _ Q (λz v=>hb z (QF _ v)) (by rw[QJ,Q5];omega) λu w hl=>?_;have:=q (x::u) (λy k=>(QK.mp k).elim (λe=>e▸a) (w y)) (WI hl);rw[QU]at this;rw[Q1];exact this
noncomputable def rM(st:List Stp):List Pt:=match st.getLast? with
 |some s=>s.2.2.2|none=>[]
theorem pM(l:List Stp)(s:Stp):rM (l++[s])=s.2.2.2:=by unfold rM;rw[QBb]
def aw(st:List Stp)(t:T):Prop:=(st=[]/\t=.lst [])∨t=.d (.list ((rM st).map pr))
def bX:PSp where
 run:=λh Q _=>∃(w:Wd) (st:List Stp),h=[.d (VL w st)]/\∀t,aw st t->Q t []
theorem Sm:EC Ψ yL bX EQ tN:=by
 rintro _ Q _ ⟨w,st,rfl,x⟩;refine zA [bD (VL w st)] ?_;delta yL;simp![↓Yj,↓C6,QA];rcases bR st with rfl|⟨l,s,rfl⟩
 refine fI (show decide (((qO ([]:List Stp):Nat):Int) > 0)≠kf by decide) ?_;exact#[(),x _ (.inl #[rfl,rfl])];have h:=x _ (.inr rfl);rw[pM]at h;refine eS (dT (by rw[QJ];show(0:Int)<((l.9+1:Nat):Int);omega)) ?_;rw[QT,show vD (l.map kP++[s].map kP) (-1)=jr (kP s) from bT _ _,GA];simp![↓Pq];exact h
theorem Xr{t:T}(z:aw st t){W:LT->Prop}:bK .val [(t,kf)] W=W (((rM st).map pr).map T.d):=by rcases z with⟨rfl,rfl⟩| rfl;exact Jk (ds:=[]);exact Hw
noncomputable def rc(es:List Pt)(x:Str):List Pt:=es.filter λp=>!decide (p.1=x)
theorem VS{es:List Pt}{x:Str}{p:Pt}:p∈rc es x↔p∈es/\p.1≠x:=by unfold rc;rw[QX,Q7,decide_eq_false_iff_not]
noncomputable def oq(es:List Pt)(sr:LS):T:=.tup [.d (.tuple (sr.map j0)),.lst ((es.map pr).map T.d)]
theorem yi(es:List Pt)(sr:LS):(oq es sr).er=NT kd es sr:=by show PyData.tuple [.tuple (sr.map j0),.list (ersT ((es.map pr).map T.d))]=_;rw[UA];rfl
def HM:PSp where
 run:=λz Q _=>∃(h:List Pt) (y:LS) (x:Str),z=[.d (xE h y),.d (.str x)]/\h.9<=1000/\Q (oq (rc h x) y) []
theorem gu{a:D}{l:LT}:KC [.d a,.lst l]=.tup [.d a,.lst l]:=rfl
theorem om:EC Ψ rE HM TH cG:=by rintro _ Q _ ⟨y,z,x,rfl,a,q⟩;refine zA [bD (xE y z),bD (.str x)] ?_;delta rE;simp![↓Iq,↓Aq];rw[<- bA pr];refine fA (λp=>T.d (pr p)) (λ(p:Pt)=>T.d (pr p)) (λp=>!decide (p.1=x)) y [] _ (λp u R h=>?_) (by show 0+_<=_;omega) ?_;simp![↓xL];by_cases d:p.1=x;rw[dT d]at h ⊢;exact h;rw[dF d]at h ⊢;exact h;rw[Qd,bA pr];simp![↓gu];exact#[(),q]
end
section
variable{Ψ:PEv}{E:XE}{r:PT}{Z:PEnds}{i:Nat}{ρ:xA}{es:List Pt}{sr:LS}{xs:List (T×Bool)}{C:LT->Prop}
theorem sw:BE Ψ E r Z i (oq es sr) kf ρ=mB Ψ E r Z (ρ.set i (bD (NT kd es sr))):=by unfold BE;rw[yi];exact ot #[λh=>h.2,λh=>#[rfl,h]]
theorem jAY:LA [] ((oq es sr,kf)::xs) C=LA [] xs λts=>C (.d (NT kd es sr)::ts):=by have e:sA [] ((oq es sr,kf)::xs) []=(sA [] xs []).map (.d (oq es sr).er::·):=rfl;unfold LA;rw[e,yi,IC]
end
section
variable{w:Wd}{st:List Stp}{m x:Str}{Ψ:PEv}{u:List (Str×LS)}{Z:PEnds}{ns:LN}{a:D}{b:List D}
def ND(w:Wd)(st:List Stp)(m x:Str):List Pt:=rc (CT w st m) x
theorem V0(u:MoO w st)(m x:Str):(ND w st m x).9<=126/\(uE w st m).9<=11/\EF (ND w st m x) (uE w st m)/\(HA w).9<=90/\((HA w).map λp=>p.1).Nodup:=by let#[a,b,c,d,e]:=pO u m;exact#[QW (Qw _ _) a,b,#[c.1,λe h=>c.2 e (VS.mp h).1],d,e]
theorem jQ{K:T->LT->Prop}{E:XE}(u:MoO w st)(q:∀l:LS,(∀y,y∈l↔Held (ND w st m x) (uE w st m) (HA w) y)->l.9<=90->K (.lst ((l.map j0).map T.d)) []):RL xF [.d (wD w),.d (NT kd (ND w st m x) (uE w st m))] K E:=by let#[a,b,c,d,e]:=V0 u m x;have h:=u.wo.pl;exact#[w,kd,_,_,rfl,#[a,b,c,(),u.wo.pn],q]
def gX:PSp where
 run:=λz Q _=>∃(w:Wd) (st:List Stp) (x m:Str),z=[.d (VL w st),.d (.str x),.d (.str m)]/\MoO w st/\∀F h cut,(∀y,y∈F↔Held (ND w st m x) (uE w st m) (HA w) y)->Good (tF (ND w st m x) F) (uE w st m) x h cut->Q (.tup [.lst ((h.map jC).map T.d),.lst ((cut.map j0).map T.d)]) []
theorem vn(k:Ψ.sp "web_without"=HM)(v:Ψ.sp "web_of"=fK)(z:Ψ.sp "told_through"=OD)(y:Ψ.sp "holders_in"=xF):EC Ψ KI gX AO iL:=by rintro _ Q _ ⟨w,st,x,m,rfl,u,q⟩;let#[a,b,c,d,_]:=V0 u m x;have g:=(pO u m).1;refine zA [bD (VL w st),bD (.str x),bD (.str m),kv] ?_;delta KI;simp![↓jA (md:=[]) k rfl rfl,↓jA (md:=[]) v rfl rfl];refine#[_,_,_,rfl,u,?_];simp![↓yA];refine#[_,_,_,rfl,(),?_];simp![↓sw,↓gk,↓ck,↓uL,↓OA,↓nW,↓jA (md:=[.fro,.fro,.shal]) z rfl rfl,↓jA (md:=[]) y rfl rfl];refine jQ u λF h fl=>?_;simp![↓OA,↓nW];refine#[kd,_,_,_,_,rfl,#[a,b,c],λf cut e=>?_];simp![↓yA];exact q F f cut h e
def sR:PSp where
 run:=λz Q _=>∃(w:Wd) (x m:Str),z=[.d (wD w),.d (.str x),.d (.str m)]/\WOk w/\∀ns st F h cut,UI w ns->st=(tB w ns).steps->(∀y,y∈F↔Held (ND w st m x) (uE w st m) (HA w) y)->Good (tF (ND w st m x) F) (uE w st m) x h cut->Q (.tup [.lst ((h.map jC).map T.d),.lst ((cut.map j0).map T.d)]) []
theorem zn(v:Ψ.sp "apart_in"=gX)(z:Ψ.sp "last_moment"=PM):EC Ψ ZI sR SO eL:=by rintro _ Q _ ⟨w,x,m,rfl,h,q⟩;refine zA [bD (wD w),bD (.str x),bD (.str m)] ?_;delta ZI;simp![↓jA (md:=[]) v rfl rfl,↓jA (md:=[]) z rfl rfl];refine#[_,rfl,h,λns y=>?_];let#[_,e,k]:=IN h y;simp![↓jw];refine#[_,_,_,_,rfl,#[h,e,k],λF f cut a b=>?_];simp![↓yA];exact q ns _ F f cut y rfl a b
def jAm(w:Wd)(st:List Stp)(x m:Str)(l:LS):Prop:=∀y,y∈l↔Held (ND w st m x) (uE w st m) (HA w) y
def nR:PSp where
 run:=λh Q _=>∃(w:Wd) (st:List Stp) (x m:Str),h=[.d (VL w st),.d (.str x),.d (.str m)]/\MoO w st/\∀l,jAm w st x m l->Q (.lst ((l.map j0).map T.d)) []
theorem Om(v:Ψ.sp "web_without"=HM)(z:Ψ.sp "web_of"=fK)(y:Ψ.sp "holders_in"=xF):EC Ψ JC nR vE eD:=by rintro _ Q _ ⟨w,st,x,m,rfl,u,q⟩;have k:=(pO u m).1;refine zA [bD (VL w st),bD (.str x),bD (.str m)] ?_;delta JC;simp![↓uL,↓jA (md:=[]) v rfl rfl,↓jA (md:=[]) z rfl rfl,↓jA (md:=[]) y rfl rfl];refine#[_,_,_,rfl,u,?_];simp![↓yA];refine#[_,_,_,rfl,(),?_];simp![↓jAY];refine jQ u λF h fl=>?_;simp![↓yA];exact q F h
theorem Vo{y:Str}{v:LS}{Q:T->Prop}(hl:u.9<kn)(h:y∉u.map λx=>x.1)(q:Q (XS (u++[(y,v)]))):Rc (XS u) (.d (.str y)) (.lst ((v.map j0).map T.d)) Q:=by
 have e:=Rh (v:=v) hl h q;have er:(T.lst ((v.map j0).map T.d)).er=.list (v.map j0):=by show PyData.list (ersT _)=_;rw[UA]
 let#[a,b,c]:=e;refine#[a,b,?_];rw[er];exact c
def ox(w:Wd)(st:List Stp)(x:Str)(fl:List Pt):Prop:=(∀p∈fl,¬ Held (ND w st p.2 x) (uE w st p.2) (HA w) p.1)/\fl.length<=(rM st).9
def fX:PSp where
 run:=λh Q _=>∃(w:Wd) (st:List Stp) (x:Str),h=[.d (VL w st),.d (.str x)]/\(MoO w st/\(rM st).9<=1000/\∀p∈rM st,p.2∈w.ms)/\∀fl,ox w st x fl->Q (.lst ((fl.map pr).map T.d)) []
def Au(w:Wd)(st:List Stp)(x:Str)(u:List (Str×LS))(o3:Option Sl):xA:=[bD (VL w st),bD (.str x),oW (XS u),o3]
theorem Pz(k:Ψ.sp "holders_without"=nR)(v:MoO w st)(hl:u.9<=1000)(z:m∉u.map λy=>y.1)(q:∀l,jAm w st x m l->Z.nx (Au w st x (u++[(m,l)]) (bD (.str m)))):pF Ψ ZE Z (Au w st x u (bD (.str m))):=by delta Au at q ⊢;delta ZE;simp![↓jA (md:=[]) k rfl rfl];refine#[_,_,_,_,rfl,v,λl h=>?_];simp![↓yA];refine Vo () z ?_;exact q l h
theorem Im(X:Ψ.sp "holders_without"=nR)(s:Ψ.sp "held_in"=bX):EC Ψ NG fX OL nJ:=by
 rintro _ Q _ ⟨w,st,x,rfl,⟨n,hl,C⟩,q⟩;have F:=n.wo.ml;refine zA [bD (VL w st),bD (.str x),kv,kv] ?_;delta NG;simp![↓uL,↓CW];rw[<- bA j0];refine RA (λm=>T.d (.str m)) (λr k=>∃u f,u.map (λy=>y.1)++r=w.ms/\(∀y∈u,jAm w st x y.1 y.2)/\k=Au w st x u f) ?_ ?_ w.ms _ #[[],kv,rfl,λ_ z=>(nomatch z),rfl];rintro k ⟨u,f,e,g,rfl⟩;have e:u.map (λy=>y.1)=w.ms:=by rw[<- e,qI]
 delta Au;simp![↓jA (md:=[]) s rfl rfl];refine#[_,_,rfl,λt B=>?_];simp![↓Xr B];rw[<- bA pr];have G:∀m∈w.ms,∃v,(m,v)∈u:=λm h=>by rw[<- e]at h;let#[y,i,e]:=QO.mp h;cases e;exact#[y.2,i]
 refine pI (λp=>T.d (pr p)) (λ(p:Pt)=>T.d (pr p)) (λp=>¬ Held (ND w st p.2 x) (uE w st p.2) (HA w) p.1) (rM st) [] _ (λp j R K W=>?_) (by show 0+_<=_;omega) λY X s=>?_;simp![↓xL,↓B6,↓jA6];refine Sh (by rw[e];exact C p j) λv hv=>?_;have hv:=g _ hv p.1;simp![lD,sC,xB,true_or];by_cases c:p.1∈v;rw[dT c];exact K;rw[dF c];exact W λz=>c (hv.mpr z);rw[Qd,bA pr];exact q Y #[X,s];rintro m r k N E ⟨u,f,e,g,rfl⟩;have nd:=n.wo.mn;rw[<- e]at nd;have A:=o9 qO e;rw[QJ,QA]at A;refine Pz X n () (λz=>(qT.mp nd).2.2 m z m QE rfl) λl o=>E _ #[u++[(m,l)],_,by rw[QT,Q1];exact e,λy i=>?_,rfl];rcases Qf.mp i with z|z;exact g y z;rw[QI.mp z];exact o
theorem Ig{w:Wd}:∀(l:LN) (g:Gs) (n:Nat),∃x s,jh w g (l++[n])=x++[s]/\s.2.2.2=OE w (g.past++(l++[n])) s.2.2.1
 |[],g,n=>#[[],_,rfl,rfl]|k::l,g,n=>by let#[x,s,e,h]:=Ig l (jD w g k) n;refine#[_::x,s,o9 (_::·) e,?_];rw[h];show OE w ((g.past++[k])++(l++[n])) _=_;rw[Q1];rfl
theorem tZ(y:ns≠[]):∃x s,(tB w ns).steps=x++[s]/\s.2.2.2=OE w ns s.2.2.1:=by
 obtain⟨l,n,rfl⟩:∃l n,ns=l++[n]:=by
  rcases QBP ns with h|⟨l,n,h⟩
  exact i3 h y;exact#[l,n,by rw[h,QBQ]]
 rw[FS];exact Ig l g0 n
theorem Ag{w:Wd}(z:WOk w):∀(ns:LN) (g:Gs),∀s∈jh w g ns,s.2.2.2.9<=1000
 |[],_,s,y=>by cases y|n::r,g,s,y=>by
  rcases QK.mp y with rfl|y;have k:=z.pl;have v:=z.ml;show(OE w _ _).9<=1000;have:∀h:List (Str×Int×Int×Int),(h.flatMap λp=>Ka w (g.past++[n]) (Fn w g n) p.1).9<=10 * h.length:=λh=>by
   induction h with
   |nil=>exact QY _|cons p h e =>
    rw[Wn,QJ,QM];have:(Ka w (g.past++[n]) (Fn w g n) p.1).9<=10:=by unfold Ka;rw[QA];exact QW (Qw _ _) v
    omega
  have:=this w.ps;unfold OE;omega;exact Ag z r _ s y
theorem Xa(y:ns≠[]):rM (tB w ns).steps=OE w ns (U9 (tB w ns).steps):=by let#[x,s,e,h]:=tZ (w:=w) y;rw[e,pM,lM,h]
theorem Va(y:WOk w)(ns:LN):(rM (tB w ns).steps).9<=1000:=by
 by_cases c:ns=[];subst c;exact Qq _;let#[x,s,e,h]:=tZ (w:=w) c;have:s∈jh w g0 ns:=by rw[<- FS,e];exact QZ _ QE
 rw[e,pM];exact Ag y ns g0 s this
theorem Pu{p:Pt}(h:p∈rM (tB w ns).steps):p.2∈w.ms:=by by_cases c:ns=[];subst c;cases h;rw[Xa c]at h;let#[q,_,h]:=wQ.mp h;let#[m,y,rfl]:=QO.mp h;exact(QX.mp y).1
theorem Xo(s:WOk w)(g:∀p∈w.ps,1<=p.2.2.2)(f:UI w ns){y:Str}(X:m∈w.ms):(y,m)∈rM (tB w ns).steps↔Held (CT w (tB w ns).steps m) (uE w (tB w ns).steps m) (HA w) y:=by
 let#[E,_,_]:=IN s f;by_cases c:ns=[];subst c;have j:(tB w []).steps=[]:=rfl;rw[j];refine#[λz=>(nomatch z),λz=>?_];exfalso;have C:∀x,¬ Held [] [] (HA w) x:=λx r=>by
  cases r with
  |see _ h=>cases h|@tell _ n F B _ A =>
   let#[p,v,e]:=QO.mp B;cases e;have:=g p v;let#[i,_,K,W]:=A;cases i with
   |nil=>exact i3 W (by show ¬ p.2.2.2<=0;omega)|cons c i =>
    have Y:=K c QE;cases Y with|st h _=>cases h|go _ _ h=>exact nomatch (cD.mp h).1
 have o:CT w [] m=[]:=rfl;have l:uE w [] m=[]:=wn.mpr (QBA.mpr λp _ y=>by cases oa y);rw[o,l]at z;exact C y z;rw[Xa c];unfold CT uE;rw[E];constructor;intro h;let#[q,_,h]:=wQ.mp h;let#[k,hk,e]:=QO.mp h;cases e;exact(CS w _ _ _ _).mp (QX.mp hk).2;intro h;let#[n,f]:=oM h;let#[p,v,e]:=QO.mp f;cases e;exact wQ.mpr #[p,v,QO.mpr #[m,QX.mpr #[X,(CS w _ _ _ _).mpr h],rfl]]
noncomputable abbrev cx:=Str×List Rw×List (Str×LS)
def fc(y:cx):D:=.tuple [.str y.1,.list (y.2.1.map DE),.list (y.2.2.map L5)]
def lw(w:Wd)(st:List Stp)(x m:Str)(y:cx):Prop:=y.1=m/\(∀z,z∈y.2.1.map (λr=>r.1)↔Held (ND w st m x) (uE w st m) (HA w) z)/\y.2.1.9<=100
def xX:PSp where
 run:=λh Q _=>∃(w:Wd) (st:List Stp) (x m:Str),h=[.d (VL w st),.d (.str x),.d (.str m)]/\MoO w st/\∀y,lw w st x m y->Q (.d (fc y)) []
theorem vi:(T.tup [.d a,.lst (b.map T.d)]).er=.tuple [a,.list b]:=by show PyData.tuple [a,.list (ersT (b.map T.d))]=_;rw[UA]
theorem jAR{ds:List D}{n:Bool}{Q:T->Bool->Prop}:AF .Add (.d (.tuple ds)) n (.tup [.d a,.lst (b.map T.d)]) kf Q=AF .Add (.d (.tuple ds)) n (.d (.tuple [a,.list b])) kd Q:=by unfold AF;show _=binT .Add _ (nA (.d (.tuple [a,.list b])) kd).vw Q;rw[<- vi];rfl
theorem mk_1:KC [.d a]=.d (.tuple [a]):=rfl
theorem Hm(g:Ψ.sp "web_without"=HM)(f:Ψ.sp "web_of"=fK)(k:Ψ.sp "ground_by"=iZ)(v:Ψ.sp "needs_of"=OM):EC Ψ MK xX NQ gN:=by rintro _ Q _ ⟨w,st,x,m,rfl,u,q⟩;have o:=(pO u m).1;have i:=u.wo.pl;refine zA [bD (VL w st),bD (.str x),bD (.str m),kv] ?_;delta MK;simp![↓jA (md:=[]) g rfl rfl,↓jA (md:=[]) f rfl rfl];refine#[_,_,_,rfl,u,?_];simp![↓yA];refine#[_,_,_,rfl,(),?_];simp![↓sw,↓gk,↓ck,↓uL,↓jA (md:=[]) k rfl rfl,↓jA (md:=[]) v rfl rfl];refine#[(),#[_,rfl,(),?_]];simp![↓yA];refine#[kd,_,_,_,rfl,(V0 u m x),λh F y a b _=>?_];have n:=a.len;have l:=a.rlen;have j:(HA w).9<=90:=(V0 u m x).2.2.2.1;simp![↓mk_1,↓jAR];exact#[by show 3<=_;omega,q (m,h,y) #[rfl,λz=>by rw[<- a.e];exact b z,by show h.9<=100;omega]]
def cR:PSp where
 run:=λh Q _=>∃(w:Wd) (x:Str),h=[.d (wD w),.d (.str x)]/\WOk w/\∀ns st fl ls,UI w ns->st=(tB w ns).steps->ox w st x fl->xo (lw w st x) w.ms ls->Q (.tup [.lst ((fl.map pr).map T.d),.lst ((ls.map fc).map T.d)]) []
theorem mk_2{a b:LT}:KC [.lst a,.lst b]=.tup [.lst a,.lst b]:=rfl
theorem jAg{E:XE}{r:PT}{i:Nat}{ρ:xA}:BE Ψ E r Z i (Xq w st) kf ρ=mB Ψ E r Z (ρ.set i (bD (VL w st))):=by unfold BE;rw[zi];exact ot #[λh=>h.2,λh=>#[rfl,h]]
theorem Jm(n:Ψ.sp "last_moment"=PM)(l:Ψ.sp "left_in"=xX)(j:Ψ.sp "fallen_in"=fX):EC Ψ iO cR rW uQ:=by rintro _ Q _ ⟨w,x,rfl,h,q⟩;have o:=h.ml;refine zA [bD (wD w),bD (.str x),kv] ?_;delta iO;simp![↓jA (md:=[]) n rfl rfl];refine#[_,rfl,h,λns v=>?_];let#[_,e,k]:=IN h v;simp![↓jAg,↓jA (md:=[]) j rfl rfl,↓CW];refine#[_,_,_,rfl,#[#[h,e,k],(Va h ns),(λp z=>Pu z)],λfl g=>?_];simp![↓CW];rw[<- bA j0];refine aH (lw w (tB w ns).steps x) (λm=>T.d (.str m)) (λy=>T.d (fc y)) w.ms [] _ (λm r R i=>?_) (by show 0+_<=_;omega) λls z=>?_;simp![↓jA (md:=[]) l rfl rfl];refine#[_,_,_,_,rfl,#[h,e,k],λy f=>?_];simp![↓yA];exact i y f;rw[Qd,bA fc];simp![↓mk_2];exact#[(),q ns _ fl ls v rfl g z]
end
section
variable{es:List Pt}{sr F G:LS}{nd:List (Str×Int)}{x:Str}
theorem fY{y:Str}(h:Held (rc es x) sr nd y):Held es sr nd y:=Held.sub (λe u=>(VS.mp u).1) (λ_ z=>z) (λ_ n h=>#[n,QAw _,h]) h
theorem Z5(v:∀y,y∈F↔Held (rc es x) sr nd y)(h:Held es sr nd x):x∈F:=by refine qu λc=>c ((eV (λy u=>fY ((v y).mp u)) (λy n u i=>(v y).mpr (.see u i)) (λy k u w m=>?_) x).mpr h);let#[q,a,b,l]:=m;refine w ((v y).mpr (.tell F u (λz g=>(v z).mp g) #[q,a,λd o=>Chn.sub (λe j=>?_) (λ_ z=>z) (b d o),l]));let#[p,f]:=cD.mp j;exact cD.mpr #[VS.mpr #[p,λe=>c (e▸f)],f]
theorem iY(u:∀y,y∈F↔Held (rc es x) sr nd y){n:Int}(w:(x,n)∈nd)(un:∀k,(x,k)∈nd->k=n){cs:List (LS)}{cut:LS}(e:Good (tF (rc es x) F) sr x cs cut):Held es sr nd x↔x∈sr∨n<=(cs.9:Int):=by
 constructor;intro h;have:=(u x).mp (Z5 u h);cases this with|see _ h=>exact .inl h|@tell _ k f a b m=>refine .inr ((MN e).mp ?_);rw[<- un k a];exact m.sub (λ_ z=>z) (λ_ z=>z) (λy v=>(u y).mpr (b y v)) (QAw _)
 rintro(h|h)
 ·exact .see w h
 exact fY (.tell F w (λy v=>(u y).mp v) ((MN e).mpr h))
theorem Io(b:∀y,y∈F↔Held (rc es x) sr nd y)(a:∀y,y∈G↔Held es sr nd y){cs v:List (LS)}{cut h:LS}(w:Good (tF (rc es x) F) sr x cs cut)(u:Good (tF es G) sr x v h):cs.9<=h.9 :=
 KQ w.apart (λc hc=>Chn.sub (λe k=>by let#[g,f]:=cD.mp k;exact cD.mpr #[(VS.mp g).1,(a _).mpr (fY ((b _).mp f))]) (λ_ z=>z) (w.chn c hc).1) u.led
theorem V2{c:LS}{n g:Str}(h:Chn (tF es F) sr g c n):∀y∈c,y∈F:=by
 induction h with
 |st _ _=>exact λ_ z=>(nomatch z)
 |go _ _ e u=>exact λy v=>(Qf.mp v).elim (u y) λz=>by rw[QI.mp z];exact(cD.mp e).2
end
theorem Xh{w:Wd}(g:WOk w){p:Str×Int×Int×Int}(v:p∈w.ps):(p.1,p.2.2.2)∈HA w/\∀k,(p.1,k)∈HA w->k=p.2.2.2:=by
 refine#[QO.mpr #[p,v,rfl],λk hk=>?_];let#[q,u,e]:=QO.mp hk;have key:∀l:List (Str×Int×Int×Int),(l.map λp=>p.1).Nodup->p∈l->q∈l->q.1=p.1->q=p:=by
  intro l;induction l with
  |nil=>exact λ_ z=>(nomatch z)
  |cons a l f =>
   intro h v u e;let#[b,i]:=Qj.mp h;rcases QK.mp v with y|y;rcases QK.mp u with x|x
   ·rw[y,x]
   exact(b (QO.mpr #[q,x,by rw[<- y];exact e])).elim;rcases QK.mp u with x|x
   ·exact(b (QO.mpr #[p,y,by rw[<- x];exact e.symm])).elim
   exact f i y x e
 injection e with e1 e2;rw[<- e2,key w.ps g.pn v u e1]
def t3(a b m:Str):D:=.tuple [.str a,.str b,.str m]
theorem Lo(a b m z y x:Str):Qn (t3 a b m) (t3 z y x)=decide ((a,b,m)=(z,y,x)):=by
 have e:Qn (t3 a b m) (t3 z y x)=(Qn (.str a) (.str z)&&(Qn (.str b) (.str y)&&(Qn (.str m) (.str x)&&kf))):=by simp[t3,Qn,PyData.eqvAll]
 rw[e,aF,aF,aF,QAm,Qz,Qb,Qb,o2,o2,o2,o2];exact#[λh=>by rw[h.1,h.2.1,h.2.2],λh=>by cases h;exact#[rfl,rfl,rfl]]
theorem Hh{a b m:Str}(h:OkS a/\OkS b/\OkS m):K0 1 (t3 a b m):=xz (Cn (Bn h.1) (Cn (Bn h.2.1) (Cn (Bn h.2.2) uz)))
def zd(x m:Str):Str×Str×Str:=("see",x,m)
theorem R8:OkS "see":=by show qg (Qa "see")=kf;decide +kernel
theorem Xe:OkS "tell":=by show qg (Qa "tell")=kf;decide +kernel
noncomputable def e3:Evt->Str×Str×Str
 | .see _ p m _=>("see",p,m)|.tell _ a b _ _ _=>("tell",a,b)
def Tf(e:Evt):D:=t3 (e3 e).1 (e3 e).2.1 (e3 e).2.2
section
variable{e:Evt}{n m:Bool}{R:T->Prop}
theorem Vx:KA (.d (VD e)) n (.d (.int 0)) m R=R (.d (.str (e3 e).1)):=by
 cases e with|see t p h w=>exact aA (i:=0) rfl|tell t a b h w q=>exact aA (i:=0) rfl
theorem Kx:KA (.d (VD e)) n (.d (.int 2)) m R=R (.d (.str (e3 e).2.1)):=by
 cases e with|see t p h w=>exact aA (i:=2) rfl|tell t a b h w q=>exact aA (i:=2) rfl
theorem Yx:KA (.d (VD e)) n (.d (.int 3)) m R=R (.d (.str (e3 e).2.2)):=by
 cases e with|see t p h w=>exact aA (i:=3) rfl|tell t a b h w q=>exact aA (i:=3) rfl
end
section
variable{w:Wd}{m c j:Int}{l:LN}{n:Bool}{Ψ:PEv}{Z:PEnds}{ws:LS}{o10:Option Sl}
theorem gv(x:WOk w){e:Evt}(h:Bg w e):OkS (e3 e).1/\OkS (e3 e).2.1/\OkS (e3 e).2.2:=by
 cases e with|see t p m y=>exact#[R8,x.nm h.1,x.mo m h.2.1]|tell t a b m y q=>exact#[Xe,x.nm h.1,x.nm h.2.1]
theorem Uv(h:WOk w){x m:Str}(z:OkS x)(u:OkS m){L:Bool->Prop}(q:L (w.es.any λe=>decide (e3 e=zd x m))):PB .In (.d (.tuple [.str "see",.str x,.str m])) (nA (.lst ((w.es.map Tf).map T.d)) kf) L:=by
 have e:((w.es.map Tf).any λy=>Qn y (t3 "see" x m))=w.es.any λe=>decide (e3 e=zd x m):=by rw[QBN];congr 1;funext e;exact Lo _ _ _ _ _ _
 have er:(T.lst ((w.es.map Tf).map T.d)).er=.list (w.es.map Tf):=by show PyData.list (ersT ((w.es.map Tf).map T.d))=_;rw[UA]
 show PB .In (.d (t3 "see" x m)) (.d (T.lst ((w.es.map Tf).map T.d)).er) L;rw[er];show(((xB (t3 "see" x m)=kf/\_)∨(RF (t3 "see" x m)/\RF (.list _)))/\L ((w.es.map Tf).any λy=>Qn y (t3 "see" x m)));rw[e];exact#[.inr #[Lh (Hh #[R8,z,u]) (by decide),Lh (cz (bz λe v=>Hh (gv h (h.eo e v)))) (by decide)],q]
theorem Rk{ns:LN}(g:WOk w)(u:UI w ns){p:Str×Int×Int×Int}(r:p∈w.ps){m:Str}:(w.es.any λe=>decide (e3 e=zd p.1 m))=kf↔p.1∈uE w (tB w ns).steps m:=by
 let#[W,_,_]:=IN g u;unfold uE yG;rw[W,wP,QO];constructor;rintro⟨e,s,h⟩;have h:=oa h;cases e with|see t y k x=>cases h;let#[i,f,e]:=List.mem_iff_getElem.mp s;refine#[p,QX.mpr #[r,dT (lU.mpr #[i,u.1.mem_iff.mpr (qW.mpr (by rw[QA];exact f)),t,x,?_])],rfl];unfold uB;rw[Qk f,e];rfl|tell t a b k x q=>exact i3 (show Qa "tell"=Qa "see" from o9 qP h) (by decide)
 rintro⟨q,o,e⟩;let#[K,Y]:=QX.mp o;let#[n,z,t,x,X]:=lU.mp (oa Y);have v:=x9 u n z;refine#[uB w.es n,?_,dT ?_];unfold uB;rw[Qk v];exact wO v;rw[X,<- e];rfl
noncomputable def Xu:LS:=["person","matter","against","see","tell","by","at","who","what","since","tellers"]
noncomputable def Vu:LS:=["wordings","apart","leans","hidden","strike","quote","ground","cut"]
def lst(z:Str):Nat:=z.cps.toList.getLast?.getD 0
def oz(z:Str):Bool:=decide (1<=z.9)&&decide (z.9<=10)&&decide (97<=lst z)&&decide (lst z<=122)&&(qF KH (sS [lst z]) 0 KH.length 1).head?==jr (lst z - 97)
theorem R9:((Xu++Vu).all oz)=true:=by decide +kernel
def uP(l:LN):LN:=if sS l∈Xu++Vu then l.dropLast++[EB ((lst (sS l) - 97:Nat)+13)] else l
theorem Ck(h:UW l):UW (uP l):=by unfold uP;split;intro c hc;rcases Qf.mp hc with hc|hc;exact h c (List.dropLast_subset l hc);rw[QI.mp hc];exact yY _;exact h
theorem sZ(l:LN):(uP l).9=l.length:=by unfold uP;split;rename_i c;have k:=Q0.mp R9 _ c;unfold oz at k;rw[Qb,Qb,Qb,Qb,o2,cE]at k;have:=k.1.1.1.1;rw[QJ,wY];show l.9 - 1+1=_;omega;rfl
theorem c7{p:Nat}(h:l[p]?=jr (EB m)):∃u:Int,(uP l)[p]?=jr (EB (m+13 * u)):=by
 unfold uP;split;have y:p<l.length:=(Qh.mp h).1;by_cases c:p<l.9 - 1;refine#[0,?_];rw[show m+13 * 0=m from Int.add_zero m,qL (by rw[wY];exact c),List.getElem?_dropLast,i0 c];exact h;refine#[1,?_];have e:p=l.9 - 1:=()
 rw[Qy (by rw[wY];omega),wY,e,QBO];have x:lst (sS l)=EB m:=by unfold lst;rw[hX,QAd,<- e,h];rfl
 rw[x];show jr (EB (((97+(m % 26).toNat - 97:Nat):Int)+13))=jr (EB (m+13));rw[Nat.add_sub_cancel_left,Int.toNat_of_nonneg (DA m (by decide)).1];unfold EB;rw[Int.emod_add_emod];exact#[0,(show m+13 * 0=m from Int.add_zero m).symm▸h]
def kG:PSp where
 run:=λh Q _=>∃l:LN,h=[.d (.str (sS l))]/\l.9<=100/\Q (.d (.str (sS (uP l)))) []
theorem G0(ks:LS):(ks.map j0).all xB=true:=by rw[Q0];intro y h;let#[x,_,rfl]:=QO.mp h;rfl
theorem P9(ks:LS)(z:Str):((ks.map j0).any λy=>Qn y (.str z))=decide (z∈ks):=by rw[Qz,wP,o2];constructor;rintro⟨y,u,h⟩;let#[x,v,rfl]:=QO.mp u;rw[aF,o2]at h;exact h▸v;exact λh=>#[_,QO.mpr #[z,h,rfl],by rw[aF];exact dT rfl]
theorem Y7(h:1<=l.9):wz (sS l) kv (jr (-1))=sS l.dropLast:=by show QAj (sS l) kv (jr (-1))=_;rw[StrLaws.sliceText_to_neg (by decide) (by rw[cE];omega),List.drop_zero,cE,hX,List.dropLast_eq_take];unfold sS;congr 3;omega
theorem Fx{m:Bool}{R:T->Prop}(h:1<=l.9)(y:l.9<=10):KA (.d (.str (sS l))) n (.d (.int (-1))) m R=R (.d (.str (sS [lst (sS l)]))):=by
 have x:vD (sS l).cps.toList (-1)=jr (lst (sS l)):=by unfold lst vD UT;rw[hX,ii (by decide),i0 ()];show l[_]?=_;rw[show((-1:Int)+l.9).toNat=l.9 - 1 by omega,QAd,Qk ()];rfl
 rw[Ux,x,GA,cE];exact ot #[λh=>h.2,λh=>#[(),h]]
theorem e7{Q:T->LT->Prop}{z:Str}{e:Option Sl}(hk:z∈Xu++Vu)(q:Q (.d (.str (sS (uP z.cps.toList)))) []):aD Ψ (λ_=>False) (eZ Q).rt (.bin .Add (.slc (.var 0) .nop (.ng 1)) (.idx (.var 1) (.bin .Mod (.bin .Add (.mt .index (.var 1) %[.idx (.var 0) (.ng 1)|1]) (.int 13)) (.int 26)))) [bD (.str z),bD (.str KH),e]:=by
 have k:=Q0.mp R9 z hk;unfold oz at k;rw[Qb,Qb,Qb,Qb,o2,o2,o2,o2,beq_iff_eq]at k;let#[#[#[#[x,v],o],g],h]:=k;have f:z=sS z.cps.toList:=rfl;generalize hl:z.cps.toList=l at *;subst f;rw[cE]at x v;cases y:qF KH (sS [lst (sS l)]) 0 KH.length 1 with|nil=>rw[y]at h;cases h|cons i u=>rw[y]at h;have h:i=lst (sS l) - 97:=Qm h;unfold uP at q;rw[i0 hk,<- h]at q;rw[Eb,xc,iT];simp![↓Gz];refine#[by rw[cE];omega,?_];rw[Y7 x];refine jAo y (λK=>rfl) (λK=>?_) ?_;exact Fx x v;simp![↓yA];exact C9 (vW (a:=l.dropLast) (b:=[EB ((i:Int)+13)]) (P:=λs=>Q (.d (.str s)) []) (by rw[wY];show _+1<=_;omega) q)
theorem P8:EC Ψ RK kG RQ nN:=by rintro _ Q _ ⟨l,rfl,hl,q⟩;refine zA [bD (.str (sS l)),kv,kv] ?_;delta RK;simp_arith![↓yA];refine#[(),?_];show BE Ψ (λ_=>False) _ (eZ Q) 2 (.lst ((Xu.map j0).map T.d)) kf [bD (.str (sS l)),bD (.str KH),kv];rw[gx];simp![↓kq];rw[P9];refine#[.inl #[rfl,G0 _],?_];by_cases x:sS l∈Xu;rw[dT x];exact e7 (Ql _ x) q;rw[dF x];refine#[(),?_];show PB .In (.d (.str (sS l))) (.d (.list (Vu.map j0))) _;rw[Vb,P9];refine#[.inl #[rfl,G0 _],?_];by_cases h:sS l∈Vu;rw[dT h];exact e7 (QZ _ h) q;rw[dF h];unfold uP at q;rw[ii λz=>(Qf.mp z).elim x h]at q;exact q
def LF(n:Int):LN:=VH (n * n+n) 8
def DH(n:Int):Int:=1+n / 3 % 8
def P6(n:Int):Int:=n / 24 % DH n
def FB(c:Int)(k:Nat):LN :=
 if lA c 1 % 3=0 then(LF (lA c 1)).take (P6 (lA c 1)).toNat++[EB (lA c 1 / 192+k)]++((LF (lA c 1)).drop (P6 (lA c 1)+1).toNat).take (DH (lA c 1) - (P6 (lA c 1)+1)).toNat
 else if lA c 1 % 3=1 then(LF (lA c 1)).take (1+(lA c 1 / 24+k) % 8).toNat
 else([EB (lA c 1 / 192+k)]++VH (lA c (k+2)) 7).take (1+lA c (k+40) % 8).toNat
theorem D6(n:Int):(1<=DH n/\DH n<=8)/\0<=P6 n/\P6 n<DH n:=by
 have a:=DA (n / 3) (show(0:Int)<8 by decide);have b:1<=DH n/\DH n<=8:=by unfold DH;omega
 exact#[b,DA _ ()]
theorem UW.take(h:UW l)(n:Nat):UW (l.take n):=λc hc=>h c (List.mem_of_mem_take hc)
theorem UW.drop(h:UW l)(n:Nat):UW (l.drop n):=λc hc=>h c (List.mem_of_mem_drop hc)
theorem UW.app{a b:LN}(h:UW a)(g:UW b):UW (a++b):=λc hc=>(Qf.mp hc).elim (h c) (g c)
theorem B9(n:Int):UW [EB n]:=λc hc=>by rw[QI.mp hc];exact yY n
theorem Cc(c:Int)(k:Nat):UW (FB c k):=by
 unfold FB;split;exact(((pH _ _).take _).app (B9 _)).app (((pH _ _).drop _).take _);split
 ·exact(pH _ _).take _
 exact((B9 _).app (pH _ _)).take _
theorem jAy(a b c:Nat):min a 8+1+min b (8 - c)<=17:=Nat.add_le_add (Nat.add_le_add_right (W4 _ _) 1) (QW (W4 _ _) (Nat.sub_le _ _))
theorem L6(c:Int)(k:Nat):(FB c k).9<=20:=by
 have b:(LF (lA c 1)).9=8:=oC _ _;unfold FB;split;rw[QJ,QJ,qH,qH,QA1,b];exact QW (jAy _ _ _) (by decide);split
 ·rw[qH,b];exact QW (W4 _ _) (by decide)
 rw[qH,QJ,oC];exact QW (W4 _ (1+7)) (by decide)
theorem Bc{i j:Nat}(s:i<6)(r:j<6)(h:uP (FB c i)=uP (FB c j)):i=j:=by
 have key:∀(p:Nat) (a:Int),(∀k,(FB c k)[p]?=jr (EB (a+k)))->i=j:=λp a e=>by
  let#[u,g]:=c7 (e i);let#[v,q]:=c7 (e j);rw[h]at g;have l:∀{x y:Int},EB x=EB y->x % 26=y % 26:=λ{x y} e=>by have:=DA x (show(0:Int)<26 by decide);have:=DA y (show(0:Int)<26 by decide);unfold EB at e;omega
  have:=l (Qm (g.symm.trans q));omega
 have b:(LF (lA c 1)).9=8:=oC _ _;have ws:=D6 (lA c 1);by_cases z:lA c 1 % 3=0;refine key (P6 (lA c 1)).toNat (lA c 1 / 192) λk=>?_;unfold FB;have o:((LF (lA c 1)).take (P6 (lA c 1)).toNat).9=(P6 (lA c 1)).toNat:=by rw[qH,b];omega
 rw[i0 z,Q1,Qy (),o,QBO];rfl;by_cases f:lA c 1 % 3=1
 ·have e:=o9 qO h
  rw[sZ,sZ]at e;have a:∀k,(FB c k).9=(1+(lA c 1 / 24+k) % 8).toNat:=λk=>by have:=DA (lA c 1 / 24+k) (show(0:Int)<8 by decide);unfold FB;rw[ii z,i0 f,qH,b];omega
  rw[a,a]at e;have:=DA (lA c 1 / 24+i) (show(0:Int)<8 by decide);have:=DA (lA c 1 / 24+j) (show(0:Int)<8 by decide);omega
 refine key 0 (lA c 1 / 192) λk=>?_;have m:=DA (lA c (k+40)) (show(0:Int)<8 by decide);unfold FB;rw[ii z,ii f];obtain⟨t,e⟩:∃t,(1+lA c (k+40) % 8).toNat=t+1:=#[(lA c (k+40) % 8).toNat,()]
 rw[e];rfl
def vF(c:Int)(m:Nat):LS:=if lA c 1 / 5000 % 2=1 then((Qo m).map λk=>sS (uP (FB c k))).reverse else(Qo m).map λk=>sS (uP (FB c k))
theorem GT(c:Int){m:Nat}(h:m<=6):(vF c m).Nodup/\(vF c m).9=m/\∀x∈vF c m,OkS x:=by
 have nd:((Qo m).map λk=>sS (uP (FB c k))).Nodup:=by refine QCE.mpr (wg (λ{i j} v u z e=>z ?_) List.nodup_range);have:=qW.mp v;have:=qW.mp u;exact Bc () () (Ek e)
 have ok:∀x∈(Qo m).map λk=>sS (uP (FB c k)),OkS x:=λx y=>by let#[k,_,rfl]:=QO.mp y;exact Zh (Ck (Cc c k))
 unfold vF;split;exact#[(List.reverse_perm _).nodup_iff.mpr nd,by rw[wm,QA,Q8],λx y=>ok x (QCX.mp y)];exact#[nd,by rw[QA,Q8],ok]
def OI:PSp where
 run:=λh Q _=>∃(c:Int) (m:Nat),h=[.d (.int c),.d (.int (m:Int)),.d (.int 8)]/\m<=10/\Q (.lst (((vF c m).map j0).map T.d)) []
theorem TM(x:0<=j)(h:j<=l.9):wz (sS l) kv (jr j)=sS (l.take j.toNat):=by show QAj (sS l) kv (jr j)=_;rw[StrLaws.sliceText_to #[x,h],List.drop_zero,Int.sub_zero];rfl
theorem C3{i:Int}(y:0<=i)(x:i<=j)(h:j<=l.9):wz (sS l) (jr i) (jr j)=sS ((l.drop i.toNat).take (j - i).toNat):=by show QAj (sS l) (jr i) (jr j)=_;rw[StrLaws.sliceText_plain #[y,x,h]];rfl
def N6(c:Int)(m:Int)(ws:LS)(x o10 h:Option Sl):xA:=[bD (.int c),bD (.int m),bD (.int 8),bD (.str KH),bD (.int (lA c 1)),bD (.str (sS (LF (lA c 1)))),bD (.int (DH (lA c 1))),bD (.int (P6 (lA c 1))),oW (.lst ((ws.map j0).map T.d)),x,o10,h]
theorem br(x:Ψ.sp "_law_spelt"=kG){h:Option Sl}(hl:l.9<=20)(y:ws.length<=100)(q:Z.nx (N6 c m (ws++[sS (uP l)]) h o10 (bD (.str (sS l))))):pF Ψ gD Z (N6 c m ws h o10 (bD (.str (sS l)))):=by unfold N6 at q;rw[QT,QT]at q;delta N6;delta gD;simp![↓jA (md:=[]) x rfl rfl];refine#[_,rfl,(),?_];simp![QA];exact#[(),q]
theorem Rx(Y:Ψ.sp "_law_spelt"=kG)(X:Ψ.sp "_law_mixed"=xG)(s:Ψ.sp "_law_letters"=gK){k:Nat}{h:Option Sl}(hk:k<=100)(g:ws.length<=100)(q:∀o10 h,Z.nx (N6 c m (ws++[sS (uP (FB c k))]) (bD (.int (k:Int))) o10 h)):pF Ψ BG Z (N6 c m ws (bD (.int (k:Int))) o10 h):=by
 have v:(LF (lA c 1)).9=8:=oC _ _;have i:=D6 (lA c 1);have r:∀(l:LN) (o10:Option Sl),l=FB c k->pF Ψ gD Z (N6 c m ws (bD (.int (k:Int))) o10 (bD (.str (sS l)))):=by rintro l o10 rfl;exact br Y (L6 c k) g (q _ _)
 delta N6;delta BG;simp![↓Rb];refine C9 ?_;have f:(sS (LF (lA c 1))).9<=sizeLine:=by rw[cE,v];omega
 by_cases y:lA c 1 % 3=0;have x:wz (sS (LF (lA c 1))) kv (jr (P6 (lA c 1)))=_:=TM i.2.1 ();have o:wz (sS (LF (lA c 1))) (jr (P6 (lA c 1)+1)) (jr (DH (lA c 1)))=_:=C3 () () ();have r:=r _ (bD (.str (sS [EB (lA c 1 / 192+k)]))) (show _=FB c k from(i0 y).symm);rw[<- EM,<- EM]at r;rw[i0 (dT y)];simp![↓iT,↓Fz,↓Hz,↓Vd,x,o];refine#[f,(vW (P:=λ_=>True) (b:=[EB (lA c 1 / 192+k)]) (by rw[qH,v];show _+1<=_;omega) trivial).1,f,?_,r];rw[show(#[(qG [EB (lA c 1 / 192+k)])]:Str)=sS [EB (lA c 1 / 192+k)] from rfl,EM];refine(vW (P:=λ_=>True) ?_ trivial).1;rw[QJ,qH,qH,QA1,v];exact QW (jAy _ _ _) (by decide);rw[ii λz=>y (oa z)];by_cases u:lA c 1 % 3=1;have m:=DA (lA c 1 / 24+k) (show(0:Int)<8 by decide);have x:wz (sS (LF (lA c 1))) kv (jr (1+(lA c 1 / 24+k) % 8))=_:=TM () ();have r:=r _ (bD (.str (sS [EB (lA c 1 / 192+k)]))) (show _=FB c k from((ii y).trans (i0 u)).symm);rw[i0 (dT u)];simp![↓iT,↓Su,↓Vd,x];exact#[f,r];have m:=DA (lA c (k+40)) (show(0:Int)<8 by decide);have p:([EB (lA c 1 / 192+k)]++VH (lA c (k+2)) 7).9=8:=by rw[QJ,oC];rfl
 have x:wz (sS ([EB (lA c 1 / 192+k)]++VH (lA c (k+2)) 7)) kv (jr (1+lA c (k+40) % 8))=_:=TM () ();have r:=r _ (bD (.str (sS [EB (lA c 1 / 192+k)]))) (show _=FB c k from((ii y).trans (ii u)).symm);rw[ii λz=>u (oa z)];simp_arith![↓iT,↓Su,↓Vd,↓jA (md:=[]) X rfl rfl,↓jA (md:=[]) s rfl rfl,↓bH,↓ZR];have e:(#[(qG [EB (lA c 1 / 192+k)])]:Str)++sS (VH (lA c (k+2)) (QCj 7))=sS ([EB (lA c 1 / 192+k)]++VH (lA c (k+2)) 7):=EM _ _;rw[e,x];refine#[(),(),(vW (a:=[EB (lA c 1 / 192+k)]) (b:=VH (lA c (k+2)) 7) (P:=λ_=>True) (by rw[oC];show 1+7<=_;omega) trivial).1,(),(),by rw[cE,p];omega,r]
theorem Xy{ds:List D}{Q:T->Bool->Prop}(q:Q (.lst (ds.reverse.map T.d)) kf):sd (nA (.lst (ds.map T.d)) n).vw Q:=by rw[UC];exact#[_,ds,rfl,rA ds,q]
theorem O8(p:Ψ.sp "_law_spelt"=kG)(b:Ψ.sp "_law_mixed"=xG)(a:Ψ.sp "_law_letters"=gK):EC Ψ PK OI PQ mN:=by rintro _ Q _ ⟨c,m,rfl,Y,q⟩;have s:=D6 (lA c 1);have X:=Xn c 1;refine zA [bD (.int c),bD (.int (m:Int)),bD (.int 8),kv,kv,kv,kv,kv,kv,kv,kv,kv] ?_;delta PK;simp![↓jA (md:=[]) b rfl rfl,↓jA (md:=[]) a rfl rfl,↓bH,↓ZR];refine#[YT.ok (.inl #[(),()]),(),(),(),(),?_];rw[qb];refine RA (λ(i:Nat)=>T.d (.int (i:Int))) (λr u=>∃ws v o10 h,ws++r.map (λk=>sS (uP (FB c k)))=(Qo m).map (λk=>sS (uP (FB c k)))/\(∀k∈r,k<=100)/\u=N6 c m ws v o10 h) ?_ ?_ _ _ #[[],kv,kv,kv,rfl,λk hk=>by have:=qW.mp hk;omega,rfl];rintro u ⟨ws,v,o10,h,e,_,rfl⟩;rw[wT,qI]at e;subst e;delta N6;unfold vF at q;simp![↓yA];by_cases y:lA c 1 / 5000 % 2=1;rw[i0 y]at q;rw[i0 (dT y)];show sd (nA (T.lst ((((Qo m).map λk=>sS (uP (FB c k))).map j0).map T.d)) kd).vw λz k=>XH z k=kf/\Q z [];refine Xy ?_;rw[<- W0];exact#[rfl,q];rw[ii y]at q;rw[ii λz=>y (oa z)];exact q;rintro k r u N o ⟨ws,v,o10,h,e,g,rfl⟩;have hl:=o9 qO e;rw[QJ,QA,QA,Q8]at hl;delta N6;refine Rx p b a (g k QE) () λo10 h=>o _ #[_,_,o10,h,?_,λx f=>g x (QF _ f),rfl];rw[Q1];exact e
def g8(x:Str)(m:Int):Str×Int×Int×Int:=(x,gI [99,50,20,99,0,50,99,21] (m / 6 % 8) 0,gI [0,0,0,20,50,99] (m % 6) 0,gI [1,1,1,2,2,3] (m / 48 % 6) 0)
def kX:PSp where
 run:=λh Q _=>∃(x:Str) (m:Int),h=[.d (.str x),.d (.int m)]/\Q (.d (dH (g8 x m))) []
end
section
variable{a b c d e f g h:D}{n m:Bool}{t:T}{R:T->Prop}
theorem Hx:KA (.lst [.d a,.d b,.d c,.d d,.d e,.d f]) n t m R=KA (.lst ([a,b,c,d,e,f].map T.d)) n t m R:=rfl
theorem Gx:KA (.lst [.d a,.d b,.d c,.d d,.d e,.d f,.d g,.d h]) n t m R=KA (.lst ([a,b,c,d,e,f,g,h].map T.d)) n t m R:=rfl
end
section
variable{Ψ:PEv}{k j:Nat}{ms ns:LS}{m X i:Int}{Z:PEnds}{s:Int×List Pt}{Y x:Str}{n:Bool}{evs:List Evt}{R:T->Prop}{E:XE}{ρ:xA}{U:List (Str×LS)}
theorem Vm:EC Ψ eI kX LO lL:=by rintro _ Q _ ⟨x,m,rfl,q⟩;have z:=DA m (show(0:Int)<6 by decide);have y:=DA (m / 6) (show(0:Int)<8 by decide);have h:=DA (m / 48) (show(0:Int)<6 by decide);refine zA [bD (.str x),bD (.int m),kv,kv] ?_;delta eI;simp_arith![↓Hx,↓Gx];refine#[(),gE (f:=j1) (l:=[0,0,0,20,50,99]) 0 z.1 z.2 ?_];refine#[(),gE (f:=j1) (l:=[99,50,20,99,0,50,99,21]) 0 y.1 y.2 ?_];refine#[(),gE (f:=j1) (l:=[1,1,1,2,2,3]) 0 h.1 h.2 ?_];exact#[(),q]
def Ip(ms:LS)(m:Int)(j k:Nat):List Pt:=if m % 3=0 then[(gI ms (j:Int) "",gI ms (k:Int) "")] else if m % 3=1 then[(gI ms (k:Int) "",gI ms (j:Int) "")] else[]
def Zg(ms:LS)(j:Nat)(s:Int×List Pt)(k:Nat):Int×List Pt:=(s.1 / 3,s.2++Ip ms (s.1 / 3) j k)
def Kg(ms:LS)(s:Int×List Pt)(j:Nat):Int×List Pt:=(Qo j).foldl (Zg ms j) s
def Lv(ms:LS)(m:Int):List Pt:=((Qo ms.9).foldl (Kg ms) (m,[])).2
theorem HS{α:Type}{l:List α}{d:α}(h:k<l.9):vD l (k:Int)=jr (gI l (k:Int) d)/\gI l (k:Int) d∈l:=sF (QB4 k) ()
def YW(ms:LS)(l:List Pt):Prop:=∀p∈l,p.1∈ms/\p.2∈ms
theorem Hb(y:j<ms.9)(hk:k<ms.9):YW ms (Ip ms m j k)/\(Ip ms m j k).9<=1:=by
 have a:=(HS (d:=("":Str)) y).2;have b:=(HS (d:=("":Str)) hk).2;unfold Ip;split;exact#[λp h=>by rw[QI.mp h];exact#[a,b],QY _];split
 ·exact#[λp h=>by rw[QI.mp h];exact#[b,a],QY _]
 exact#[λp h=>(by cases h),Qq _]
theorem vZ{ms:LS}{j:Nat}(y:j<ms.9):∀(l:LN) (s:Int×List Pt),(∀k∈l,k<ms.9)->YW ms s.2->YW ms (l.foldl (Zg ms j) s).2/\(l.foldl (Zg ms j) s).2.length<=s.2.9+l.9
 |[],s,_,h=>#[h,QY _]|k::l,s,hl,h=>by let#[a,b]:=Hb (m:=s.1 / 3) y (hl k QE);let#[c,d]:=vZ y l (Zg ms j s k) (λx z=>hl x (QF _ z)) λp u=>(Qf.mp u).elim (h p) (a p);refine#[c,QW d ?_];show(s.2++Ip ms (s.1 / 3) j k).9+l.9<=s.2.9+(l.9+1);rw[QJ];omega
theorem Lb{ms:LS}(u:ms.9<=10):∀(l:LN) (s:Int×List Pt),(∀k∈l,k<ms.9)->YW ms s.2->YW ms (l.foldl (Kg ms) s).2/\(l.foldl (Kg ms) s).2.length<=s.2.9+10 * l.9
 |[],s,_,h=>#[h,QY _]|j::l,s,hl,h=>by have y:=hl j QE;let#[a,b]:=vZ y (Qo j) s (λk hk=>wy (qW.mp hk) y) h;let#[c,d]:=Lb u l (Kg ms s j) (λx z=>hl x (QF _ z)) a;rw[Q8]at b;refine#[c,QW d ?_];show((Qo j).foldl (Zg ms j) s).2.length+_<=s.2.9+10 * (l.9+1);omega
theorem jq(y:ms.9<=10)(m:Int):YW ms (Lv ms m)/\(Lv ms m).9<=100:=by
 let#[a,b]:=Lb y (Qo ms.9) (m,[]) (λk hk=>qW.mp hk) λp h=>by cases h
 rw[Q8]at b;exact#[a,QW b (by show 0+_<=_;omega)]
def tR:PSp where
 run:=λh Q _=>∃(ms:LS) (m:Int),h=[.d (.list (ms.map j0)),.d (.int m)]/\ms.9<=10/\Q (.lst (((Lv ms m).map pr).map T.d)) []
noncomputable def Gb(ms:LS)(s:Int×List Pt)(o3 o4:Option Sl):xA:=[bD (.list (ms.map j0)),bD (.int s.1),oW (.lst ((s.2.map pr).map T.d)),o3,o4]
theorem jAO(w:j<ms.9)(hk:k<ms.9)(a:s.2.9<=1000)(q:Z.nx (Gb ms (Zg ms j s k) (bD (.int (j:Int))) (bD (.int (k:Int))))):pF Ψ JE Z (Gb ms s (bD (.int (j:Int))) (bD (.int (k:Int)))):=by
 have u:vD (ms.map j0) (k:Int)=jr (.str (gI ms (k:Int) "")):=by rw[GF,(HS (d:=("":Str)) hk).1];rfl
 have v:vD (ms.map j0) (j:Int)=jr (.str (gI ms (j:Int) "")):=by rw[GF,(HS (d:=("":Str)) w).1];rfl
 unfold Gb Zg Ip at q;delta Gb;delta JE;simp![↓Rb];by_cases y:s.1 / 3 % 3=0;rw[i0 y,QT,QT]at q;rw[i0 (dT y)];simp![u,v,QA];exact#[(),(),q];rw[ii y]at q;rw[ii λz=>y (oa z)];by_cases h:s.1 / 3 % 3=1;rw[i0 h,QT,QT]at q;rw[i0 (dT h)];simp![u,v,QA];exact#[(),(),q];rw[ii h,qI]at q;rw[ii λz=>h (oa z)];exact q
theorem jAN{o4:Option Sl}(y:j<ms.9)(f:ms.9<=10)(b:YW ms s.2)(a:s.2.9<=100)(q:∀o4,Z.nx (Gb ms (Kg ms s j) (bD (.int (j:Int))) o4)):pF Ψ iE Z (Gb ms s (bD (.int (j:Int))) o4):=by delta Gb;delta iE;simp![qb];refine#[(),(),?_];refine RA (λ(i:Nat)=>T.d (.int (i:Int))) (λr ρ=>∃h o4,r.foldl (Zg ms j) h=Kg ms s j/\(h.2.9+r.9<=200/\∀k∈r,k<ms.9)/\ρ=Gb ms h (bD (.int (j:Int))) o4) ?_ ?_ _ _ #[s,o4,rfl,#[by rw[Q8];omega,λk hk=>wy (qW.mp hk) y],rfl];rintro ρ ⟨h,o4,e,_,rfl⟩;have e:h=Kg ms s j:=e;subst e;delta Gb;simp![↓yA];exact q _;rintro k r ρ N w ⟨h,o4,e,⟨u,z⟩,rfl⟩;have u:h.2.9+(r.9+1)<=200:=u;have hk:=z k QE;refine jAO y hk () (w _ #[_,_,e,#[?_,λx v=>z x (QF _ v)],rfl]);have:=(Hb (ms:=ms) (m:=h.1 / 3) y hk).2;show(h.2++Ip ms (h.1 / 3) j k).9+r.9<=200;rw[QJ];omega
theorem Oe:EC Ψ FG tR HL fJ:=by rintro _ Q _ ⟨ms,m,rfl,o,q⟩;refine zA [bD (.list (ms.map j0)),bD (.int m),kv,kv,kv] ?_;delta FG;simp![QA,qb];refine#[(),(),(),?_];refine RA (λ(i:Nat)=>T.d (.int (i:Int))) (λr ρ=>∃h z y,r.foldl (Kg ms) h=(Qo ms.9).foldl (Kg ms) (m,[])/\(h.2.9+10 * r.9<=100/\YW ms h.2/\∀k∈r,k<ms.9)/\ρ=Gb ms h z y) ?_ ?_ _ _ #[(m,[]),kv,kv,rfl,#[by rw[Q8];show 0+_<=_;omega,(λp l=>by cases l),λk hk=>qW.mp hk],rfl];rintro ρ ⟨h,z,y,e,_,rfl⟩;have e:h.2=Lv ms m:=o9 QCY e;delta Gb;simp![↓yA];rw[e];exact q;rintro j r ρ N W ⟨h,z,y,e,⟨f,w,v⟩,rfl⟩;have f:h.2.9+10 * (r.9+1)<=100:=f;have u:=v j QE;let#[a,b]:=vZ u (Qo j) h (λk hk=>wy (qW.mp hk) u) w;rw[Q8]at b;refine jAN u o w () λy=>W _ #[_,_,y,e,#[?_,a,λx g=>v x (QF _ g)],rfl];show((Qo j).foldl (Zg ms j) h).2.length+10 * r.9<=100;omega
noncomputable def bh(Y:Str)(X:Int)(s:Str×LS):Evt->Str×LS
 | .see _ _ _ _=>s|.tell _ a b m _ _=>if b=s.1/\m=Y/\(s.2.9:Int)<X then(a,s.2++[a]) else s
theorem A7{s:Str×LS}{t:Int}{a b m w:Str}{q:LS}:bh Y X s (.tell t a b m w q)=if b=s.1/\m=Y/\(s.2.9:Int)<X then(a,s.2++[a]) else s:=rfl
def Hy(evs:List Evt)(x Y:Str)(X:Int):LS:=(evs.reverse.foldl (bh Y X) (x,[])).2
def UJ(evs:List Evt):T:=.lst ((evs.map VD).map T.d)
def NM:PSp where
 md:=[.shal]
 run:=λh Q _=>∃(evs:List Evt) (x Y:Str) (X:Int),h=[UJ evs,.d (.str x),.d (.str Y),.d (.int X)]/\evs.9<=1000/\Q (.d (.tuple ((Hy evs x Y X).map j0))) []
def Yq(evs:List Evt)(x Y:Str)(X:Int)(s:Str×LS)(o6:Option Sl):xA:=[jr (.bor (UJ evs)),bD (.str x),bD (.str Y),bD (.int X),oW (.lst ((s.2.map j0).map T.d)),bD (.str s.1),o6]
theorem Ch{ds:List D}{Q:T->Bool->Prop}:eM .tuple [(.lst (ds.map T.d),n)] Q=Q (.d (.tuple ds)) false:=by unfold eM TB;rw[UC];show E5 .tuple [.ls (ds.map T.d)] Q=_;rw[Di];exact ot #[λ#[_,e,q]=>by rw[rA]at e;cases e;exact q,λq=>#[_,rA _,q]]
theorem Ly{s:Str×LS}{e:Evt}(hl:s.2.9<=10000)(q:Z.nx (Yq evs x Y X (bh Y X s e) (bD (VD e)))):pF Ψ zE Z (Yq evs x Y X s (bD (VD e))):=by
 delta Yq;cases e with|see t p m v=>delta zE;simp![↓FW,gc];exact fI (show decide ((Qa "see")=(Qa "tell"))≠kf by decide) q|tell t a b m v w=>rw[A7]at q;delta zE;simp![↓FW,gc,↓U6,↓X6,↓V6,QA];by_cases u:b=s.1;rw[i0 (dT u)];by_cases y:m=Y;rw[i0 (dT y)];by_cases h:(s.2.9:Int)<X;rw[i0 #[u,y,h]]at q;unfold Yq at q;rw[QT,QT]at q;rw[i0 (dT h)];exact#[(),q];rw[ii λz=>h z.2.2]at q;rw[ii λz=>h (oa z)];exact q;rw[ii λz=>y z.2.1]at q;rw[ii λz=>y (oa z)];exact q;rw[ii λz=>u z.1]at q;rw[ii λz=>u (oa z)];exact q
theorem Zd(Y:Str)(X:Int)(s:Str×LS)(e:Evt):(bh Y X s e).2.length<=s.2.9+1:=by
 cases e with|see t p m h=>exact qq _|tell t a b m h q=>rw[A7];split;show(s.2++[a]).9<=_;rw[QJ];exact QY _;exact qq _
theorem T8:EC Ψ SK NM SQ pN:=by rintro _ Q _ ⟨evs,x,Y,X,rfl,hl,q⟩;refine zA [jr (.bor (UJ evs)),bD (.str x),bD (.str Y),bD (.int X),kv,kv,kv] ?_;delta UJ;delta SK;simp![↓yA];refine#[(),?_];rw[<- W0,<- bA VD];refine RA (λe=>T.d (VD e)) (λr ρ=>∃s h,r.foldl (bh Y X) s=evs.reverse.foldl (bh Y X) (x,[])/\s.2.9+r.9<=1000/\ρ=Yq evs x Y X s h) ?_ ?_ _ _ #[(x,[]),kv,rfl,by rw[wm];show 0+_<=_;omega,rfl];rintro ρ ⟨s,h,e,_,rfl⟩;have e:s.2=Hy evs x Y X:=o9 QCY e;delta Yq;simp![↓Ch];rw[e];exact q;rintro ev r ρ N y ⟨s,h,e,g,rfl⟩;have g:s.2.9+(r.9+1)<=1000:=g;have:=Zd Y X s ev;exact Ly () (y _ #[_,_,e,(),rfl])
def Kw(ns ms:LS):Evt->Prop
 | .see _ p m h=>p∈ns/\m∈ms/\OkS h|.tell _ a b m h q=>a∈ns/\b∈ns/\m∈ms/\a≠b/\OkS h/\∀x∈q,x∈ns
theorem E7{ns ms:LS}{Y:Str}{X:Int}:∀(l:List Evt) (s:Str×LS),(∀e∈l,Kw ns ms e)->(∀x∈s.2,x∈ns)->∀x∈(l.foldl (bh Y X) s).2,x∈ns
 |[],s,_,h=>h|e::l,s,hl,h=>by
  refine E7 l (bh Y X s e) (λx y=>hl x (QF _ y)) λx y=>?_;have u:=hl e QE;cases e with
  |see t p m z=>exact h x y|tell t a b m z q =>
   rw[A7]at y;split at y;rcases Qf.mp y with y|y
   ·exact h x y
   rw[QI.mp y];exact u.1;exact h x y
def jM(ns:LS)(r:Int):Int:=r % (ns.9:Int)
noncomputable def be(ns:LS)(r:Int):Int:=(jM ns r+1+r / 360 % ((ns.9:Int) - 1)) % (ns.9:Int)
def d0(ns:LS)(i:Int):Str:=gI ns i ""
def Vq(ms:LS)(r:Int):Str:=gI ms (r / 7 % (ms.9:Int)) ""
def Nw(m:Int):Int:=gI [m / 3 % 5,m / 3 % 30,999999999 - m / 3 % 4] (m % 3) 0
def cr(r:Int):Str:=sS (VH r (1+r / 11 % 8).toNat)
def My(evs:List Evt)(ns ms:LS)(r:Int):LS:=if r / 10000 % 5=0 then(Qo (1+r / 2500 % 3).toNat).map λ(k:Nat)=>d0 ns ((r / 50000+2 * (k:Int)) % (ns.9:Int)) else Hy evs (d0 ns (jM ns r)) (Vq ms r) (r / 2500 % 4)
def uv(evs:List Evt)(ns ms:LS)(m:Int):Evt:=if m / 40 / 90 % 4=0 then .see (Nw m) (d0 ns (jM ns (m / 40))) (Vq ms (m / 40)) (cr (m / 40)) else .tell (Nw m) (d0 ns (jM ns (m / 40))) (d0 ns (be ns (m / 40))) (Vq ms (m / 40)) (cr (m / 40)) (My evs ns ms (m / 40))
structure NsB(ns ms:LS):Prop where
 n2:2<=ns.9
 nl:ns.9<=11
 nd:ns.Nodup
 m1:1<=ms.9
 ml:ms.9<=10
theorem z0(y:0<=i)(h:i<ns.9):d0 ns i∈ns:=(sF y h).2
theorem Ht(nd:ns.Nodup){j:Int}(w:0<=i)(z:i<ns.9)(y:0<=j)(h:j<ns.9)(l:i≠j):d0 ns i≠d0 ns j:=λe=>by let#[v,g,f]:=iM w z;let#[u,b,a]:=iM y h;unfold d0 gI at e;rw[g,b]at e;have e:v=u:=e;subst e;have:=(List.getElem?_inj (i:=i.toNat) () nd).mp (f.trans a.symm);omega
theorem X8(h:2<=ns.9)(r:Int):(0<=jM ns r/\jM ns r<ns.9)/\(0<=be ns r/\be ns r<ns.9)/\jM ns r≠be ns r:=by
 have a:0<=jM ns r/\jM ns r<ns.length:=DA r ();have b:=DA (r / 360) (show(0:Int)<(ns.9:Int) - 1 by omega);have c:0<=be ns r/\be ns r<ns.length:=DA _ ();refine#[a,c,λe=>?_];unfold be at e;generalize r / 360 % ((ns.9:Int) - 1)=y at *;generalize jM ns r=o at *;have d:(o+1+y) % (ns.9:Int)=o+1+y∨(o+1+y) % (ns.9:Int)=o+1+y - ns.length:=by by_cases z:o+1+y<ns.9;left;exact QAk () z;right;rw[<- Int.sub_emod_right];exact QAk () ()
 omega
theorem Eu(hb:NsB ns ms)(w:∀e∈evs,Kw ns ms e)(m:Int):Kw ns ms (uv evs ns ms m):=by
 have v:=hb.n2;have f:=hb.m1;let#[a,b,c]:=X8 v (m / 40);have u:Vq ms (m / 40)∈ms:=by have:=DA (m / 40 / 7) (show(0:Int)<(ms.9:Int) by omega);exact(sF this.1 this.2).2
 have z:OkS (cr (m / 40)):=Zh (pH _ _);unfold uv;split;exact#[z0 a.1 a.2,u,z];refine#[z0 a.1 a.2,z0 b.1 b.2,u,Ht hb.nd a.1 a.2 b.1 b.2 c,z,?_];unfold My;split;intro x y;let#[k,_,rfl]:=QO.mp y;have:=DA (m / 40 / 50000+2 * (k:Int)) (show(0:Int)<(ns.9:Int) by omega);exact z0 this.1 this.2;exact E7 evs.reverse _ (λe h=>w e (QCX.mp h)) λx y=>by cases y
def rR:PSp where
 md:=[.shal]
 run:=λh Q _=>∃(evs:List Evt) (ns ms:LS) (m:Int),h=[UJ evs,.d (.list (ns.map j0)),.d (.list (ms.map j0)),.d (.int m)]/\(evs.9<=1000/\NsB ns ms)/\Q (.d (VD (uv evs ns ms m))) []
theorem vz{a b c d e f g:D}:KC [.d a,.d b,.d c,.d d,.d e,.d f,.d g]=.d (.tuple [a,b,c,d,e,f,g]):=rfl
def jA0(evs:List Evt)(ns ms:LS)(m:Int)(h o10:Option Sl):xA:=[jr (.bor (UJ evs)),bD (.list (ns.map j0)),bD (.list (ms.map j0)),bD (.int m),bD (.int (Nw m)),bD (.int (m / 40)),bD (.int (jM ns (m / 40))),bD (.str (Vq ms (m / 40))),bD (.str (cr (m / 40))),h,o10]
theorem nk{m:Bool}(y:0<=i)(h:i<ns.9):KA (.d (.list (ns.map j0))) n (.d (.int i)) m R=R (.d (.str (d0 ns i))):=by rw[Uc,GF,(sF (d:=("":Str)) y h).1];exact GA
theorem bv{Q:T->LT->Prop}{l:LS}(h:2<=ns.9)(q:Q (.d (VD (.tell (Nw m) (d0 ns (jM ns (m / 40))) (d0 ns (be ns (m / 40))) (Vq ms (m / 40)) (cr (m / 40)) l))) []):pF Ψ KF (eZ Q) (jA0 evs ns ms m (bD (.int (be ns (m / 40)))) (bD (.tuple (l.map j0)))):=by let#[a,b,c]:=X8 h (m / 40);delta jA0;delta KF;simp![↓nk a.1 a.2,↓nk b.1 b.2,↓vz];exact#[(),q]
theorem jn(r:Ψ.sp "_law_letters"=gK)(p:Ψ.sp "_law_quote"=NM):EC Ψ jL rR AQ sN:=by rintro _ Q _ ⟨evs,ns,ms,m,rfl,⟨hl,hb⟩,q⟩;have u:=hb.n2;have W:=hb.m1;let#[a,b,c]:=X8 u (m / 40);have e:=DA m (show(0:Int)<3 by decide);have B:=DA (m / 40 / 11) (show(0:Int)<8 by decide);have w:=DA (m / 40 / 7) (show(0:Int)<(ms.9:Int) by omega);refine zA [jr (.bor (UJ evs)),bD (.list (ns.map j0)),bD (.list (ms.map j0)),bD (.int m),kv,kv,kv,kv,kv,kv,kv] ?_;delta jL;simp_arith![QA,↓jA (md:=[]) r rfl rfl,↓ZR];refine#[(),gE (f:=j1) (l:=[m / 3 % 5,m / 3 % 30,999999999 - m / 3 % 4]) 0 e.1 e.2 ?_];refine#[(),(),gE (f:=j0) (l:=ms) "" w.1 w.2 #[(),(),?_]];unfold uv at q;by_cases y:m / 40 / 90 % 4=0;rw[i0 y]at q;rw[i0 (dT y)];exact gE (f:=j0) (l:=ns) "" a.1 a.2 #[(),q];rw[ii y]at q;rw[ii λz=>y (oa z)];refine#[(),(),?_];have g:0<=m / 40 % (ns.9:Int)/\m / 40 % (ns.9:Int)<ns.length:=a;delta UJ;simp_arith![↓jA (md:=[.shal]) p rfl rfl,↓nk g.1 g.2];refine#[_,_,_,_,rfl,hl,?_];unfold My at q;simp_arith![↓yA];by_cases h:m / 40 / 10000 % 5=0;rw[i0 h]at q;rw[i0 (dT h)];have A:=DA (m / 40 / 2500) (show(0:Int)<3 by decide);refine#[(),(),?_];refine CA (λ(i:Nat)=>T.d (.int (i:Int))) (λi=>T.d (.str (d0 ns ((m / 40 / 50000+2 * (i:Int)) % (ns.9:Int))))) _ [] _ (λi K R o=>?_) (by rw[Q8];show 0+_<=_;omega) ?_;have v:=DA (m / 40 / 50000+2 * (i:Int)) (show(0:Int)<(ns.9:Int) by omega);simp![QA];exact#[YT.ok (.inl #[by decide,by decide]),(),gE (f:=j0) (l:=ns) "" v.1 v.2 o];rw[Qd,bA λ(i:Nat)=>j0 (d0 ns ((m / 40 / 50000+2 * (i:Int)) % (ns.9:Int)))];simp![↓Ch];have q:=bv (Ψ:=Ψ) (evs:=evs) u q;rw[QR]at q;exact q;rw[ii h]at q;rw[ii λz=>h (oa z)];exact bv u q
def Fq(m:Int)(s:LJ)(p:Int×Nat):LJ:=s.set ((p.2:Int) % m).toNat (gI s ((p.2:Int) % m) 0+p.1)
noncomputable def Dq(m:Int)(cs:LJ):LJ:=(Qo (if(cs.9:Int)<m then(cs.9:Int) else m).toNat).map λ_=>0
def Do(m:Int)(cs:LJ):LJ:=cs.zipIdx.foldl (Fq m) (Dq m cs)
theorem G1(m:Int)(cs:LJ):(Dq m cs).9=(if(cs.9:Int)<m then(cs.9:Int) else m).toNat:=by unfold Dq;rw[QA,Q8]
theorem Fa(m:Int):∀(l:List (Int×Nat)) (s:LJ),(l.foldl (Fq m) s).9=s.9
 |[],s=>rfl|p::l,s=>(Fa m l (Fq m s p)).trans wL
theorem L1(cs:LJ)(h:0<m):(Do m cs).9<=m.toNat:=by unfold Do;rw[Fa,G1];split<;>omega
def lK:PSp where
 md:=[.shal]
 run:=λy Q _=>∃(h:LJ) (m:Int),y=[.lst ((h.map j1).map T.d),.d (.int m)]/\(0<m/\m<=100)/\Q (.lst (((Do m h).map j1).map T.d)) []
noncomputable def Fo(cs:LJ)(m:Int)(s:LJ)(o3 o4:Option Sl):xA:=[jr (.bor (.lst ((cs.map j1).map T.d))),bD (.int m),oW (.lst ((s.map j1).map T.d)),o3,o4]
theorem Rz{cs s:LJ}{x:Int}(h:0<m)(hk:(k:Int) % m<s.9)(q:Z.nx (Fo cs m (Fq m s (x,k)) (bD (.int (k:Int))) (bD (.int x)))):pF Ψ ZF Z (Fo cs m s (bD (.int (k:Int))) (bD (.int x))):=by have y:=(DA (k:Int) h).1;unfold Fo Fq at q;rw[List.map_set]at q;delta Fo;delta ZF;simp![↓yA];refine#[h,gE (f:=j1) (l:=s) 0 y hk ?_];simp![↓yA];exact#[h,sy y (by rw[QA];exact hk) q]
theorem t4:EC Ψ iI lK MO mL:=by
 rintro _ Q _ ⟨h,m,rfl,⟨w,B⟩,q⟩;refine zA [jr (.bor (.lst ((h.map j1).map T.d))),bD (.int m),kv,kv,kv] ?_;have f:=G1 m h;have v:0<=(if(h.9:Int)<m then(h.9:Int) else m)/\(if(h.9:Int)<m then(h.9:Int) else m)<=100:=by split<;>omega
 delta iI;simp![QA];refine#[QAS (by decide) v.1,Int.lt_of_le_of_lt v.2 (by decide),?_];refine CA (λ(i:Nat)=>T.d (.int (i:Int))) (λ_=>T.d (.int 0)) _ [] _ (λi K R g=>?_) (by rw[Q8];show 0+_<=_;omega) ?_;simp![↓yA];exact g;rw[Qd,bA λ(_:Nat)=>j1 0];have e:((Qo (if(h.9:Int)<m then(h.9:Int) else m).toNat).map λ_=>j1 0)=(Dq m h).map j1:=by unfold Dq;rw[QR];rfl
 rw[e,JY];refine RA (No j1) (λr ρ=>∃s z y,r.foldl (Fq m) s=Do m h/\(s.9=(Dq m h).9/\∀p∈r,p.2<h.9)/\ρ=Fo h m s z y) ?_ ?_ _ _ #[_,kv,kv,rfl,#[rfl,λp u=>by let#[_,A,_]:=QBR u;omega],rfl];rintro ρ ⟨s,z,y,e,_,rfl⟩;have e:s=Do m h:=e;subst e;delta Fo;simp![↓yA];exact q;rintro⟨x,k⟩ r ρ N l ⟨s,z,y,e,⟨b,a⟩,rfl⟩;have W:k<h.length:=a (x,k) QE;have o:=DA (k:Int) w;delta Fo No;rw[rg,v3];refine Rz w ?_ (l _ #[_,_,_,e,#[wL.trans b,λp u=>a p (QF _ u)],rfl]);show(k:Int) % m<(s.9:Int);rw[b,f];by_cases c:(h.9:Int)<m;rw[i0 c,QAk () ()];omega;rw[ii c];omega
def VT(h:LJ):LS:=vF (pB h 0) (2+lA (pB h 0) 1 % 5).toNat
def E4(h:LJ):LS:=vF (pB h 1) (1+lA (pB h 1) 2 % 3).toNat
def Dd(c:Int)(ns:LS):List (Str×Int×Int×Int):=ns.zipIdx.map λp=>g8 p.1 (lA c (10+(p.2:Int)))
def Go(ns ms:LS)(evs:List Evt)(p:Int×Nat):List Evt:=evs++[uv evs ns ms (lA p.1 ((p.2:Int)+3))]
def xx(h:LJ)(ns ms:LS):List Evt:=(Do 12 (FJ h (jr 2) kv)).zipIdx.foldl (Go ns ms) []
def wF(h:LJ):Wd:=#[Dd (pB h 0) (VT h),E4 h,Lv (E4 h) (lA (pB h 1) 2 / 3),xx h (VT h) (E4 h)]
theorem ji{ns ms:LS}(hb:NsB ns ms):∀(l:List (Int×Nat)) (evs:List Evt),(∀e∈evs,Kw ns ms e)->(∀e∈l.foldl (Go ns ms) evs,Kw ns ms e)/\(l.foldl (Go ns ms) evs).9=evs.9+l.9
 |[],evs,h=>#[h,rfl]|p::l,evs,h=>by
  let#[a,b]:=ji hb l (Go ns ms evs p) λe y=>by rcases Qf.mp y with y|y;exact h e y;rw[QI.mp y];exact Eu hb h _
  refine#[a,b.trans ?_];show(evs++[_]).9+l.9=evs.9+(l.9+1);rw[QJ];show evs.9+1+l.9=_;omega
theorem aU(c:Int)(ns:LS):((Dd c ns).map λp=>p.1)=ns:=by unfold Dd;rw[QR];exact List.zipIdx_map_fst 0 ns
theorem jz(h:LJ):NsB (VT h) (E4 h)/\(∀x∈VT h,OkS x)/\(∀x∈E4 h,OkS x)/\(E4 h).Nodup:=by have a:=DA (lA (pB h 0) 1) (show(0:Int)<5 by decide);have b:=DA (lA (pB h 1) 2) (show(0:Int)<3 by decide);let#[v,y,u]:=GT (pB h 0) (m:=(2+lA (pB h 0) 1 % 5).toNat) ();let#[e,z,w]:=GT (pB h 1) (m:=(1+lA (pB h 1) 2 % 3).toNat) ();have y:(VT h).9=_:=y;have z:(E4 h).9=_:=z;exact#[#[(),(),v,(),()],u,w,e]
theorem G6(h:LJ):WOk (wF h):=by
 let#[hb,W,f,K]:=jz h;let#[l,C]:=jq hb.ml (lA (pB h 1) 2 / 3);let#[B,g]:=ji hb (Do 12 (FJ h (jr 2) kv)).zipIdx [] λ_ z=>by cases z
 have v:=aU (pB h 0) (VT h);have r:=o9 qO v;have y:∀x∈VT h,Dj (wF h) x:=λx w=>by rw[<- v]at w;let#[p,u,e]:=QO.mp w;exact#[p,u,e]
 rw[QA]at r;rw[QAT]at g;have fl:=L1 (FJ h (jr 2) kv) (show(0:Int)<12 by decide);refine#[λp u=>#[f _ (l p u).1,f _ (l p u).2],C,by show(Dd _ _).9<=11;have:=hb.nl;omega,by show((Dd _ _).map _).Nodup;rw[v];exact hb.nd,λp u=>W _ ?_,hb.ml,f,K,?_,λe A=>?_];rw[<- v];exact QO.mpr #[p,u,rfl];show(xx h (VT h) (E4 h)).9<=60;exact QW (wx g) (by show 0+_<=60;omega);have:=B e A;cases e with|see t p m o=>exact#[y _ this.1,this.2]|tell t a b m o q=>exact#[y _ this.1,y _ this.2.1,this.2.2.1,this.2.2.2.1,this.2.2.2.2.1,λx w=>y x (this.2.2.2.2.2 x w)]
theorem jN{c:Int}{K:T->LT->Prop}(y:0<=m)(h:m<=10)(q:K (.lst (((vF c m.toNat).map j0).map T.d)) []):RL OI [.d (.int c),.d (.int m),.d (.int 8)] K E:=by let#[k,rfl]:=Int.eq_ofNat_of_zero_le y;exact#[_,_,rfl,(),q]
def Sx(w:Wd):T:=.tup [.d (.list (w.ps.map dH)),.d (.list (w.ms.map j0)),.lst ((w.ag.map pr).map T.d),.d (.list (w.es.map VD))]
theorem ki(ds:List D):(T.lst (ds.map T.d)).er=.list ds:=by show PyData.list (ersT (ds.map T.d))=_;rw[UA]
theorem dv(w:Wd):(Sx w).er=wD w:=by show PyData.tuple [.list (w.ps.map dH),.list (w.ms.map j0),(T.lst _).er,.list (w.es.map VD)]=_;rw[ki];rfl
theorem jAf{r:PT}{i:Nat}{w:Wd}:BE Ψ E r Z i (Sx w) kf ρ=mB Ψ E r Z (ρ.set i (bD (wD w))):=by unfold BE;rw[dv];exact ot #[λh=>h.2,λh=>#[rfl,h]]
def LM:PSp where
 md:=[.shal]
 run:=λy Q _=>∃h:LJ,y=[.lst ((h.map j1).map T.d)]/\Q (Sx (wF h)) []
def pk(y:LJ)(f s:Int)(ns ms:LS)(h:List (Str×Int×Int×Int))(o6 o7 o8:Option Sl):xA:=[jr (.bor (.lst ((y.map j1).map T.d))),bD (.int f),bD (.int s),bD (.list (ns.map j0)),bD (.list (ms.map j0)),bD (.list (h.map dH)),o6,o7,o8]
theorem Px(u:Ψ.sp "_law_mixed"=xG)(z:Ψ.sp "_law_event"=rR){y:LJ}{f s:Int}{h:List (Str×Int×Int×Int)}{x:Int}(hb:NsB ns ms)(hk:k<=100)(v:evs.9<=900)(q:Z.nx (pk y f s ns ms h (oW (UJ (Go ns ms evs (x,k)))) (bD (.int (k:Int))) (bD (.int x)))):pF Ψ UG Z (pk y f s ns ms h (oW (UJ evs)) (bD (.int (k:Int))) (bD (.int x))):=by unfold pk UJ Go at q;rw[QT,QT]at q;delta pk UJ;delta UG;simp![↓jA (md:=[]) u rfl rfl,↓jA (md:=[.shal]) z rfl rfl,↓bH];refine#[(),(),#[_,_,_,_,rfl,#[(),hb],?_]];simp![QA];exact#[(),q]
theorem lu{a b c:D}{l:LT}:KC [.d a,.d b,.lst l,.d c]=.tup [.d a,.d b,.lst l,.d c]:=rfl
theorem N8(f:Ψ.sp "_law_mixed"=xG)(w:Ψ.sp "_law_cell_at"=EI)(g:Ψ.sp "_law_words"=OI)(I:Ψ.sp "_law_person"=kX)(G:Ψ.sp "_law_folded"=lK)(F:Ψ.sp "_law_event"=rR)(C:Ψ.sp "_law_against"=tR):EC Ψ OK LM OQ lN:=by
 rintro _ Q _ ⟨h,rfl,q⟩;have a:=DA (lA (pB h 0) 1) (show(0:Int)<5 by decide);have b:=DA (lA (pB h 1) 2) (show(0:Int)<3 by decide);let#[hb,_]:=jz h;have J:=hb.nl;have K:=hb.ml;refine zA [jr (.bor (.lst ((h.map j1).map T.d))),kv,kv,kv,kv,kv,kv,kv,kv] ?_;delta OK;simp![↓jA (md:=[]) f rfl rfl,↓jA (md:=[.shal]) w rfl rfl,↓jA (md:=[]) g rfl rfl,↓bH,↓zJ];refine jN () () ?_;simp![↓jA (md:=[.shal]) w rfl rfl,↓jA (md:=[]) g rfl rfl,↓zJ];refine jN () () ?_;simp![↓yA];show AC _ ((((VT h).map j0).zipIdx.map λp=>T.d (.tuple [.int (p.2:Int),p.1]))) [] _;rw[JY];have W:=o9 qO (aU (pB h 0) (VT h));rw[QA]at W;refine CA (No j0) (λp=>T.d (dH (g8 p.1 (lA (pB h 0) (10+(p.2:Int)))))) (VT h).zipIdx [] _ (λp y R A=>?_) (by rw[QAT];show 0+_<=_;omega) ?_;let#[x,k]:=p;let#[_,v,_]:=QBR y;delta No;simp![↓jA (md:=[]) f rfl rfl,↓jA (md:=[.shal]) w rfl rfl,↓jA (md:=[]) I rfl rfl,↓bH,↓zJ];refine#[(),(),#[_,_,rfl,?_]];simp![↓yA];exact A;rw[Qd,bA λp:Str×Nat=>dH (g8 p.1 (lA (pB h 0) (10+(p.2:Int))))];have e:((VT h).zipIdx.map λp=>dH (g8 p.1 (lA (pB h 0) (10+(p.2:Int)))))=(Dd (pB h 0) (VT h)).map dH:=by unfold Dd;rw[QR];rfl
 rw[e];simp![↓jA (md:=[.shal]) G rfl rfl,Y2];refine#[(),#[_,_,rfl,by decide,?_]];have fl:=L1 (FJ h (jr 2) kv) (show(0:Int)<12 by decide);simp![↓yA];rw[JY];refine RA (No j1) (λr ρ=>∃evs u z,r.foldl (Go (VT h) (E4 h)) evs=xx h (VT h) (E4 h)/\(evs.9+r.9<=100/\∀p∈r,p.2<=100)/\ρ=pk h (lA (pB h 0) 1) (lA (pB h 1) 2) (VT h) (E4 h) (Dd (pB h 0) (VT h)) (jr (.own (UJ evs))) u z) ?_ ?_ _ _ #[[],kv,kv,rfl,#[by rw[QAT];show 0+_<=_;omega,λp y=>by let#[_,v,_]:=QBR y;omega],rfl];rintro ρ ⟨evs,u,z,e,_,rfl⟩;have e:evs=xx h (VT h) (E4 h):=e;subst e;delta pk UJ;simp![↓jA (md:=[]) C rfl rfl];rw[ki];refine#[_,_,rfl,K,?_];simp![↓lu];exact#[(),q];rintro⟨x,k⟩ r ρ N B ⟨evs,u,z,e,⟨o,l⟩,rfl⟩;have o:evs.9+(r.9+1)<=100:=o;delta pk No;rw[rg,v3];refine Px f F hb (l (x,k) QE) () (B _ #[_,_,_,e,#[?_,λp y=>l p (QF _ y)],rfl]);show(evs++[_]).9+r.9<=100;rw[QJ];show evs.9+1+r.9<=100;omega
theorem Gi{l:List Stp}{s:Stp}:vD ((l++[s]).map kP) (-1)=jr (kP s):=by rw[QT];exact bT _ _
def uX:PSp where
 run:=λh Q _=>∃w:Wd,h=[.d (wD w)]/\WOk w/\∀ns st t,UI w ns->st=(tB w ns).steps->t.er=.tuple [.list ((U9 st).map nD),.list ((rM st).map pr)]->Q t []
theorem Nm(z:Ψ.sp "gone"=dM):EC Ψ YO uX sW bQ:=by
 rintro _ Q _ ⟨w,rfl,h,q⟩;refine zA [bD (wD w),kv] ?_;delta YO;simp![↓jA (md:=[]) z rfl rfl];refine#[_,rfl,h,λns y=>?_];have q:=λt=>q ns _ t y rfl;generalize (tB w ns).steps=st at q ⊢;simp![QA];rcases bR st with rfl|⟨l,s,rfl⟩
 rw[i0 (dT (show((([]:List Stp).9:Nat):Int)=0 from rfl))];refine#[(),(),(),?_];simp![↓jBO];exact q _ rfl;rw[ii (by rw[o2,QJ,Q5];omega),Gi,GA];simp![↓Rq];rw[Gi,GA];simp![↓Pq];refine#[(),q _ ?_];rw[lM,pM];rfl
noncomputable def ec(U:List (Str×LS)):T:=.dct kd (U.map λy=>.str y.1) ((U.map λy=>PyData.list (y.2.map j0)).map T.d)
theorem pv{m:Bool}(h:x∈U.map λy=>y.1)(q:∀v,(x,v)∈U->R (.d (.list (v.map j0)))):KA (ec U) kd (.d (.str x)) m R:=by
 cases e:dA (U.map λy=>j0 y.1) (.str x) with
 |none=>let#[y,w,u]:=QO.mp h;exact i3 (QO.mpr #[y,w,o9 j0 u]) (SA.mp e)|some k =>
  have u:=aC e;rw[Qc]at u;cases z:U[k]? with|none=>rw[z]at u;cases u|some y=>rw[z]at u;have u:j0 y.1=.str x:=Qm u;injection u with u;let#[y,v]:=y;cases u;exact .inr #[kd,_,_,k,T.d (.list (v.map j0)),rfl,#[_,rfl],e,by rw[Qc,Qc,z];rfl,q v (qN z)]
theorem jAX{K:TK}{b:PX}:t7 (ec U) kd Ψ b E ρ K=zB Ψ b E (lockA ρ) λy m _=>K y m ρ:=rfl
structure OnO(w:Wd)(st:List Stp)(m:Str)(G:LS)(U:List (Str×LS)):Prop where
 wo:WOk w
 hp:∀p∈w.ps,1<=p.2.2.2
 so:∃ns,UI w ns/\st=(tB w ns).steps
 mm:m∈w.ms
 g:∀x,x∈G↔Held (CT w st m) (uE w st m) (HA w) x
 gl:G.9<=90
 cy:xo (zP (CT w st m) (uE w st m) G) (EL (HA w) G) U
def lR:PSp where
 md:=[.fro,.fro,.fro,.fro,.fro,.bor]
 run:=λh Q _=>∃(w:Wd) (st:List Stp) (m:Str) (p:Str×Int×Int×Int) (G:LS) (U:List (Str×LS)),h=[.d (wD w),.d (.list ((rM st).map pr)),.d (.str m),.d (dH p),.d (.list (G.map j0)),ec U]/\(OnO w st m G U/\p∈w.ps)/\Q (.d (.bool kf)) []
def XW(w:Wd)(st:List Stp)(m:Str)(p:Str×Int×Int×Int)(G:LS)(U:List (Str×LS))(x:Str)(cs:List (LS))(o8 u o10 z y h:Option Sl):xA:=[bD (wD w),bD (.list ((rM st).map pr)),bD (.str m),bD (dH p),bD (.list (G.map j0)),jr (.bor (ec U)),bD (.str x),bD (.list (cs.map jC)),o8,u,o10,z,y,h]
theorem OS{es:List Pt}{sr G:LS}{nd:List (Str×Int)}:∀{l:LS}{U:List (Str×LS)},xo (zP es sr G) l U->(U.map λy=>y.1)=l/\∀y∈U,∃cs,Good (tF es G) sr y.1 cs y.2
 |_,_,.nil=>#[rfl,λ_ z=>(nomatch z)]
 |_,_,.cons h t=>by let#[w,v]:=OS (nd:=nd) t;let#[rfl,h]:=h;refine#[o9 (_::·) w,λy u=>?_];rcases QK.mp u with rfl|u;exact h;exact v y u
theorem Jo{a:Bool}{P:Prop}[Decidable P](h:a=kf↔P):a=decide P:=by rw[Qz,o2];exact h
end
section
variable{Ψ:PEv}{Z:PEnds}{w:Wd}{st:List Stp}{m x:Str}{p:Str×Int×Int×Int}{G:LS}{X:List (Str×LS)}{cs:List (LS)}{q:PT}{o8 U o10 o Y j:Option Sl}
section
variable{F u:LS}{y:cx}{R:T->Prop}
theorem Ou{w:Wd}(z:WOk w)(ns:LN):c6 (rM (tB w ns).steps):=λy h=>by by_cases c:ns=[];subst c;cases h;rw[Xa c]at h;exact BS z _ _ y h
theorem Ay(h:OnO w st m G X)(i:p∈w.ps)(E:∀y,y∈F↔Held (ND w st m p.1) (uE w st m) (HA w) y)(I:Good (tF (ND w st m p.1) F) (uE w st m) p.1 cs u){e:Bool}(f:e=kf↔Held (CT w st m) (uE w st m) (HA w) p.1)
  (k:pF Ψ q Z (XW w st m p G X p.1 cs o8 (bD (.bool e)) o10 o Y j)) :
  pF Ψ (.seq (.ife (.or (.cmp .NotEq (.cmp .In (.tup %[.var 6,.var 2|1]) (.var 1)) (.var 9)) (.cmp .NotEq (.cmp .In (.var 6) (.var 4)) (.var 9))) %[.ret (.bl kd)|2] .nil)
  (.seq (.ife (.and (.not (.var 9)) (.cmp .Lt (.bi .len %[.idx (.var 5) (.var 6)|1]) (.bi .len %[.var 7|1]))) %[.ret (.bl kd)|2] .nil) q)) Z (XW w st m p G X p.1 cs o8 (bD (.bool e)) o10 o Y j):=by
 have a:=h.wo;let#[s,B,n]:=h.so;have r:=a.po p i;have K:=a.mo m h.mm;have l:=(h.g p.1).trans f.symm;have C:(p.1,m)∈rM st↔e=true:=by rw[n]at f ⊢;exact(Xo a h.hp B h.mm).trans f.symm
 have A:c6 (rM st):=by rw[n];exact Ou a s
 let#[M,L]:=OS (nd:=HA w) h.cy;have b:=(Xh a i).1;delta XW at k ⊢;simp![↓kq];refine#[(),dY A p.1 m _ r K ?_];show(if(!decide (decide ((p.1,m)∈rM st)=e))=kf then _ else _);rw[show decide ((p.1,m)∈rM st)=e by rw[Qz,o2];exact C];simp![lD,sC,xB,true_or,show decide (p.1∈G)=e by rw[Qz,o2];exact l];cases e with|true=>exact k|false=>simp![↓jAX];have W:p.1∉G:=λz=>QG (l.mp z);refine pv (by rw[M];exact QO.mpr #[_,QX.mpr #[b,by rw[dF W];rfl],rfl]) λv hv=>?_;let#[J,g0]:=L _ hv;have:cs.9<=v.length:=Io E h.g I g0;simp![QA];rw[dF ()];exact k
theorem Ey(f:OnO w st m G X)(b:p∈w.ps)(W:∀y,y∈F↔Held (ND w st m p.1) (uE w st m) (HA w) y)(K:Good (tF (ND w st m p.1) F) (uE w st m) p.1 cs u)
  (k:∀o8 e,(e=kf↔Held (CT w st m) (uE w st m) (HA w) p.1)->pF Ψ q Z (XW w st m p G X p.1 cs o8 (bD (.bool e)) o10 o Y j)) :
  pF Ψ (.seq (.set 8 (.cmp .In (.tup %[.str "see",.var 6,.var 2|1]) (.comp [] ["_law_event_here"] (.nm 0) .val %[.idx (.var 0) (.int 3)|1] .nop (.tup %[.idx (.var 0) (.int 0),.idx (.var 0) (.int 2),.idx (.var 0) (.int 3)|1]))))
  (.seq (.set 9 (.or (.var 8) (.cmp .GtE (.bi .len %[.var 7|1]) (.idx (.var 3) (.int 3))))) q)) Z (XW w st m p G X p.1 cs o8 U o10 o Y j):=by
 have h:=f.wo;have E:=h.el;let#[B,n,A]:=f.so;have i:=h.po p b;have l:=h.mo m f.mm;let#[a,v]:=Xh h b;have g:=iY W a v K;have r:(w.es.any λe=>decide (e3 e=zd p.1 m))=kf↔p.1∈uE w st m:=by rw[A];exact Rk h n b
 delta XW at k ⊢;simp_arith![↓jR];refine#[(),?_];rw[<- bA VD];refine CA (λe=>T.d (VD e)) (λe=>T.d (Tf e)) w.es [] _ (λe C R s=>?_) (by show 0+_<=_;omega) ?_;simp![↓Vx,↓Kx,↓Yx];exact#[(),s];rw[Qd,bA Tf];refine Uv h i l ?_;rw[Jo r];by_cases c:p.1∈uE w st m;rw[dT c];simp![↓Xw];exact k _ kf #[λ_=>g.mpr (.inl c),λ_=>rfl];rw[dF c];simp![↓Xw,↓Sq,↓Vp,QA];exact k _ (decide (p.2.2.2<=(cs.9:Int))) (by rw[o2];exact#[λz=>g.mpr (.inr z),λz=>(g.mp z).resolve_left c])
theorem U0{w:Wd}{st:List Stp}{x m:Str}:∀{l:LS}{ls:List cx},xo (lw w st x) l ls->l.Nodup->m∈l->∃y r,ls.filter (λy=>decide (y.1=m))=y::r/\lw w st x m y
 |_,_,.nil,_,h=>nomatch h
 |_,_,@Paired.cons _ _ _ a b l ls h t,nd,hm=>by let#[f,v]:=Qj.mp nd;by_cases c:a=m;subst c;exact#[b,_,Wg (dT h.1),h];let#[y,r,e,k]:=U0 t v ((QK.mp hm).resolve_left λz=>c z.symm);exact#[y,r,(Wh (by rw[o2,h.1];exact c)).trans e,k]
theorem Mx{n m:Bool}:KA (.d (fc y)) n (.d (.int 0)) m R=R (.d (.str y.1)):=aA (i:=0) rfl
theorem Lx{n m:Bool}:KA (.d (fc y)) n (.d (.int 1)) m R=R (.d (.list (y.2.1.map DE))):=aA (i:=1) rfl
theorem Tz{a b:List D}:(T.tup [.lst (a.map T.d),.lst (b.map T.d)]).er=.tuple [.list a,.list b]:=M1 a b
theorem Sy(A:Ψ.sp "struck"=cR)(b:OnO w st m G X)(J:p∈w.ps)
  (k:∀(fl:List Pt) (K:LS) (o:Option Sl),ox w st p.1 fl->(∀z,z∈K↔Held (ND w st m p.1) (uE w st m) (HA w) z)->pF Ψ q Z (XW w st m p G X p.1 cs o8 U (bD (.list (fl.map pr))) o (bD (.list (K.map j0))) j)) :
  pF Ψ (.seq (.tset [10,11] (.call "struck" %[.var 0,.var 6|1]))
  (.seq (.set 12 (.comp [] ["_law_row"] (.nm 0) .val %[.idx (.idx (.comp [] ["_law_some"] (.nm 0) .val %[.var 11|1] (.cmp .Eq (.idx (.var 0) (.int 0)) (.var 3)) (.var 0)) (.int 0)) (.int 1)|1] .nop (.idx (.var 0) (.int 0)))) q)) Z (XW w st m p G X p.1 cs o8 U o10 o Y j):=by
 have a:=b.wo;have l:=a.ml;let#[C,n,rfl]:=b.so;delta XW at k ⊢;simp![↓jA (md:=[]) A rfl rfl];refine#[_,_,rfl,a,λi g fl ls f e W hl=>?_];cases XX n f;subst e;let#[y,r,B,v]:=U0 hl a.mn b.mm;have E:ls.9<=10:=by rw[<- qE hl];exact l
 refine#[rfl,?_];rw[Tz];simp![↓yA];rw[<- bA fc];refine fA (λy=>T.d (fc y)) (λy=>T.d (fc y)) (λy=>decide (y.1=m)) ls [] _ (λy v R h=>?_) (by show 0+_<=_;omega) ?_;simp![↓Mx];split at h;rename_i c;rw[i0 c];exact h;rename_i c;rw[ii c];exact h;rw[Qd,bA fc,B,QU,Nx,cT,GA];simp![↓Lx];rw[<- bA DE];have s:=v.2.2;refine CA (λr=>T.d (DE r)) (λr=>T.d (.str r.1)) y.2.1 [] _ (λr I R h=>?_) (by show 0+_<=_;omega) ?_;delta DE;simp![↓cT];exact h;rw[Qd,bA (λr:Rw=>j0 r.1),show(y.2.1.map λr=>j0 r.1)=(y.2.1.map λr=>r.1).map j0 by rw[QR];rfl];simp![↓yA];exact k fl _ _ W v.2.1
theorem jAV{E:XE}{ρ:xA}{L:Bool->xA->Prop}{f:Bi}{a:PX}:vP Ψ (.bi f a) E ρ L=zB Ψ (.bi f a) E ρ λt _ h=>k7 t λb=>L b h:=rfl
theorem Ry(C:OnO w st m G X){K:LS}{fl:List Pt}{Q:T->LT->Prop}(L:Good (tF (ND w st m p.1) F) (uE w st m) p.1 cs u)(W:∀y,y∈F↔Held (ND w st m p.1) (uE w st m) (HA w) y)(E:ox w st p.1 fl)(hl:fl.length<=1000)(r:∀z,z∈K↔Held (ND w st m p.1) (uE w st m) (HA w) z)(k:Q (.d (.bool kf)) []) :
  pF Ψ %[.for_ (.nm 13) .val %[.var 7|1] AK,.ret (.cmp .Eq (.bi .len %[.comp [] ["_law_pair"] (.nm 0) .val %[.var 10|1] (.and (.cmp .Eq (.idx (.var 0) (.int 1)) (.var 3)) (.cmp .In (.idx (.var 0) (.int 0)) (.var 13))) (.var 0)|1]) (.int 0))|2] (eZ Q) (XW w st m p G X p.1 cs o8 U (bD (.list (fl.map pr))) o (bD (.list (K.map j0))) j):=by
 delta XW;simp![↓yA];rw[<- bA jC cs];refine RA (λc=>T.d (jC c)) (λl a=>∃j,(∀c∈l,c∈cs)/\a=XW w st m p G X p.1 cs o8 U (bD (.list (fl.map pr))) o (bD (.list (K.map j0))) j) ?_ ?_ _ _ #[_,λ_ z=>z,rfl];rintro a ⟨j,_,rfl⟩;delta XW;simp![↓yA];rw[<- bA pr];refine fA (λp=>T.d (pr p)) (λ(p:Pt)=>T.d (pr p)) (λy=>decide (y.2=m)&&decide (y.1∈K)) fl [] _ (λy i R v=>?_) (by show 0+_<=_;omega) ?_;simp![↓Nb,↓xL,↓B6,lD,sC,xB,true_or];by_cases c:y.2=m;rw[dT c]at v ⊢;by_cases d:y.1∈K;rw[dT d]at v ⊢;exact v;rw[dF d]at v ⊢;exact v;rw[dF c]at v ⊢;exact v;have e:(fl.filter λy=>decide (y.2=m)&&decide (y.1∈K))=[]:=QBA.mpr λy i z=>by let#[b,A]:=vA z;have b:y.2=m:=oa b;have:=E.1 y i;rw[b]at this;exact this ((r _).mp (oa A))
 rw[e];show eM .len [(.lst (([]:List D).map T.d),kf)] _;simp![↓yA];exact k;rintro c l a N J ⟨B,g,rfl⟩;have hc:=L.chn c (g c QE);have P:=BN (ns:=(HA w).map λp=>p.1) hc.2.1 λs f=>by let#[n,h]:=oM ((W s).mp (V2 hc.1 s f));exact QO.mpr #[_,h,rfl]
 have M:=C.wo.pl;have O:((HA w).map λp=>p.1).9=w.ps.length:=by unfold HA;rw[QA,QA]
 delta XW jC;delta AK;simp![↓jAV];rw[<- bA j0];refine CA (λs=>T.d (.str s)) (λs=>T.d (.bool kf)) c [] _ (λs f R v=>?_) (by show 0+_<=_;omega) ?_;have:s∈K:=(r s).mpr ((W s).mp (V2 hc.1 s f));simp![lD,sC,xB,true_or,dT this];exact v;rw[Qd,show c.map (λ_=>T.d (.bool kf))=((c.map λ_=>PyData.bool kf).map T.d) by rw[QR];rfl,bu];refine#[c.map λ_=>kf,by rw[QR];rfl,?_];have e:(c.map λ_=>kf).all id=true:=by rw[QCL,Q0];exact λ_ _=>rfl
 rw[e];simp![↓yA];exact J _ #[_,λd I=>g d (QF _ I),rfl]
theorem Iy(h:Ψ.sp "apart_of"=sR)(v:OnO w st m G X)(k:∀F cs u,(∀y,y∈F↔Held (ND w st m p.1) (uE w st m) (HA w) y)->Good (tF (ND w st m p.1) F) (uE w st m) p.1 cs u->pF Ψ q Z (XW w st m p G X p.1 cs o8 U o10 o Y j)){o6 o7:Option Sl} :
  pF Ψ (.seq (.set 6 (.idx (.var 3) (.int 0))) (.seq (.set 7 (.idx (.call "apart_of" %[.var 0,.var 6,.var 2|1]) (.int 0))) q)) Z [bD (wD w),bD (.list ((rM st).map pr)),bD (.str m),bD (dH p),bD (.list (G.map j0)),jr (.bor (ec X)),o6,o7,o8,U,o10,o,Y,j]:=by
 let#[l,f,rfl]:=v.so;delta XW at k;simp![↓x3,↓jA (md:=[]) h rfl rfl];refine#[_,_,_,rfl,v.wo,λb a F cs u z e g i=>?_];cases XX f z;subst e;simp![↓vk,↓cT];exact k F cs u g i
end
end
section
variable{Ψ:PEv}{E:XE}{Z:PEnds}{ρ:xA}{u:List (Str×LS)}
theorem Xm(i:Ψ.sp "apart_of"=sR)(g:Ψ.sp "struck"=cR):EC Ψ C2 lR E2 eU:=by
 rintro _ Q _ ⟨w,st,m,p,G,u,rfl,⟨h,x⟩,q⟩;have hl:(rM st).9<=1000:=by let#[a,_,rfl]:=h.so;exact Va h.wo a
 refine zA [bD (wD w),bD (.list ((rM st).map pr)),bD (.str m),bD (dH p),bD (.list (G.map j0)),jr (.bor (ec u)),kv,kv,kv,kv,kv,kv,kv,kv] ?_;exact Iy i h λF l cut y z=>Ey h x y z λj e b=>Ay h x y z b (Sy g h x λfl K k v f=>Ry h z y v (QW v.2 hl) f q)
theorem jAj{r:PT}{i:Nat}{a:D}{b:List D}:BE Ψ E r Z i (.tup [.d a,.lst (b.map T.d)]) kf ρ=mB Ψ E r Z (ρ.set i (bD (.tuple [a,.list b]))):=by unfold BE;rw[vi];exact ot #[λh=>h.2,λh=>#[rfl,h]]
theorem Bw{K:TK}{a:PX}:zB Ψ (.dof a) E ρ K=zB Ψ a E ρ λx n h=>Af (nA x n).vw λz k=>K z k h:=rfl
theorem Ro{n:Bool}{Q:T->Bool->Prop}(nd:(u.map λy=>y.1).Nodup)(q:Q (ec u) kf):Af (nA (.lst ((u.map λy=>PyData.tuple [.str y.1,.list (y.2.map j0)]).map T.d)) n).vw Q:=by
 rw[UC];refine#[_,u.map λy=>(y.1,PyData.list (y.2.map j0)),rfl,by rw[rA,QR];rfl,by rw[QR];exact nd,?_];have x:(u.map λy=>(y.1,PyData.list (y.2.map j0))).map (λp=>j0 p.1)=u.map λy=>.str y.1:=by rw[QR];rfl
 have h:(u.map λy=>(y.1,PyData.list (y.2.map j0))).map (λp=>p.2)=u.map λy=>PyData.list (y.2.map j0):=by rw[QR];rfl
 rw[x,h];exact q
theorem jAk{h:PX}{md:List Md}{M:List (T×Bool)->xA->Prop}:n6 (ec u) kd Ψ h E md ρ M=AL Ψ h E md (lockA ρ) λxs _=>M xs ρ:=rfl
def lS(h:LJ)(w:Wd)(st:List Stp)(m:Str)(o5:Option Sl)(G:LS)(u:List (Str×LS))(o8:Option Sl):xA:=[jr (.bor (.lst ((h.map j1).map T.d))),bD (wD w),bD (.list ((U9 st).map nD)),bD (.list ((rM st).map pr)),bD (.str m),o5,bD (.list (G.map j0)),oW (ec u),o8]
theorem nz(z:Ψ.sp "_law_one"=lR){h:LJ}{w:Wd}{st:List Stp}{m:Str}{o5:Option Sl}{G:LS}{p:Str×Int×Int×Int}(y:OnO w st m G u)(x:p∈w.ps)(q:Z.nx (lS h w st m o5 G u (bD (dH p)))):pF Ψ uT Z (lS h w st m o5 G u (bD (dH p))):=by delta lS at q ⊢;delta uT;simp![↓xZ,↓jA (md:=[.fro,.fro,.fro,.fro,.fro,.bor]) z rfl rfl,↓OA,↓nW,↓jAk];refine#[w,st,m,p,G,u,rfl,#[y,x],rfl,?_];simp![↓yA];exact q
theorem Z8{P:Str×Int->Bool}:∀nd:List (Str×Int),(nd.filter P).9+(nd.filter λp=>!P p).9=nd.9
 |[]=>rfl|a::r=>by
  have h:=Z8 (P:=P) r;cases c:P a with|true=>rw[Wg c,Wh (by rw[c];exact QG),QM,QM];omega|false=>rw[Wh (by rw[c];exact QG),Wg (by rw[c];rfl),QM,QM];omega
theorem ue{nd:List (Str×Int)}{F:LS}(w:(nd.map λp=>p.1).Nodup)(fn:F.Nodup)(f:∀x∈F,x∈nd.map λp=>p.1):F.9+(EL nd F).9=nd.length:=by
 have k:((nd.filter λp=>decide (p.1∈F)).map λp=>p.1).Nodup:=w.sublist (Q3.map _);have v:F.Perm ((nd.filter λp=>decide (p.1∈F)).map λp=>p.1):=(List.perm_ext_iff_of_nodup fn k).mpr λy=>by constructor;intro h;let#[p,z,e]:=QO.mp (f y h);subst e;exact QO.mpr #[p,QX.mpr #[z,dT h],rfl];intro h;let#[p,z,e]:=QO.mp h;subst e;exact oa (QX.mp z).2
 have a:=v.length_eq;have b:=Z8 (P:=λp=>decide (p.1∈F)) nd;rw[QA]at a;unfold EL;rw[QA];omega
theorem Ml(c:Int)(ns:LS):∀p∈Dd c ns,1<=p.2.2.2:=λp x=>by let#[y,v,rfl]:=QO.mp x;have h:=DA (lA c (10+(y.2:Int)) / 48) (show(0:Int)<6 by decide);have:=(sF (l:=[1,1,1,2,2,3]) (d:=(0:Int)) h.1 h.2).2;show 1<=gI [1,1,1,2,2,3] (lA c (10+(y.2:Int)) / 48 % 6) (0:Int);generalize gI [1,1,1,2,2,3] (lA c (10+(y.2:Int)) / 48 % 6) (0:Int)=z at this;simp at this;omega
theorem Mm(h1:Ψ.sp "_law_world"=LM)(h2:Ψ.sp "_law_last"=uX)(h3:Ψ.sp "_law_mixed"=xG)(h4:Ψ.sp "_law_cell_at"=EI)(H:Ψ.sp "ground_of"=cX)(S:Ψ.sp "_law_one"=lR):EC Ψ Bb ZU Uj v8:=by
 rintro _ Q _ ⟨v,hl,hb,rfl,q⟩;refine zA [jr (.bor (.lst ((v.map j1).map T.d))),kv,kv,kv,kv,kv,kv,kv,kv] ?_;have a:=G6 v;have I:∀p∈(wF v).ps,1<=p.2.2.2:=Ml _ _;have L:0<((wF v).ms.9:Int):=by have:=(jz v).1.m1;show 0<((E4 v).9:Int);omega
 delta Bb;simp![↓jA (md:=[.shal]) h1 rfl rfl];refine#[_,rfl,?_];generalize wF v=w at *;simp![↓jAf,↓jA (md:=[]) h2 rfl rfl];refine#[_,rfl,a,λj st t W es et=>?_];have b:=DA (lA (pB v 1) 96) L;have Y:=(sF (l:=w.ms) (d:=#[#[]]) b.1 b.2).2;refine#[rfl,?_];rw[et];simp![↓jA (md:=[]) h3 rfl rfl,↓jA (md:=[.shal]) h4 rfl rfl,↓bH,↓zJ,↓CW,QA];refine#[(),gE (f:=j0) (l:=w.ms) #[#[]] b.1 b.2 ?_];generalize gI w.ms (lA (pB v 1) 96 % w.ms.9) #[#[]]=m at Y ⊢;simp_arith![↓jA (md:=[]) H rfl rfl];refine#[_,_,rfl,a,λC B k F u o e g P hc=>?_];cases XX W o;subst e;cases es;have X:((HA w).map λp=>p.1).Nodup:=by unfold HA;rw[QR];exact a.pn
 have fm:∀x∈F,x∈(HA w).map λp=>p.1:=λx G=>by let#[n,h]:=oM (g.held x G);exact QO.mpr #[_,h,rfl]
 have ol:=ue X g.ndp fm;have nl:(HA w).9=w.ps.length:=by unfold HA;rw[QA]
 have pl:=a.pl;let#[A,_]:=OS (nd:=HA w) hc;have rl:k.9=F.length:=by rw[g.e,QA]
 have yl:u.9=(EL (HA w) F).length:=by rw[<- A,QA]
 have cn:(u.map λy=>y.1).Nodup:=by rw[A];unfold EL;exact X.sublist (Q3.map _)
 have J:OnO w (tB w j).steps m F u:=#[a,I,#[j,W,rfl],Y,P,(),hc]
 simp![↓jAj,↓DW,↓cT,↓Jg,GA];rw[<- bA DE k];refine CA (λr=>T.d (DE r)) (λr=>T.d (.str r.1)) k [] _ (λr hr R s=>?_) (by show 0+k.9<=_;omega) ?_;delta DE;simp![↓cT];exact s;rw[Qd,bA (λr:Rw=>j0 r.1),show(k.map λr=>j0 r.1)=(k.map λr=>r.1).map j0 by rw[QR];rfl,<- g.e];simp![↓Bw,↓DW,↓cT,↓Jg,GA];rw[<- bA L5 u];refine CA (λy=>T.d (L5 y)) (λy=>T.d (L5 y)) u [] _ (λy hy R s=>?_) (by show 0+u.9<=_;omega) ?_;delta L5;simp![↓yA];exact#[(),s];rw[Qd,bA L5];refine Ro cn ?_;simp![↓DT];rw[<- bA dH];refine RA (λp=>T.d (dH p)) (λl ρ=>∃i,(∀p∈l,p∈w.ps)/\ρ=lS v w (tB w j).steps m (bD (.tuple [.list (k.map DE),.list (u.map L5)])) F u i) ?_ ?_ _ _ #[kv,λ_ z=>z,rfl];rintro ρ ⟨i,_,rfl⟩;delta lS ec;simp![↓Fh,↓DT,QA];refine Fh ?_;simp![↓DT,QA];rw[show decide (((F.9:Nat):Int)+((u.9:Nat):Int)=((w.ps.9:Nat):Int))=kf by rw[o2];omega];exact q;rintro p r ρ N O ⟨i,K,rfl⟩;exact nz S J (K p QE) (O _ #[_,λd M=>K d (QF _ M),rfl])
end
end L2.L3.K46
namespace L2.L3
open PySem PySem.Spec PyProof.Rows L2.L3.Q
section
variable{K:QC}{x:Str}{st:gV}
theorem pY{h:vu}:∀(y:List ko),(yx y h).In h
 |[],a,o,e=>nomatch e
 |b::y,a,o,e=>by
  unfold yx at e;rw[WN]at e;cases c:h.get? b with
  |none=>rw[c]at e;exact pY y a o e|some z =>
   rw[c]at e;have e:QCZ a ((b,z)::yx y h)=jr o:=e;rw[wu]at e;cases d:a==b with|true=>rw[d]at e;cases e;rw[beq_iff_eq.mp d];exact c|false=>rw[d]at e;exact pY y a o e
theorem Bo{q:Str}{f:ko}{y:zl}{w:kb}{v:Option ko}{z:Array (Option kb)}(hl:K.lookup f=jr #[w,v,.func y,z])(h:Gq y (Wp K y.code q&&wW K (.ref f))=Gq (qy x q (dD st) (iC st) (EA st) .none .none .none .none kv .none .none) kf):∃y,Fun K x q st f y:=by let#[Y,X,s,r,p,o,n,m,l,j,i,g,e,b,a]:=y;unfold Gq at h;injection h with h1 h2;injection h2 with h2 h3;injection h1 with b1 h1;injection h1 with b2 h1;injection h1 with b3 h1;injection h1 with b4 b5;injection h2 with c1 h2;injection h2 with c2 h2;injection h2 with c3 c4;let#[u,k]:=W7.mp h3;simp only at b1 b2 b3 b4 b5 c1 c2 c3 c4 u;subst b1 b2 b3 b4 b5 c1 c2 c3 c4;exact#[_,Co hl u k]
theorem C7(h:rY K x=ZV x st)(y:(ZV x st).isSome=kf):j3 K x st:=by
 have z:ZV x st=jr (Gq (qy x x (dD st) (iC st) (EA st) .none .none .none .none kv .none .none) kf):=by cases st<;>first|rfl|cases y
 rw[z]at h;unfold rY at h;split at h;rename_i f hf;split at h;rename_i hl;let#[u,F]:=Bo hl (Qm h);exact#[f,u,hf,F];cases h;cases h
theorem yd(h:BX K x=kf):qw K k4 x=jr none:=by unfold BX at h;split at h;assumption;cases h
theorem B7{i:Int}(h:Vk K x=jr i):UO K x (.int i):=by
 unfold Vk at h;split at h;rename_i u hu;cases u with|int j t=>cases h;exact#[_,_,hu,rfl,λ_=>.int i]|_=>cases h
 cases h
theorem yU:∀{us:LW}{xs:LS},us.map js=xs.map jr->us.map XO=xs.map λy=>jr (.str y)
 |[],[],_=>rfl|[],_::_,h=>by cases h|_::_,[],h=>by cases h|u::us,x::xs,h=>by
  injection h with h1 h2;rw[QU,QU,yU h2];cases u with|str z t=>cases h1;rfl|_=>cases h1
theorem M3{xs:LS}(h:Uk K x=jr (xs.map jr))(y:xs.9<=kn):UO K x (.tuple (xs.map j0)):=by unfold Uk at h;split at h;rename_i f hf;split at h;rename_i t od its n osl hl;split at h;rename_i et;subst et;injection h with h;exact S6 (its:=its.toList) hf (by simpa using hl) (yU h) y;cases h;cases h;cases h
theorem go_of(e:seen K=due):eG K tA=true:=(QAJ (QAJ (QAJ (QAJ e).2).2).2).2
end
section
variable{K:QC}{h:vu}{mg:Str->Option kb}{T:ko}
theorem JV(e:eG K T=kf)(X:K.In h)(G:h.Ns k4 mg):(∃f k w v z c,mg "going_order"=jr (.ref f)/\K.lookup f=jr #[k,w,.func v,z]/\v.code=.ref c/\QAy K c T=kf)/\(∀y:vu,K.In y->y.BuiltinsAt mg T)/\K.lookup T=kv/\k4≠T:=by
 let#[u,e]:=vA e;let#[x,e]:=vA e;let#[e3,a]:=vA e;refine#[?_,?_,QAc.mp e3,bne_iff_ne.mp a];split at u
 ·rename_i f hf
  split at u;rename_i k w v z hl;split at u;rename_i c hc;exact#[f,k,w,v,z,c,We X G hf,hl,hc,u];cases u;cases u
 cases u;intro y Y;split at x;rename_i b hb;split at x;rename_i t d z hl;let#[m,x]:=vA x;let#[l,x]:=vA x;let#[j,x]:=vA x;let#[i,g]:=vA x;exact#[b,_,We X G hb,bne_iff_ne.mp j,bne_iff_ne.mp i,bne_iff_ne.mp g,Y _ _ hl,by rw[beq_iff_eq.mp m],by rw[beq_iff_eq.mp l],rfl];cases x;cases x
theorem Uo(e:eG K T=kf)(X:K.In h)(G:h.Ns k4 mg):∃v c,(∀x:vu,K.In x->∀P q,FQ mg x P q->P=T/\q=v)/\QAy K c T=kf/\K.lookup T=none:=by let#[#[f,I,F,C,w,c,p,n,m,y],_,l,_]:=JV e X G;refine#[C.qualname++".<locals>.<lambda>",c,λx Y P q t=>?_,y,l];let#[M,o,B,N,A,W,Z,s,#[L,E,_,_,_,_,_,_,_,j,_,i,g,_],r]:=t;cases p.symm.trans A;have z:=W.symm.trans (Y _ _ n);cases z;cases Z;cases m.symm.trans s;let#[J,u,_,_,_,_,_,_,_,b,_,a,k,_]:=QAK Y y;cases j.symm.trans b;cases i.symm.trans a;cases g.symm.trans k;exact#[rfl,r]
end
theorem walk_seen{l:PySem.W.OpenLaw}{k:Nat}{q:k5}{loose:LS}{XP:(Str->Option kb)->vu->Prop}{YP:xb->vu->Prop}{d:DefRec}{x:Str}{Fs:QC->Prop}{T:ko}
  (hn:l.most=jr 63) (C:d.params.defaults=[]) (S:Room k nj) (hY:∀(w:xb) (h:vu),YP w h->∃K:QC,K.In h/\Fs K/\h.get? T=jr (QBg #[])) (B:∀K,Fs K->eG K T=kf)
  (F:∀(w:xb) (mg:Str->Option kb) (p:ko) (h:vu) (K:QC),K.In h->Fs K->eG K T=kf->h.Ns k4 mg->mg d.name=jr (.ref p) ->
   ∃E:zl,(∀(s:kt) (u:kb),mA s E #[[u],[]] [(x,u)]) /\
    ∀y:vu,K.In y->y.Ns k4 mg->FnOk l.prog w K mg y Z6 k p E [x] (lift K ZU)) :
  PySem.W.WalkO q loose XP YP l.row.toRowW d [] (λf vs=>PySem.call f vs):=by
 intro w L J mg mb G Y p o pm cd doc dV kV ho hd hcd M A hg args I as j n R Z hlo;obtain rfl:dV=.none:=PySem.W.Dflts.none M C;obtain rfl:kV=.none:=PySem.W.Dflts.noKw M;let#[a,vs,P,rfl,rfl,m,i,v]:=Att.script_of hn j Z;let#[K,X,fs,Q]:=hY w _ Y;have N:=B K fs;let#[tq,c,g1,g2,g3]:=Uo N X G.T.g;let#[E,hb,hF]:=F w mg p _ K X fs N G.T.g A;refine PySem.W.enter_call (QCI (L9 g1 ((QAK X g2).tab Q) g3 X G.T.g G.T.b G.T.builtins G.T.nolimit hg m i (QW v (by decide)) S hF hb (λH hO hS=>On _ H a P v (eg n) hS) λH e O=>λz=>z) λr O hq=>?_);let#[rfl,h2,h3,h4]:=hq;exact#[.inl #[.bool kf,.bool kf,[],rfl,λ_=>rfl,.bool kf,Att.post_true l _,λ_=>#[List.Pairwise.nil,λ_ hm=>(nomatch hm)]],h2,h3,h4]
end L2.L3
namespace L2.L3.K46
open PySem PySem.Spec PyProof.Rows L2 L2.L3 L2.L3.Q
def jAS:Nat->(LW->Prop)->Prop
 |0,p=>p []|n+1,p=>∀u,jAS n λh=>p (u::h)
theorem jAq:∀{n:Nat}{p:LW->Prop},jAS n p->∀us:LW,us.9=n->p us
 |0,_,h,us,e=>by rw[QAu.mp e];exact h|_+1,_,_,[],e=>nomatch e
 |_+1,_,h,u::us,e=>jAq (h u) us (Nat.succ.inj e)
def jB1(x q:Str)(st:gV)(u:LS):Prop:=∀(kV h v:kb) (k:Option ko) (y w:kb),jAS u.9 λz=>lp (qy x q (dD st) (iC st) (EA st) .none kV h v k y w) #[z,[]]=ti (u.zip z)
noncomputable def aq:List (Str×D):=tT.map (λp=>(p.1,.tuple (p.2.map j0)))++sT.map λp=>(p.1,.int p.2)
structure Cx(K:QC)(h:vu)(mg:Str->Option kb):Prop where
 X:K.In h
 G:h.Ns k4 mg
 V:∀p∈aq,UO K p.1 p.2
 N:∀y∈nT,qw K k4 y=jr kv
 D:∀p∈fT,j3 K p.1 (top p.2)
theorem SE{α:Type}{d:α}:∀{l:List α}{i:Nat},QCn i l.9=kf->l.getD i d∈l
 |[],_,h=>nomatch h
 |_::_,0,_=>.head _|_::_,_+1,h=>.tail _ (SE (Nat.blt_eq.mpr (ww (Nat.blt_eq.mp h))))
theorem Mh{α:Type}{l:List (Str×α)}{p:Str×α}(nd:(l.map qP).Nodup)(h:p∈l):l.lookup p.1=jr p.2:=by
 induction l with|nil=>cases h|cons a l y=>let#[x,s]:=a;rw[QU,Qj]at nd;rw[wu];rcases QK.mp h with rfl|h;rw[beq_self_eq_true];have v:p.1∈l.map qP:=QAG h;have u:(p.1==x)=false:=beq_eq_false_iff_ne.mpr λz=>nd.1 (by rw[<- z];exact v);rw[u];exact y nd.2 h
def Kh:LS:=fT.map qP
def fx(i:Nat):Str×Nat:=fT.getD i ("",0)
def tbl(r:List PSp):PEv:=Pg (Kh.zip r) aq
theorem IT{r:List PSp}(i:Nat)(h:QCn i aq.length=true:=by rfl):(tbl r).va (aq.getD i ("",.none)).1=jr (aq.getD i ("",.none)).2:=Mh (ME (by kernel_rfl)) (SE h)
theorem Vs{r:List PSp}(nd:aK ((Kh.zip r).map qP)=kf)(i:Nat)(h:QCn i (Kh.zip r).9=kf):(tbl r).sp ((Kh.zip r).getD i ("",Zq)).1=((Kh.zip r).getD i ("",Zq)).2:=by show(QCZ _ _).getD Zq=_;rw[Mh (ME nd) (SE h)];rfl
noncomputable def nB(n:Need)(fs:LS):Bool:=n.fn.all (λx=>fs.contains x)&&((n.va.all λx=>(aq.map qP).contains x)&&n.no.all (λx=>nT.contains x))
section
variable{P:k5}{w:xb}{K:QC}{h base:vu}{mg:Str->Option kb}{r v:List PSp}{R:PSp}{u:LS}{k:Nat}{b:PT}{n:Need}{N z:LS}
theorem hv(C:Cx K h mg)(A:∀g∈u,jH P w K mg base (tbl r) k g)(i:Nat)(yC:BA n b N z (top (fx i).2)=kf)
  (body:∀ts Q E,R.run ts Q E->ts.9=z.9/\mB (tbl r) (λ_=>False) b (zD R z.9 Q) (rB N R.md ts)) (o:(tbl v).sp (fx i).1=R) (hc:eK (BB 0 R.md z.9) b=true:=by kernel_rfl)
  (hb:jB1 (fx i).1 (fx i).1 (top (fx i).2) z:=by(repeat intro _);rfl)
  (x:nB n u=true:=by kernel_rfl) (l:QCn i fT.length=true:=by rfl):jH P w K mg base (tbl v) (k+1) (fx i).1:=by
 let#[s,x]:=vA x;let#[q,p]:=vA x;exact Ba C.X C.G (C.D _ (SE l)) yC hc (λa b c d e f=>jAq (hb a b c d e f)) (λg m=>A g (kR s g m)) (lZ C.X C.G C.V q) (λy j=>C.N y (kR p y j)) body o
theorem hc(A:∀g∈u,jH P w K mg base (tbl r) k g){x:Str}(Z:jH P w K mg base (tbl r) (k+1) x):∀g∈x::u,jH P w K mg base (tbl r) (k+1) g:=by intro g y;rcases QK.mp y with rfl|y;exact Z;exact(A g y).mono (qq _)
theorem hl(C:Cx K h mg)(A:∀g∈u,jH P w K mg base (tbl r) k g){x q:Str}{st:gV}{f:ko}{e:zl}(F:Fun K x q st f e)(yC:BA n b N z st=kf)
  (body:∀ts Q E,R.run ts Q E->ts.9=z.9/\mB (tbl r) (λ_=>False) b (zD R z.9 Q) (rB N R.md ts)) (hc:eK (BB 0 R.md z.9) b=true:=by kernel_rfl) (a:nB n u=true:=by kernel_rfl):FnOk P w K mg base Z6 (k+1) f e z (lift K R):=by
 let#[o,a]:=vA a;let#[m,l]:=vA a;exact Ga F yC hc (λg j=>A g (kR o g j)) (lZ C.X C.G C.V m) (λy i=>QAR C.X C.G (C.N y (kR l y i))) body
theorem cx_of(X:K.In h)(G:h.Ns k4 mg)(e:seen K=due)(m:(fT.all λp=>(ZV p.1 (top p.2)).isSome)=kf)(l:(tT.all λp=>decide (p.2.9<=1000))=kf):Cx K h mg:=by injection e with i e;injection e with g e;injection e with e3 e;injection e with f _;have i:=Wo.mp i;have g:=Wo.mp g;have e3:=Wo.mp e3;have f:=Wo.mp f;refine#[X,G,λp x=>?_,λy j=>yd (f y j),λp x=>C7 (i p x) (Q0.mp m p x)];rcases Qf.mp x with x|x;let#[q,a,rfl]:=QO.mp x;have:=oa (Q0.mp l q a);exact M3 (g q a) ();let#[q,a,rfl]:=QO.mp x;exact B7 (e3 q a)
end
section
variable{P:k5}{w:xb}{h:vu}{mg:Str->Option kb}
def Jq:List PSp:=[xG,EI,gK,kG,OI,kX,lK,NM,rR,tR,LM,gt,aR,dR,RM,aZ,RI,zG,kH,SM,MM,xH,jJ,SI,vG,mR,vH,AI,oR,II,OD,VE,OM,xF,PD,dM,uX,vX,gR,zX,fK,iZ,dX,PM,cX,HM,gX,sR,xX,nR,bX,fX,cR,lR,ZU]
theorem eA(i:Nat)(h:QCn i (Kh.zip Jq).9=true:=by rfl):(tbl Jq).sp ((Kh.zip Jq).getD i ("",Zq)).1=((Kh.zip Jq).getD i ("",Zq)).2:=Vs (by kernel_rfl) i h
theorem jBx{K:QC}{x:vu}{k:Nat}(C:Cx K h mg)(q:eG K tA=kf)(v:K.In x)(m:x.Ns k4 mg):jH P w K mg x (tbl Jq) (k+1) "going_order":=by let#[f,M,p,#[#[J,I,kV,B,F,R,b,Q,i,rfl,lk,a],n]]:=C.D (fx 11) (SE rfl);let#[#[O,l,j,A,e,c,g,W,Z,Y],s,L,r]:=JV q C.X C.G;cases(We C.X C.G p).symm.trans g;cases lk.symm.trans W;cases(show b=.ref c from Z);have z:=λy (o:nT.contains y=kf)=>QAR C.X C.G (C.N y (Qv.mp o));exact Df v m g lk a n (QAK v Y) (s x v) r (z _ (by kernel_rfl)) (z _ (by kernel_rfl)) (z _ (by kernel_rfl)) (λE hl=>by let#[u,rfl]:=QBB.mp hl;rfl) (eA 11)
theorem all{K:QC}{v:ko}(C:Cx K h mg)(b:eG K tA=kf)(y:mg "law"=jr (.ref v)) :
  ∃z:zl,(∀(s:kt) (u:kb),mA s z #[[u],[]] [("_law_script",u)])/\∀x:vu,K.In x->x.Ns k4 mg->FnOk P w K mg x Z6 55 v z ["_law_script"] (lift K ZU):=by
 refine Pn C.X C.G (C.D (fx 54) (SE rfl)) rfl y (eA 54) (λ_ _ _ _ _ _ e hl=>by let#[u,rfl]:=QBB.mp hl;rfl) λx a k f z F _=>?_;have A:∀g∈([]:LS),jH P w K mg x (tbl Jq) 0 g:=nofun;have A:=hc A (hv C A 0 NY Cm (eA 0));have A:=hc A (hv C A 1 IS Me (eA 1));have A:=hc A (hv C A 2 ES Gm (eA 2));have A:=hc A (hv C A 3 LY P8 (eA 3));have A:=hc A (hv C A 4 HY (O8 (eA 3) (eA 0) (eA 2)) (eA 4));have A:=hc A (hv C A 5 SV Vm (eA 5));have A:=hc A (hv C A 6 TV t4 (eA 6));have A:=hc A (hv C A 7 MY T8 (eA 7));have A:=hc A (hv C A 8 OY (jn (eA 2) (eA 7)) (eA 8));have A:=hc A (hv C A 9 jT Oe (eA 9));have A:=hc A (hv C A 10 GY (N8 (eA 0) (eA 1) (eA 4) (eA 5) (eA 6) (eA 8) (eA 9)) (eA 10));have A:=hc A (jBx C b a k);have A:=hc A (hv C A 12 nO xn (eA 12));have A:=hc A (hv C A 13 BY Be (eA 13));have A:=hc A (hv C A 14 IV A8 (eA 14));have A:=hc A (hv C A 15 EV (Bt (eA 13) (eA 14) (eA 12)) (eA 15));have A:=hc A (hv C A 16 aP Ue (eA 16));have A:=hc A (hv C A 17 fO (M8 (eA 16) (eA 12)) (eA 17));have A:=hc A (hv C A 18 eP De (eA 18));have A:=hc A (hv C A 19 jW yn (eA 19));have A:=hc A (hv C A 20 OV Ym (eA 20));have A:=hc A (hv C A 21 RY Pe (eA 21));have A:=hc A (hv C A 22 kW (Re (eA 21)) (eA 22));have A:=hc A (hv C A 23 PV (m4 (eA 22) (eA 21) (IT 0) (IT 1)) (eA 23));have A:=hc A (hv C A 24 GJ (S8 (IT 0)) (eA 24));have A:=hc A (hv C A 25 AS (Lm (IT 0)) (eA 25));have A:=hc A (hv C A 26 lO i4 (eA 26));have A:=hc A (hv C A 27 KP (E8 (eA 26)) (eA 27));have A:=hc A (hv C A 28 ZP Le (eA 28));have A:=hc A (hv C A 29 uM (j9 (eA 23) (eA 24) (eA 25) (eA 27) (eA 28) (IT 0)) (eA 29));have A:=hc A (hv C A 30 vM (Ve (eA 29)) (eA 30));have A:=hc A (hv C A 31 xM (y9 (eA 30)) (eA 31));have A:=hc A (hv C A 32 RV Um (eA 32));have A:=hc A (hv C A 33 iP (Fe (eA 31) (eA 32)) (eA 33));have A:=hc A (hv C A 34 JP (Ge (eA 16) (eA 20) (eA 19) (eA 33)) (eA 34));have A:=hc A (hv C A 35 ug (He (eA 11) (eA 15) (eA 17) (eA 18) (eA 34)) (eA 35));have A:=hc A (hv C A 36 P5 (Nm (eA 35)) (eA 36));have A:=hc A (hv C A 37 DY Fm (eA 37));have A:=hc A (hv C A 38 CY Ce (eA 38));have A:=hc A (hv C A 39 UY (Zm (eA 38) (eA 16)) (eA 39));have A:=hc A (hv C A 40 N5 (am (eA 20) (eA 39) (eA 19) (eA 37)) (eA 40));have A:=hc A (hv C A 41 kT (Ct (eA 31) (eA 30)) (eA 41));have A:=hc A (hv C A 42 zT (Em (eA 40) (eA 41) (eA 32)) (eA 42));have A:=hc A (hv C A 43 mO (Bm (eA 35)) (eA 43));have A:=hc A (hv C A 44 yT (Am (eA 42) (eA 43)) (eA 44));have A:=hc A (hv C A 45 gO om (eA 45));have A:=hc A (hv C A 46 zW (vn (eA 45) (eA 40) (eA 30) (eA 33)) (eA 46));have A:=hc A (hv C A 47 yW (zn (eA 46) (eA 43)) (eA 47));have A:=hc A (hv C A 48 FY (Hm (eA 45) (eA 40) (eA 41) (eA 32)) (eA 48));have A:=hc A (hv C A 49 sI (Om (eA 45) (eA 40) (eA 33)) (eA 49));have A:=hc A (hv C A 50 PY Sm (eA 50));have A:=hc A (hv C A 51 vT (Im (eA 49) (eA 50)) (eA 51));have A:=hc A (hv C A 52 O5 (Jm (eA 43) (eA 48) (eA 51)) (eA 52));have A:=hc A (hv C A 53 cb (Xm (eA 47) (eA 52)) (eA 53));exact hl C A F zp (Mm (eA 10) (eA 36) (eA 0) (eA 1) (eA 44) (eA 53))
def hk:PySem.W.Hook:=#[N2×Option Obj,ob,λ_=>(due,jr (QBg #[])),λ_ h=>∃K:QC,K.In h/\seen K=due/\h.get? tA=jr (QBg #[]),λ_ _ e=>#[_,pY _,(QAJ e).1,(QAJ e).2],λ_ _ _ #[K,X,e,t] k=>#[K,X.keeps k,e,k _ _ t]]
end
end L2.L3.K46
open PySem PySem.W PyProof.Rows
set_option maxRecDepth 100000 in
set_option maxHeartbeats 0 in
theorem PySem.Challenge.cw_quoteweave_k46_whole_enough_apart_holds : PySem.Challenge.rw_quoteweave_k46_whole_enough_apart.Holds := by
 refine holds_law L2.L3.Q.ws λy=>?_;refine holds_open (q:=L2.L3.Q.qv) (loose:=[]) (Xt:=L2.L3.Q.xt) (XP:=XL L2.L3.Q.qv []) (Yf:=Hook.obs L2.L3.K46.hk) (Ya:=Hook.val L2.L3.K46.hk) (YP:=Hook.says L2.L3.K46.hk) (N:=3532) L2.L3.Q.lf (Hook.of L2.L3.K46.hk) (Hook.keeps L2.L3.K46.hk) (λs e=>xl_of s (W7.mp e).1) XL.keeps (by rfl) (by rfl) (by rfl) (λs e=>recFacts_of (W7.mp e).2) (by rfl) (by first|assumption|decide +kernel) (by decide +kernel) ⟨rfl,rfl,rfl,rfl,rfl,by decide +kernel⟩ ?hw ?hc
 case hw=>w_witness2
 case hc=>exact L2.L3.walk_seen (l:=Q6) (k:=55) (x:="_law_script") (Fs:=λK=>L2.L3.Q.seen K=L2.L3.Q.due) rfl rfl ⟨rfl,by decide,by decide⟩ (λw h Y=>Y) (λK e=>L2.L3.go_of e) λw u v h K X e z G m=>L2.L3.K46.all (L2.L3.K46.cx_of X G e (by kernel_rfl) (by kernel_rfl)) z m
